/- Maps by their keys: what stands at each, and how many there are: laws of the walk; no program is named here.
   Numbers as bytes, the greatest first, and back: plain lemmas.
   Lists of byte slices that a call makes: rows of slices, and what their slices read as; fields by their widths. No program is named here.
   Byte slices and lists of them that lie apart from one block, which is written meanwhile. No program is named here.
   The element types of this seat's slices.
   Lists of things at places, as the walks read them. No program is named here.
   Rows of things at places that a call lays itself: append to them, and what they read as. No program is named here. -/
import Derived.Maps.OwnSet
import Derived.Test.YtpbpegoobgfjcaaG01
import Derived.Test.YtpbpegoobgfjcaaRows
import Derived.Deep.Matrix
namespace Go.Proofs.Ytpbpegoobgfjcaa
open Go.RowKit
open Go.Maps (Keyed)
open Go.WideElems (Fit rd rg pl rd_val)

/-- an element is read as itself -/
def Rv (v : Value) : Option (DataW Value × List MemPlace) := some (.held v, [])

/-- The keys kv x of type k, x of what is ok: each is a key, and no two are one. -/
structure KeyT (P : Program) (k : TypeId) {κ : Type} (kv : κ → Value) (ok : κ → Prop) : Prop where
  K : Keyed P k
  lit : ∀ x, ok x → ∃ kl, keyOf P k (kv x) = some kl
  inj : ∀ x y, kv x = kv y → x = y

/-- Block b is a map of n entries; at x stands f x. -/
structure MapI (w : World) (P : Program) (k : TypeId) {κ : Type} (kv : κ → Value) (ok : κ → Prop) (b n : Nat) (f : κ → Option Value) : Prop where
  is : ∃ D : DataW Value, w.ownsMap P k Rv b n D ∧ Maps.size D = n ∧ ∀ x, ok x → ∀ kl, keyOf P k (kv x) = some kl → Maps.has D kl = (f x).isSome ∧ ∀ z, D.atKey kl (.held z) = .held ((f x).getD z)

section
variable {P : Program} {w : World} {k t e : TypeId} {κ : Type} {kv : κ → Value} {ok : κ → Prop} {b n : Nat} {f : κ → Option Value}

theorem ownsMap_tight {D : DataW Value} (h : w.ownsMap P k Rv b n D) : w.ownsMap P k Rv b (Maps.size D) D := by
  obtain ⟨es, clock, hb, F, hs, rfl⟩ := h
  exact ⟨es, clock, hb, F, by simp [Maps.size, length_sorted], rfl⟩

theorem MapI.made (w : World) (P : Program) (k : TypeId) {κ : Type} (kv : κ → Value) (ok : κ → Prop) : MapI (w.alloc (.map #[] 0)) P k kv ok w.heap.size 0 (fun _ => none) :=
  ⟨_, World.ownsMap_made w P k Rv, rfl, fun _ _ _ _ => ⟨rfl, fun _ => rfl⟩⟩
theorem MapI.lt (h : MapI w P k kv ok b n f) : b < w.heap.size := by obtain ⟨D, h1, _⟩ := h.is; exact h1.lt
theorem MapI.heap (h : MapI w P k kv ok b n f) : ∃ es clock, w.heap[b]? = some (.map es clock) := by
  obtain ⟨D, ⟨es, clock, hb, _⟩, _⟩ := h.is; exact ⟨es, clock, hb⟩
theorem MapI.stay {w' : World} (h : MapI w P k kv ok b n f) (hb : w'.heap[b]? = w.heap[b]?) : MapI w' P k kv ok b n f := by
  obtain ⟨D, ⟨es, clock, h1, h2⟩, h3⟩ := h.is
  exact ⟨D, ⟨es, clock, hb.trans h1, h2⟩, h3⟩
theorem MapI.ne {g : Nat} {t' : TypeId} {cs : List Value} (h : MapI w P k kv ok b n f) (hk : Blk w g t' cs) : g ≠ b := fun e => by
  subst e
  obtain ⟨es, clock, hb⟩ := h.heap
  rw [hk.heap] at hb
  cases hb

theorem run_makeMapI (t : TypeId) (m : Int) (ht : P.underlying t = some (.map k e)) (w : World) : (Instr.makeMap t (some (.int .i64 m))).run P w = .ok (.map (some w.heap.size)) (w.alloc (.map #[] 0)) := by
  simp [Instr.makeMap, Sem.run_bind, run_underlying ht, asInt, Result.andThen]
  rfl

theorem MapI.look (h : MapI w P k kv ok b n f) (T : KeyT P k kv ok) (ht : P.underlying t = some (.map k e)) {z : Value} (hz : (zeroValue e).run P w = .ok z w) {x : κ} (hx : ok x) :
    (Instr.lookup t (.map (some b)) (kv x) false).run P w = .ok ((f x).getD z) w := by
  obtain ⟨D, h1, _, h3⟩ := h.is
  obtain ⟨kl, hkl⟩ := T.lit x hx
  obtain ⟨v, ps, hr, hv⟩ := h1.lookup T.K ht hz (zd := .held z) (zp := []) rfl hkl
  rw [(h3 x hx kl hkl).2 z] at hv
  have e1 : v = (f x).getD z := by
    have := congrArg Prod.fst (Option.some.inj hv)
    injection this
  rw [← e1]; exact hr
theorem MapI.look_ok (h : MapI w P k kv ok b n f) (T : KeyT P k kv ok) (ht : P.underlying t = some (.map k e)) {z : Value} (hz : (zeroValue e).run P w = .ok z w) {x : κ} (hx : ok x) :
    (Instr.lookup t (.map (some b)) (kv x) true).run P w = .ok (.tuple #[(f x).getD z, .bool (f x).isSome]) w := by
  obtain ⟨D, h1, _, h3⟩ := h.is
  obtain ⟨kl, hkl⟩ := T.lit x hx
  obtain ⟨v, ps, hr, hv⟩ := h1.look_ok T.K ht hz (zd := .held z) (zp := []) rfl hkl
  rw [(h3 x hx kl hkl).2 z] at hv
  rw [(h3 x hx kl hkl).1] at hr
  have e1 : v = (f x).getD z := by
    have := congrArg Prod.fst (Option.some.inj hv)
    injection this
  rw [← e1]; exact hr
theorem MapI.keys_ne (T : KeyT P k kv ok) {x y : κ} (hxy : x ≠ y) {kx ky : Lit} (hx : keyOf P k (kv x) = some kx) (hy : keyOf P k (kv y) = some ky) : kx ≠ ky := fun e => by
  subst e
  exact hxy (T.inj _ _ (T.K.inj hx hy))

theorem MapI.store [DecidableEq κ] (h : MapI w P k kv ok b n f) (T : KeyT P k kv ok) (ht : P.underlying t = some (.map k e)) (hn : n < maxLen) {x : κ} (hx : ok x) (v : Value) :
    ∃ w', (Instr.mapUpdate t (.map (some b)) (kv x) v).run P w = .ok () w' ∧ MapI w' P k kv ok b (if (f x).isSome then n else n + 1) (fun y => if y = x then some v else f y) ∧ Only b w w' := by
  obtain ⟨D, h1, h2, h3⟩ := h.is
  obtain ⟨kl, hkl⟩ := T.lit x hx
  obtain ⟨w', hr, ho, htu⟩ := h1.store T.K ht hn (d := .held v) (ps := []) hkl rfl
  refine ⟨w', hr, ⟨D.put kl (.held v), ?_, ?_, ?_⟩, ?_⟩
  · have := ownsMap_tight ho
    rw [Maps.size_put (h1.tidy T.K), (h3 x hx kl hkl).1, h2] at this
    exact this
  · rw [Maps.size_put (h1.tidy T.K), (h3 x hx kl hkl).1, h2]
  · intro y hy ky hky
    by_cases hyx : y = x
    · subst hyx
      obtain rfl : ky = kl := by rw [hkl] at hky; exact (Option.some.inj hky).symm
      simp only [if_true, Option.isSome_some, Option.getD_some]
      exact ⟨Maps.has_put_same h1.isMap (T.K.key hkl) _, fun z => Maps.atKey_put_same h1.isMap (T.K.key hkl) _ _⟩
    · simp only [if_neg hyx]
      have hne := MapI.keys_ne T hyx hky hkl
      exact ⟨(Maps.has_put_other hne _).trans (h3 y hy ky hky).1, fun z => (Maps.atKey_put_other hne _ _).trans ((h3 y hy ky hky).2 z)⟩
  · obtain ⟨es, clock, es', clock', hb, rfl⟩ := htu
    exact ⟨rfl, rfl, rfl, by simp [ChangeMaps.setBlock], fun i hi => ChangeMaps.heap_setBlock_other hb _ hi⟩
theorem MapI.drop [DecidableEq κ] (h : MapI w P k kv ok b n f) (T : KeyT P k kv ok) (ht : P.underlying t = some (.map k e)) {x : κ} (hx : ok x) (ty : TypeId) :
    ∃ w', (Builtin.delete_ #[t, k] ty #[.map (some b), kv x]).run P w = .ok (.tuple #[]) w' ∧ MapI w' P k kv ok b (n - (if (f x).isSome then 1 else 0)) (fun y => if y = x then none else f y) ∧ Only b w w' := by
  obtain ⟨D, h1, h2, h3⟩ := h.is
  obtain ⟨kl, hkl⟩ := T.lit x hx
  obtain ⟨w', hr, ho, htu⟩ := h1.drop T.K ht hkl ty
  have hsz := Maps.size_del (k := kl) (h1.tidy T.K)
  rw [(h3 x hx kl hkl).1, h2] at hsz
  have hsz' : Maps.size (D.del kl) = n - (if (f x).isSome then 1 else 0) := by omega
  refine ⟨w', hr, ⟨D.del kl, ?_, hsz', ?_⟩, ?_⟩
  · have := ownsMap_tight ho
    rwa [hsz'] at this
  · intro y hy ky hky
    by_cases hyx : y = x
    · subst hyx
      obtain rfl : ky = kl := by rw [hkl] at hky; exact (Option.some.inj hky).symm
      simp only [if_true, Option.isSome_none, Option.getD_none]
      exact ⟨Maps.has_del_same, fun z => Maps.atKey_del_same _⟩
    · simp only [if_neg hyx]
      have hne := MapI.keys_ne T hyx hky hkl
      exact ⟨(Maps.has_del_other hne).trans (h3 y hy ky hky).1, fun z => (Maps.atKey_del_other hne _).trans ((h3 y hy ky hky).2 z)⟩
  · obtain ⟨es, clock, es', clock', hb, rfl⟩ := htu
    exact ⟨rfl, rfl, rfl, by simp [ChangeMaps.setBlock], fun i hi => ChangeMaps.heap_setBlock_other hb _ hi⟩

variable {ops : Array Oper} {rest : List Oper} {o : Oper} {a : Act} {Q : Exit → Act → World → Prop}
theorem wpList_lookI (h : MapI w P k kv ok b n f) (T : KeyT P k kv ok) (hg : o.guard = none) (m y : Operand) (hop : o.op = Op.lookup t m y false) (ht : P.underlying t = some (.map k e)) {z : Value} (hz : (zeroValue e).run P w = .ok z w)
    (hm : a.eval m = .map (some b)) (x : κ) (hx : ok x) (hy : a.eval y = kv x) (hK : wpList P ops Q rest (a.put o.dst ((f x).getD z)) w) : wpList P ops Q (o :: rest) a w := by
  refine wpList_plain hg fun K' hK' => ?_
  unfold Oper.wp
  simp [execOp, hop, hm, hy, h.look T ht hz hx, Result.andThen]
  exact hK' _ _ hK
theorem wpList_lookI_ok (h : MapI w P k kv ok b n f) (T : KeyT P k kv ok) (hg : o.guard = none) (m y : Operand) (hop : o.op = Op.lookup t m y true) (ht : P.underlying t = some (.map k e)) {z : Value} (hz : (zeroValue e).run P w = .ok z w)
    (hm : a.eval m = .map (some b)) (x : κ) (hx : ok x) (hy : a.eval y = kv x) (hK : wpList P ops Q rest (a.put o.dst (.tuple #[(f x).getD z, .bool (f x).isSome])) w) : wpList P ops Q (o :: rest) a w := by
  refine wpList_plain hg fun K' hK' => ?_
  unfold Oper.wp
  simp [execOp, hop, hm, hy, h.look_ok T ht hz hx, Result.andThen]
  exact hK' _ _ hK
theorem wpList_lookI_nil (T : KeyT P k kv ok) (hg : o.guard = none) (m y : Operand) (hop : o.op = Op.lookup t m y true) (ht : P.underlying t = some (.map k e)) {z : Value} (hz : (zeroValue e).run P w = .ok z w)
    (hm : a.eval m = .map none) (x : κ) (hx : ok x) (hy : a.eval y = kv x) (hK : wpList P ops Q rest (a.put o.dst (.tuple #[z, .bool false])) w) : wpList P ops Q (o :: rest) a w := by
  obtain ⟨kl, hkl⟩ := T.lit x hx
  refine wpList_plain hg fun K' hK' => ?_
  unfold Oper.wp
  simp [execOp, hop, hm, hy, Maps.look_nil (w := w) true T.K ht hz hkl, Result.andThen]
  exact hK' _ _ hK
theorem wpList_storeI [DecidableEq κ] (h : MapI w P k kv ok b n f) (T : KeyT P k kv ok) (hg : o.guard = none) (m y v : Operand) (hop : o.op = Op.mapUpdate t m y v) (ht : P.underlying t = some (.map k e)) (hn : n < maxLen)
    (hm : a.eval m = .map (some b)) (x : κ) (hx : ok x) (hy : a.eval y = kv x) {u : Value} (hv : a.eval v = u)
    (hK : ∀ w', MapI w' P k kv ok b (if (f x).isSome then n else n + 1) (fun y => if y = x then some u else f y) → Only b w w' → wpList P ops Q rest (a.put o.dst undef) w') : wpList P ops Q (o :: rest) a w := by
  refine wpList_plain hg fun K' hK' => ?_
  obtain ⟨w', hr, h1, h2⟩ := h.store T ht hn hx u
  unfold Oper.wp
  simp [execOp, hop, hm, hy, hv, hr, Result.andThen]
  exact hK' _ _ (hK w' h1 h2)
theorem wpList_dropI [DecidableEq κ] (h : MapI w P k kv ok b n f) (T : KeyT P k kv ok) (hg : o.guard = none) (m y : Operand) (hop : o.op = Op.call { callee := Callee.builtin Builtin.delete, args := #[m, y], argTypes := #[t, k] }) (ht : P.underlying t = some (.map k e))
    (hm : a.eval m = .map (some b)) (x : κ) (hx : ok x) (hy : a.eval y = kv x)
    (hK : ∀ w', MapI w' P k kv ok b (n - (if (f x).isSome then 1 else 0)) (fun y => if y = x then none else f y) → Only b w w' → wpList P ops Q rest (a.put o.dst (.tuple #[])) w') : wpList P ops Q (o :: rest) a w := by
  refine wpList_plain hg fun K' hK' => ?_
  obtain ⟨w', hr, h1, h2⟩ := h.drop T ht hx o.type
  unfold Oper.wp
  simp [execOp, hop, resolve, invoke, builtin, hm, hy, hr, Result.andThen]
  exact hK' _ _ (hK w' h1 h2)
theorem wpList_lenI (h : MapI w P k kv ok b n f) (hg : o.guard = none) (m : Operand) (hop : o.op = Op.call { callee := Callee.builtin Builtin.len, args := #[m], argTypes := #[t] }) (ht : P.underlying t = some (.map k e))
    (hm : a.eval m = .map (some b)) (hK : wpList P ops Q rest (a.put o.dst (.int .i64 (n : Int))) w) : wpList P ops Q (o :: rest) a w := by
  obtain ⟨D, h1, h2, _⟩ := h.is
  refine wpList_plain hg fun K' hK' => ?_
  unfold Oper.wp
  simp [execOp, hop, resolve, invoke, builtin, hm, h1.len ht o.type, h2, Result.andThen]
  exact hK' _ _ hK
end
end Go.Proofs.Ytpbpegoobgfjcaa

namespace Go.Proofs.Ytpbpegoobgfjcaa

theorem snoc_ind {α : Type} {p : List α → Prop} (h0 : p []) (hs : ∀ l b, p l → p (l ++ [b])) (l : List α) : p l := by
  have h : ∀ m : List α, p m.reverse := fun m => by
    induction m with
    | nil => exact h0
    | cons b m ih => rw [List.reverse_cons]; exact hs _ _ ih
  simpa using h l.reverse

/-- n's lowest k bytes, the greatest first -/
def putN (n : Nat) : Nat → List UInt8
  | 0 => []
  | k + 1 => putN (n / 256) k ++ [UInt8.ofNat n]
/-- the number of bytes -/
def getN (l : List UInt8) : Nat := l.foldl (fun a b => a * 256 + b.toNat) 0

theorem putN_length (n k : Nat) : (putN n k).length = k := by
  induction k generalizing n with
  | zero => rfl
  | succ k ih => simp [putN, ih]
theorem pow256 (k : Nat) : 256 ^ (k + 1) = 256 * 256 ^ k := by rw [Nat.pow_succ, Nat.mul_comm]
/-- the first byte ahead of the others -/
theorem putN_front (n k : Nat) : putN n (k + 1) = UInt8.ofNat (n / 256 ^ k) :: putN n k := by
  induction k generalizing n with
  | zero => simp [putN]
  | succ k ih =>
    rw [putN, ih (n / 256)]
    rw [show putN n (k + 1) = putN (n / 256) k ++ [UInt8.ofNat n] from rfl]
    rw [Nat.div_div_eq_div_mul, ← pow256]
    rfl
theorem getN_append (l m : List UInt8) : getN (l ++ m) = getN l * 256 ^ m.length + getN m := by
  unfold getN
  rw [List.foldl_append]
  have gen : ∀ (m : List UInt8) (a : Nat), m.foldl (fun a b => a * 256 + b.toNat) a = a * 256 ^ m.length + m.foldl (fun a b => a * 256 + b.toNat) 0 := by
    intro m
    induction m with
    | nil => intro a; simp
    | cons x m ih =>
      intro a
      simp only [List.foldl_cons, List.length_cons]
      rw [ih (a * 256 + x.toNat), ih (0 * 256 + x.toNat), Nat.pow_succ, Nat.add_mul, Nat.zero_mul, Nat.zero_add, Nat.mul_assoc, Nat.mul_comm 256 (256 ^ m.length)]
      omega
  exact gen m _
theorem getN_snoc (l : List UInt8) (b : UInt8) : getN (l ++ [b]) = getN l * 256 + b.toNat := by
  rw [getN_append]; simp [getN]
theorem getN_lt (l : List UInt8) : getN l < 256 ^ l.length := by
  refine snoc_ind (p := fun l => getN l < 256 ^ l.length) (by simp [getN]) (fun l b ih => ?_) l
  · rw [getN_snoc, List.length_append, List.length_singleton, pow256]
    have := b.toNat_lt
    omega
theorem ofNat_toNat (n : Nat) : (UInt8.ofNat n).toNat = n % 256 := rfl
theorem getN_putN (n k : Nat) : getN (putN n k) = n % 256 ^ k := by
  induction k generalizing n with
  | zero => simp [putN, getN, Nat.mod_one]
  | succ k ih =>
    rw [putN, getN_snoc, ih, ofNat_toNat, pow256, Nat.mod_mul]
    omega
theorem putN_getN (l : List UInt8) : putN (getN l) l.length = l := by
  refine snoc_ind (p := fun l => putN (getN l) l.length = l) rfl (fun l b ih => ?_) l
  · rw [List.length_append, List.length_singleton, putN, getN_snoc]
    have hb := b.toNat_lt
    rw [show (getN l * 256 + b.toNat) / 256 = getN l by omega, ih]
    congr 1
    have : (UInt8.ofNat (getN l * 256 + b.toNat)) = b := by
      apply UInt8.toNat_inj.1
      rw [ofNat_toNat]; omega
    rw [this]
/-- noughts ahead change nothing -/
theorem getN_zeros (k : Nat) (l : List UInt8) : getN (List.replicate k 0 ++ l) = getN l := by
  rw [getN_append]
  have : getN (List.replicate k 0) = 0 := by
    induction k with
    | zero => rfl
    | succ k ih => rw [List.replicate_succ', getN_snoc, ih]; rfl
  rw [this]; omega
/-- modulo 2^64 the last eight bytes count alone -/
theorem getN_last (l : List UInt8) : getN l % 18446744073709551616 = getN (l.drop (l.length - 8)) := by
  have h := getN_append (l.take (l.length - 8)) (l.drop (l.length - 8))
  rw [List.take_append_drop] at h
  have hlt := getN_lt (l.drop (l.length - 8))
  have hd : (l.drop (l.length - 8)).length ≤ 8 := by simp; omega
  by_cases h8 : 8 ≤ l.length
  · have hd8 : (l.drop (l.length - 8)).length = 8 := by simp; omega
    rw [hd8] at h hlt
    have e : (256 : Nat) ^ 8 = 18446744073709551616 := by decide
    rw [e] at h hlt
    rw [h]; omega
  · have e0 : l.length - 8 = 0 := by omega
    rw [e0]; simp only [List.drop_zero]
    have h1 := getN_lt l
    have h2 : (256 : Nat) ^ l.length ≤ 256 ^ 8 := Nat.pow_le_pow_right (by decide) (by omega)
    have e : (256 : Nat) ^ 8 = 18446744073709551616 := by decide
    rw [e] at h2
    omega
theorem getN_take_succ (l : List UInt8) (k : Nat) (h : k < l.length) : getN (l.take (k + 1)) = getN (l.take k) * 256 + l[k].toNat := by
  rw [List.take_succ_eq_append_getElem h, getN_snoc]
theorem wrap_u64_nat (n : Nat) : IntKind.u64.wrap (n : Int) = ((n % 18446744073709551616 : Nat) : Int) := by rw [IntKind.wrap_u64]; omega
/-- one round of the program's Get -/
theorem get_step (g b : Nat) (hb : b < 256) (hg : g * 256 + b < 18446744073709551616) :
    bits .or .u64 (IntKind.u64.wrap ((g : Int) * 256)) (IntKind.u64.wrap (b : Int)) = ((g * 256 + b : Nat) : Int) := by
  have h1 : g * 256 < 18446744073709551616 := Nat.lt_of_le_of_lt (Nat.le_add_right _ _) hg
  have h2 : b < 18446744073709551616 := Nat.lt_of_le_of_lt (Nat.le_add_left _ _) hg
  have e3 := u64_or_nat (g * 256) b h1 h2
  have e4 := nat_join 8 (g * 256) b (by omega) (by omega)
  have e1 : IntKind.u64.wrap ((g : Int) * 256) = ((g * 256 : Nat) : Int) := by
    have := wrap_u64_nat (g * 256)
    rw [Nat.mod_eq_of_lt h1] at this
    rw [← this]; rfl
  have e2 : IntKind.u64.wrap (b : Int) = (b : Int) := by rw [wrap_u64_nat, Nat.mod_eq_of_lt h2]
  rw [e1, e2, e3, e4]
/-- one round of the document's Get -/
theorem refget_step (g b : Nat) :
    IntKind.u64.wrap (IntKind.u64.wrap (256 * ((g % 18446744073709551616 : Nat) : Int)) + IntKind.u64.wrap (b : Int)) = (((g * 256 + b) % 18446744073709551616 : Nat) : Int) := by
  simp only [IntKind.wrap_u64]; omega
theorem put_spot {n N k : Nat} (h : k < N) : (cells8 (List.replicate (N - k) 0 ++ putN n k))[N - 1 - k]? = some (.int .u8 0) := by
  rw [cells8_at _ _ (by simp [putN_length]; omega)]
  rw [List.getElem_append_left (by simp; omega)]
  simp
/-- one round of the program's Put -/
theorem put_row {n N k : Nat} (h : k < N) : (cells8 (List.replicate (N - k) 0 ++ putN n k)).set (N - 1 - k) (.int .u8 ((n : Int) / 2 ^ (8 * k) % 256)) = cells8 (List.replicate (N - (k + 1)) 0 ++ putN n (k + 1)) := by
  have e : List.replicate (N - k) (0 : UInt8) = List.replicate (N - (k + 1)) 0 ++ [0] := by
    rw [show N - k = N - (k + 1) + 1 by omega, List.replicate_succ']
  rw [e, putN_front, cells8_append, cells8_append, cells8_append]
  have hl : (cells8 (List.replicate (N - (k + 1)) 0)).length = N - 1 - k := by rw [cells8_length]; simp; omega
  rw [List.append_assoc, List.set_append_right _ _ (by omega), hl, Nat.sub_self]
  have h2 : ((n : Int) / 2 ^ (8 * k) % 256) = (((UInt8.ofNat (n / 256 ^ k)).toNat : Nat) : Int) := by
    rw [ofNat_toNat, show (256 : Nat) = 2 ^ 8 from rfl, ← Nat.pow_mul]
    simp
  rw [h2]
  simp [cells8]
theorem tdiv256 (q : Nat) (h : q < 18446744073709551616) : IntKind.u64.wrap ((q : Int) / 256) = ((q / 256 : Nat) : Int) := by
  have e : ((q : Int) / 256) = ((q / 256 : Nat) : Int) := rfl
  rw [e, wrap_u64_nat, Nat.mod_eq_of_lt (Nat.lt_of_le_of_lt (Nat.div_le_self _ _) h)]
theorem tmod256 (q : Nat) : ((q : Int) % 256) = ((UInt8.ofNat q).toNat : Int) := rfl
/-- the k-th byte of a number -/
theorem putN_at (n N k : Nat) (h : k < N) : (putN n N)[k]'(by rw [putN_length]; exact h) = UInt8.ofNat (n / 256 ^ (N - 1 - k)) := by
  induction N generalizing k with
  | zero => omega
  | succ N ih =>
    simp only [putN_front]
    cases k with
    | zero => simp
    | succ k => simp only [List.getElem_cons_succ]; rw [ih k (by omega)]; congr 3; omega
theorem putN_take (n N k : Nat) (h : k < N) : cells8 ((putN n N).take k) ++ [.int .u8 (((n / 256 ^ (N - 1 - k) : Nat) : Int) % 256)] = cells8 ((putN n N).take (k + 1)) := by
  rw [List.take_succ_eq_append_getElem (by rw [putN_length]; exact h), putN_at n N k h, cells8_append, tmod256]
  rfl
theorem getN_lt8 (l : List UInt8) (h : l.length ≤ 8) : getN l < 18446744073709551616 := by
  have h1 := getN_lt l
  have h2 : (256 : Nat) ^ l.length ≤ 256 ^ 8 := Nat.pow_le_pow_right (by decide) h
  have e : (256 : Nat) ^ 8 = 18446744073709551616 := by decide
  rw [e] at h2
  omega
end Go.Proofs.Ytpbpegoobgfjcaa

namespace Go.Proofs.Ytpbpegoobgfjcaa
open Go.RowKit

/-- The values are slices that read as the lists fs; those that have anything lie below B, and not in block g. -/
structure Fs (w : World) (B : Nat) (g : Option Nat) (vals : List Value) (fs : List (List UInt8)) : Prop where
  len : vals.length = fs.length
  at' : ∀ j (h1 : j < vals.length) (h2 : j < fs.length), ∃ A n c, vals[j] = .slice A n c ∧ Bs w B A n c fs[j] ∧ ∀ ad, A = some ad → 0 < n → g ≠ some ad.block
section
variable {w w' : World} {B B' : Nat} {g : Option Nat} {vals : List Value} {fs : List (List UInt8)}
theorem Fs.zero (w : World) (B : Nat) (g : Option Nat) : Fs w B g [] [] := ⟨rfl, fun j h _ => absurd h (by simp)⟩
theorem Fs.below (h : Fs w B g vals fs) (hb : Below B w w') : Fs w' B g vals fs :=
  ⟨h.len, fun j h1 h2 => by
    obtain ⟨A, n, c, e, hbs, hg⟩ := h.at' j h1 h2
    exact ⟨A, n, c, e, hbs.below hb, hg⟩⟩
theorem Fs.more (h : Fs w B g vals fs) (hB : B ≤ B') : Fs w B' g vals fs :=
  ⟨h.len, fun j h1 h2 => by
    obtain ⟨A, n, c, e, hbs, hg⟩ := h.at' j h1 h2
    exact ⟨A, n, c, e, hbs.more hB, hg⟩⟩
theorem Bs.grown {g : Option Nat} {A : Option Addr} {n c : Nat} {l : List UInt8} (h : Bs w B A n c l) (hk : ∀ k, g ≠ some k → k < B → w'.heap[k]? = w.heap[k]?) (hg : ∀ ad, A = some ad → 0 < n → g ≠ some ad.block) : Bs w' B A n c l :=
  ⟨h.len, h.cap, h.max, h.nil, fun h0 => by
    obtain ⟨b, o, hA, hb, hc⟩ := h.cells h0
    refine ⟨b, o, hA, hb, fun j hj => ?_⟩
    rw [← hc j hj]
    exact World.cell?_of_block (w := w) (hk b (hg _ hA h0) hb)⟩
theorem Fs.grown (h : Fs w B g vals fs) (hk : ∀ k, g ≠ some k → k < B → w'.heap[k]? = w.heap[k]?) : Fs w' B g vals fs :=
  ⟨h.len, fun j h1 h2 => by
    obtain ⟨A, n, c, e, hbs, hg⟩ := h.at' j h1 h2
    exact ⟨A, n, c, e, hbs.grown hk hg, hg⟩⟩
theorem Fs.move {g' : Option Nat} (h : Fs w B g vals fs) (hg' : g' = g ∨ ∃ k, g' = some k ∧ B ≤ k) : Fs w B g' vals fs :=
  ⟨h.len, fun j h1 h2 => by
    obtain ⟨A, n, c, e, hbs, hg⟩ := h.at' j h1 h2
    refine ⟨A, n, c, e, hbs, fun ad hA h0 => ?_⟩
    rcases hg' with rfl | ⟨k, rfl, hk⟩
    · exact hg ad hA h0
    · obtain ⟨b, o, hA', hb, _⟩ := hbs.cells h0
      rw [hA] at hA'
      obtain rfl := Option.some.inj hA'
      intro e; have := Option.some.inj e; simp at this; omega⟩
theorem Fs.snoc (h : Fs w B g vals fs) {A : Option Addr} {n c : Nat} {l : List UInt8} (hb : Bs w B A n c l) (hg : ∀ ad, A = some ad → 0 < n → g ≠ some ad.block) :
    Fs w B g (vals ++ [.slice A n c]) (fs ++ [l]) := by
  refine ⟨by simp [h.len], fun j h1 h2 => ?_⟩
  by_cases hj : j < vals.length
  · rw [List.getElem_append_left hj, List.getElem_append_left (by rw [← h.len]; exact hj)]
    exact h.at' j hj _
  · have hjv : j = vals.length := by simp at h1; omega
    have hjf : j = fs.length := by rw [← h.len]; exact hjv
    refine ⟨A, n, c, ?_, ?_, hg⟩
    · rw [List.getElem_append_right (by omega)]; simp [hjv]
    · rw [List.getElem_append_right (by omega)]; simpa [hjf] using hb
theorem Fs.lists {base : Nat} {e : TypeId} {v : Value} {k : Nat} (h : Fs w B g vals fs) (hown : w.ownsRow base e 1 v k vals) (hB : w.heap.size ≤ B) : ∃ A c, v = .slice A k c ∧ Ls w B A k c fs := by
  have hl : vals.length = k := by have := hown.1; omega
  rcases hown.2 with ⟨rfl, rfl⟩ | ⟨g', cap, cur, rfl, hg, hh, hn, hm, hs, ht⟩
  · obtain rfl : vals = [] := List.eq_nil_of_length_eq_zero hl
    obtain rfl : fs = [] := List.eq_nil_of_length_eq_zero (by rw [← h.len]; rfl)
    exact ⟨none, 0, rfl, Ls.zero w _⟩
  · refine ⟨some ⟨g', 0, none⟩, cap, rfl, by rw [← h.len]; exact hl, hn, hm, (fun h => by cases h), fun h0 => ⟨g', 0, rfl, ?_, fun j hj => ?_⟩⟩
    · have := (Array.getElem?_eq_some_iff.1 hh).1; omega
    · have hjv : j < vals.length := by rw [h.len]; exact hj
      obtain ⟨A, n, c, e', hbs, _⟩ := h.at' j hjv hj
      refine ⟨A, n, c, ?_, hbs⟩
      have := hown.cells (g := g') rfl j (vals[j]) (List.getElem?_eq_getElem hjv)
      rw [Addr.add_lit, e'] at this
      exact this
/-- one slice, laid in a block of its own, is a list of one -/
theorem Ls.one {A : Option Addr} {n c : Nat} {l : List UInt8} (t : TypeId) (h : Bs w w.heap.size A n c l) : Ls (w.alloc (.cells #[.slice A n c] t)) (w.heap.size + 1) (some ⟨w.heap.size, 0, none⟩) 1 1 [l] := by
  refine ⟨rfl, Nat.le_refl _, by simp [maxLen], (fun h => by cases h), fun _ => ⟨w.heap.size, 0, rfl, by omega, fun j hj => ?_⟩⟩
  obtain rfl : j = 0 := by simp at hj; omega
  refine ⟨A, n, c, ?_, (h.alloc (Nat.le_refl _) _).more (by omega)⟩
  rw [World.cell?_alloc_at _ _ _ _ rfl]; rfl
theorem Ls.two {A A2 : Option Addr} {n c n2 c2 : Nat} {l l2 : List UInt8} (t : TypeId) (h : Bs w w.heap.size A n c l) (h2 : Bs w w.heap.size A2 n2 c2 l2) : Ls (w.alloc (.cells #[.slice A n c, .slice A2 n2 c2] t)) (w.heap.size + 1) (some ⟨w.heap.size, 0, none⟩) 2 2 [l, l2] := by
  refine ⟨rfl, Nat.le_refl _, by simp [maxLen], (fun h => by cases h), fun _ => ⟨w.heap.size, 0, rfl, by omega, fun j hj => ?_⟩⟩
  rcases (by simp at hj; omega : j = 0 ∨ j = 1) with rfl | rfl
  · refine ⟨A, n, c, ?_, (h.alloc (Nat.le_refl _) _).more (by omega)⟩
    rw [World.cell?_alloc_at _ _ _ _ rfl]; rfl
  · refine ⟨A2, n2, c2, ?_, (h2.alloc (Nat.le_refl _) _).more (by omega)⟩
    rw [World.cell?_alloc_at _ _ _ _ rfl]; rfl
end

/-- where the k-th field begins -/
def off (ws : List Int) (k : Nat) : Nat := ((ws.take k).map Int.toNat).sum
/-- the fields, one behind the other, as far as there is anything -/
def fieldsL : List UInt8 → List Int → List (List UInt8)
  | _, [] => []
  | b, w :: ws => b.take w.toNat :: fieldsL (b.drop w.toNat) ws
/-- why there are none -/
def cutE (b : List UInt8) (ws : List Int) : Nat := if b.length < off ws ws.length then 3 else if off ws ws.length < b.length then 4 else 0
def cutF (b : List UInt8) (ws : List Int) : List (List UInt8) := if cutE b ws = 0 then fieldsL b ws else []

theorem off_zero (ws : List Int) : off ws 0 = 0 := rfl
theorem off_succ (ws : List Int) (k : Nat) (h : k < ws.length) : off ws (k + 1) = off ws k + ws[k].toNat := by
  unfold off
  rw [List.take_succ_eq_append_getElem h, List.map_append, List.sum_append]; rfl
theorem off_mono (ws : List Int) (j k : Nat) (h : j ≤ k) : off ws j ≤ off ws k := by
  unfold off
  have e : ws.take j = (ws.take k).take j := by rw [List.take_take]; congr 1; omega
  rw [e]
  conv => rhs; rw [← List.take_append_drop j (ws.take k), List.map_append, List.sum_append]
  omega
theorem cutE_short {b : List UInt8} {ws : List Int} {k N rn : Nat} (hk : k + 1 ≤ ws.length) (h1 : off ws (k + 1) = off ws k + N) (h2 : off ws k + rn = b.length) (h3 : rn < N) : cutE b ws = 3 := by
  have := off_mono ws (k + 1) ws.length hk
  unfold cutE
  rw [if_pos (by omega)]
theorem cutE_left {b : List UInt8} {ws : List Int} {rn : Nat} (h2 : off ws ws.length + rn = b.length) (h3 : 0 < rn) : cutE b ws = 4 := by
  unfold cutE
  rw [if_neg (by omega), if_pos (by omega)]
theorem cutE_ok {b : List UInt8} {ws : List Int} (h2 : off ws ws.length = b.length) : cutE b ws = 0 := by
  unfold cutE
  rw [if_neg (by omega), if_neg (by omega)]
theorem cutF_bad {b : List UInt8} {ws : List Int} (h : cutE b ws ≠ 0) : cutF b ws = [] := by unfold cutF; rw [if_neg h]
theorem cutF_ok {b : List UInt8} {ws : List Int} (h : cutE b ws = 0) : cutF b ws = fieldsL b ws := by unfold cutF; rw [if_pos h]
theorem fieldsL_length (b : List UInt8) (ws : List Int) : (fieldsL b ws).length = ws.length := by
  induction ws generalizing b with
  | nil => rfl
  | cons w ws ih => simp [fieldsL, ih]
theorem fieldsL_snoc (b : List UInt8) (ws : List Int) (z : Int) : fieldsL b (ws ++ [z]) = fieldsL b ws ++ [(b.drop (off ws ws.length)).take z.toNat] := by
  induction ws generalizing b with
  | nil => simp [fieldsL, off]
  | cons w ws ih =>
    simp only [List.cons_append, fieldsL, ih]
    simp [off, List.drop_drop]
theorem fieldsL_take (b : List UInt8) (ws : List Int) (k : Nat) (h : k < ws.length) : fieldsL b (ws.take (k + 1)) = fieldsL b (ws.take k) ++ [(b.drop (off ws k)).take ws[k].toNat] := by
  rw [List.take_succ_eq_append_getElem h, fieldsL_snoc]
  have : off (ws.take k) (ws.take k).length = off ws k := by
    unfold off; rw [List.take_of_length_le (Nat.le_refl _)]
  rw [this]
theorem fieldsL_flatten (b : List UInt8) (ws : List Int) (h : off ws ws.length ≤ b.length) : (fieldsL b ws).flatten = b.take (off ws ws.length) := by
  induction ws generalizing b with
  | nil => simp [fieldsL, off]
  | cons w ws ih =>
    have e : off (w :: ws) (w :: ws).length = w.toNat + off ws ws.length := by simp [off]
    rw [e] at h ⊢
    rw [fieldsL, List.flatten_cons, ih _ (by simp; omega), List.take_add]
end Go.Proofs.Ytpbpegoobgfjcaa

namespace Go.Proofs.Ytpbpegoobgfjcaa
open Go.RowKit

/-- a block of bytes that has just been laid -/
theorem Bs.laid (w : World) (t : TypeId) (l : List UInt8) (hm : l.length ≤ maxLen) : Bs (w.alloc (.cells (cells8 l).toArray t)) (w.heap.size + 1) (some ⟨w.heap.size, 0, none⟩) l.length l.length l := by
  refine ⟨rfl, Nat.le_refl _, hm, (fun h => by cases h), fun _ => ⟨w.heap.size, 0, rfl, by omega, fun j hj => ?_⟩⟩
  rw [World.cell?_alloc_at _ _ _ _ rfl]
  have := cells8_at l j hj
  simpa using this
/-- A slice reads as the bytes l, and none of its cells lies in block g. -/
structure BsA (w : World) (g : Nat) (A : Option Addr) (n c : Nat) (l : List UInt8) : Prop where
  bs : Bs w w.heap.size A n c l
  apart : ∀ ad, A = some ad → 0 < n → ad.block ≠ g
/-- A slice reads as the lists ls of bytes, and none of the cells lies in block g. -/
structure LsA (w : World) (g : Nat) (A : Option Addr) (n c : Nat) (ls : List (List UInt8)) : Prop where
  len : ls.length = n
  cap : n ≤ c
  max : c ≤ maxLen
  cells : 0 < n → ∃ b o, A = some ⟨b, o, none⟩ ∧ b < w.heap.size ∧ b ≠ g ∧ ∀ j (h : j < ls.length), ∃ A' n' c', w.cell? ⟨b, o + j, none⟩ = some (.slice A' n' c') ∧ BsA w g A' n' c' ls[j]
section
variable {w w' : World} {B : Nat} {g : Nat} {A : Option Addr} {n c : Nat} {l : List UInt8} {ls : List (List UInt8)}
theorem BsA.of_bs (h : Bs w B A n c l) (hB : B ≤ g) (hw : B ≤ w.heap.size) : BsA w g A n c l :=
  ⟨h.more hw, fun ad hA h0 => by
    obtain ⟨b, o, hA', hb, _⟩ := h.cells h0
    rw [hA] at hA'
    obtain rfl := Option.some.inj hA'
    simp; omega⟩
theorem BsA.of_own {base : Nat} {e : TypeId} {v : Value} (h : w.ownsRow base e 1 v n (cells8 l)) (hg : g < base) : ∃ A c, v = .slice A n c ∧ BsA w g A n c l := by
  obtain ⟨A, c, rfl, hb⟩ := Bs.of_own h
  obtain ⟨A', c', e1, _, _, _, hs⟩ := own_form h
  injection e1 with e2 _ e3
  subst e2
  subst e3
  exact ⟨A, c, rfl, hb, fun ad hA _ => by
    obtain ⟨k, rfl, hk, _⟩ := hs ad hA
    simp; omega⟩
theorem BsA.grown (h : BsA w g A n c l) (hg : w.grownBy w' (some g)) : BsA w' g A n c l :=
  ⟨(h.bs.grown (w' := w') (g := some g) (fun k hk hlt => hg.block k hlt (fun e => hk (by rw [e]))) (fun ad hA h0 e => h.apart ad hA h0 (Option.some.inj e).symm)).more hg.size, h.apart⟩
theorem LsA.le (h : LsA w g A n c ls) : n ≤ 9223372036854775807 := by have := h.cap; have := h.max; simp only [maxLen] at this; omega
theorem LsA.grown (h : LsA w g A n c ls) (hg : w.grownBy w' (some g)) : LsA w' g A n c ls :=
  ⟨h.len, h.cap, h.max, fun h0 => by
    obtain ⟨b, o, hA, hb, hne, hc⟩ := h.cells h0
    refine ⟨b, o, hA, Nat.lt_of_lt_of_le hb hg.size, hne, fun j hj => ?_⟩
    obtain ⟨A', n', c', h1, h2⟩ := hc j hj
    refine ⟨A', n', c', ?_, h2.grown hg⟩
    rw [← h1]
    exact World.cell?_of_block (w := w) (hg.block b hb (fun e => hne (Option.some.inj e)))⟩
theorem LsA.at (h : LsA w g A n c ls) {i : Nat} (hi : i < n) : ∃ b o A' n' c', A = some ⟨b, o, none⟩ ∧ b < w.heap.size ∧ w.cell? ⟨b, o + i, none⟩ = some (.slice A' n' c') ∧ BsA w g A' n' c' (ls[i]'(by have := h.len; omega)) := by
  obtain ⟨b, o, hA, hb, _, hc⟩ := h.cells (by omega)
  obtain ⟨A', n', c', h1, h2⟩ := hc i (by have := h.len; omega)
  exact ⟨b, o, A', n', c', hA, hb, h1, h2⟩
theorem LsA.of_ls (h : Ls w B A n c ls) (hB : B ≤ g) (hw : B ≤ w.heap.size) : LsA w g A n c ls :=
  ⟨h.len, h.cap, h.max, fun h0 => by
    obtain ⟨b, o, hA, hb, hc⟩ := h.cells h0
    refine ⟨b, o, hA, by omega, by omega, fun j hj => ?_⟩
    obtain ⟨A', n', c', h1, h2⟩ := hc j hj
    exact ⟨A', n', c', h1, BsA.of_bs h2 hB hw⟩⟩
/-- one slice, laid in a block of its own, is a list of one -/
theorem LsA.one (t : TypeId) (h : BsA w g A n c l) (hg : g < w.heap.size) : LsA (w.alloc (.cells #[.slice A n c] t)) g (some ⟨w.heap.size, 0, none⟩) 1 1 [l] := by
  refine ⟨rfl, Nat.le_refl _, by simp [maxLen], fun _ => ⟨w.heap.size, 0, rfl, by simp, by omega, fun j hj => ?_⟩⟩
  obtain rfl : j = 0 := by simp at hj; omega
  refine ⟨A, n, c, ?_, ⟨(h.bs.alloc (Nat.le_refl _) _).more (by simp), h.apart⟩⟩
  rw [World.cell?_alloc_at _ _ _ _ rfl]; rfl
theorem grown_below {w' : World} (hb : Below w.heap.size w w') (row : Option Nat) : w.grownBy w' row := ⟨hb.os, hb.tape, hb.output, hb.size, fun k hk _ => hb.block k hk⟩
theorem grown_only (h : Only g w w') : w.grownBy w' (some g) := ⟨h.os, h.tape, h.output, by rw [h.size]; exact Nat.le_refl _, fun k _ hne => h.block k (fun e => hne (by rw [e]))⟩
theorem grown_trans {w2 : World} {row : Option Nat} (h : w.grownBy w' row) (h2 : w'.grownBy w2 row) : w.grownBy w2 row :=
  ⟨h2.os.trans h.os, h2.tape.trans h.tape, h2.output.trans h.output, Nat.le_trans h.size h2.size, fun k hk hne => (h2.block k (Nat.lt_of_lt_of_le hk h.size) hne).trans (h.block k hk hne)⟩
theorem grown_refl (w : World) (row : Option Nat) : w.grownBy w row := ⟨rfl, rfl, rfl, Nat.le_refl _, fun _ _ _ => rfl⟩
theorem grown_drew (w : World) (row : Option Nat) : w.grownBy w.drew row := ⟨rfl, rfl, rfl, Nat.le_refl _, fun _ _ _ => rfl⟩
theorem grown_set (w : World) (g i : Nat) (v : Value) : w.grownBy (w.setCell ⟨g, i, none⟩ v) (some g) := grown_only (Only.setCell w ⟨g, i, none⟩ v)
theorem below_grown {w' : World} (h : w.grownBy w' (some g)) (hB : B ≤ g) (hw : B ≤ w.heap.size) : Below B w w' := ⟨h.os, h.tape, h.output, h.size, fun k hk => h.block k (by omega) (fun e => by have := Option.some.inj e; omega)⟩
theorem own_grown {base n : Nat} {e : TypeId} {v : Value} {xs : List Value} (h : w.ownsRow base e 1 v n xs) (hg : w.grownBy w' (some g)) (hb : g < base) : w'.ownsRow base e 1 v n xs := by
  refine ⟨h.1, ?_⟩
  rcases h.2 with h1 | ⟨k, cap, cur, h1, hk, hh, hr⟩
  · exact .inl h1
  · exact .inr ⟨k, cap, cur, h1, hk, (hg.block k (Array.getElem?_eq_some_iff.1 hh).1 (fun e => by have := Option.some.inj e; omega)).trans hh, hr⟩
theorem Blk.grown {k : Nat} {t : TypeId} {cs : List Value} (h : Blk w k t cs) (hg : w.grownBy w' (some g)) (hk : k ≠ g) : Blk w' k t cs := ⟨(hg.block k h.lt (fun e => hk (Option.some.inj e))).trans h.heap⟩
end
section
variable {P : Program} {w : World} {ops : Array Oper} {rest : List Oper} {o : Oper} {a : Act} {Q : Exit → Act → World → Prop} {t e : TypeId} {z : Value} {bytes : Nat}
/-- x[i:] of bytes that lie apart -/
theorem wpList_cut_lA (E : El P t e z bytes) (hg : o.guard = none) (x lo : Operand) (hop : o.op = Op.slice t x (some lo) none none)
    {g : Nat} {A : Option Addr} {n c : Nat} {l : List UInt8} (hx : a.eval x = .slice A n c) (hb : BsA w g A n c l) (k : IntKind) (I : Int) (i : Nat) (hlo : a.eval lo = .int k I) (hI : I = i) (hi : i ≤ n)
    (h : ∀ A' d, BsA w g A' (n - i) d (l.drop i) → wpList P ops Q rest (a.put o.dst (.slice A' (n - i) d)) w) : wpList P ops Q (o :: rest) a w := by
  subst hI
  refine wpList_plain hg fun K hK => ?_
  have hrun := run_slice_l (P := P) (w := w) t A n c E.ty' k (i : Int) (by omega) (by omega)
  rw [E.sizeOf] at hrun
  have h2 := hb.bs.cut (i := i) (k := n) hi (Nat.le_refl _)
  rw [List.take_of_length_le (by rw [hb.bs.len]; exact Nat.le_refl _)] at h2
  unfold Oper.wp
  simp [execOp, hop, hx, hlo, run_sliceAt_slice (P := P) (w := w) t _ _ _ _ E.ty', hrun, Result.andThen, sliced]
  refine hK _ _ (h _ _ ⟨h2, fun ad hA h0 => ?_⟩)
  have hc := hb.bs.cap
  rw [if_neg (by omega)] at hA
  cases A with
  | none => simp at hA
  | some ad0 =>
    simp at hA
    have := hb.apart ad0 rfl (by omega)
    rw [← hA]
    unfold Addr.add
    split <;> exact this
end
end Go.Proofs.Ytpbpegoobgfjcaa

namespace Go.Proofs.Ytpbpegoobgfjcaa
theorem el8 : El Try.prog 22 5 (.int .u8 0) 1 := ⟨Try.underlying22, by kernel_rfl, rfl⟩
theorem elS : El Try.prog 38 22 (.slice none 0 0) 24 := ⟨Try.underlying38, by kernel_rfl, rfl⟩
end Go.Proofs.Ytpbpegoobgfjcaa

namespace Go.Proofs.Ytpbpegoobgfjcaa
open Go.RowKit

/-- A slice of n of room c at A reads as the things its: a place, and bytes; all lies below block B. -/
structure Its (w : World) (B : Nat) (A : Option Addr) (n c : Nat) (its : List (Int × List UInt8)) : Prop where
  len : its.length = n
  cap : n ≤ c
  max : c ≤ maxLen
  nil : A = none → c = 0
  wf : ∀ x ∈ its, (Lit.int .i64 x.1).wf = true
  cells : 0 < n → ∃ b o, A = some ⟨b, o, none⟩ ∧ b < B ∧ ∀ j (h : j < its.length), ∃ A' n' c', w.cell? ⟨b, o + j * 2, none⟩ = some (.int .i64 its[j].1) ∧ w.cell? ⟨b, o + j * 2 + 1, none⟩ = some (.slice A' n' c') ∧ Bs w B A' n' c' its[j].2
section
variable {w w' : World} {B B' : Nat} {A : Option Addr} {n c : Nat} {its : List (Int × List UInt8)}
theorem Its.le (h : Its w B A n c its) : n ≤ 9223372036854775807 := by have := h.cap; have := h.max; simp only [maxLen] at this; omega
theorem Its.keep (h : Its w B A n c its) (hk : ∀ p : Addr, p.block < B → w'.cell? p = w.cell? p) : Its w' B A n c its :=
  ⟨h.len, h.cap, h.max, h.nil, h.wf, fun h0 => by
    obtain ⟨b, o, hA, hb, hc⟩ := h.cells h0
    refine ⟨b, o, hA, hb, fun j hj => ?_⟩
    obtain ⟨A', n', c', h1, h2, h3⟩ := hc j hj
    exact ⟨A', n', c', (hk _ hb).trans h1, (hk _ hb).trans h2, h3.keep hk⟩⟩
theorem Its.more (h : Its w B A n c its) (hB : B ≤ B') : Its w B' A n c its :=
  ⟨h.len, h.cap, h.max, h.nil, h.wf, fun h0 => by
    obtain ⟨b, o, hA, hb, hc⟩ := h.cells h0
    refine ⟨b, o, hA, by omega, fun j hj => ?_⟩
    obtain ⟨A', n', c', h1, h2, h3⟩ := hc j hj
    exact ⟨A', n', c', h1, h2, h3.more hB⟩⟩
theorem Its.below (h : Its w B A n c its) (hb : Below B w w') : Its w' B A n c its := h.keep fun _ hp => hb.cell hp
theorem Its.next {w0 w1 : World} (h : Its w0 B A n c its) (hb : Below w0.heap.size w0 w1) (hB : B ≤ w0.heap.size) : Its w1 w1.heap.size A n c its :=
  (h.below (hb.mono hB)).more (Nat.le_trans hB hb.size)
theorem Its.drew (h : Its w B A n c its) : Its w.drew B A n c its := h.keep fun _ _ => rfl
theorem Its.at (h : Its w B A n c its) {i : Nat} (hi : i < n) : ∃ b o A' n' c', A = some ⟨b, o, none⟩ ∧ b < B ∧ w.cell? ⟨b, o + i * 2, none⟩ = some (.int .i64 (its[i]'(by have := h.len; omega)).1) ∧ w.cell? ⟨b, o + i * 2 + 1, none⟩ = some (.slice A' n' c') ∧ Bs w B A' n' c' (its[i]'(by have := h.len; omega)).2 := by
  obtain ⟨b, o, hA, hb, hc⟩ := h.cells (by omega)
  obtain ⟨A', n', c', h1, h2, h3⟩ := hc i (by have := h.len; omega)
  exact ⟨b, o, A', n', c', hA, hb, h1, h2, h3⟩
end
end Go.Proofs.Ytpbpegoobgfjcaa

namespace Go.Proofs.Ytpbpegoobgfjcaa
open Go.RowKit Go.Deep

/-- a place, and where its bytes lie -/
abbrev Hd := Int × Option Addr × Nat × Nat
def hdCells : List Hd → List Value
  | [] => []
  | x :: l => .int .i64 x.1 :: .slice x.2.1 x.2.2.1 x.2.2.2 :: hdCells l
theorem hdCells_length : ∀ L : List Hd, (hdCells L).length = L.length * 2
  | [] => rfl
  | x :: l => by simp [hdCells, hdCells_length l]; omega
theorem hdCells_append : ∀ L M : List Hd, hdCells (L ++ M) = hdCells L ++ hdCells M
  | [], _ => rfl
  | x :: l, M => by simp [hdCells, hdCells_append l M]
theorem hdCells_one : ∀ (L : List Hd), ∀ u ∈ hdCells L, u.oneCell' = true
  | [], u, h => by cases h
  | x :: l, u, h => by
    simp only [hdCells, List.mem_cons] at h
    rcases h with rfl | rfl | h
    · rfl
    · rfl
    · exact hdCells_one l u h
theorem hdCells_at : ∀ (L : List Hd) (j : Nat) (h : j < L.length), (hdCells L)[j * 2]? = some (.int .i64 L[j].1) ∧ (hdCells L)[j * 2 + 1]? = some (.slice L[j].2.1 L[j].2.2.1 L[j].2.2.2)
  | x :: l, 0, _ => ⟨rfl, rfl⟩
  | x :: l, j + 1, h => by
    have ih := hdCells_at l j (by simpa using h)
    rw [show (j + 1) * 2 = j * 2 + 1 + 1 by omega]
    simp only [hdCells, List.getElem?_cons_succ, List.getElem_cons_succ]
    exact ih
theorem hdCells_some {L : List Hd} {j : Nat} {u : Value} (h : (hdCells L)[j]? = some u) : ∃ i, ∃ hi : i < L.length, (j = i * 2 ∧ u = .int .i64 L[i].1) ∨ (j = i * 2 + 1 ∧ u = .slice L[i].2.1 L[i].2.2.1 L[i].2.2.2) := by
  have hj : j < L.length * 2 := by
    have := (List.getElem?_eq_some_iff.1 h).1
    rwa [hdCells_length] at this
  have hi : j / 2 < L.length := by omega
  refine ⟨j / 2, hi, ?_⟩
  obtain ⟨h1, h2⟩ := hdCells_at L (j / 2) hi
  rcases Nat.mod_two_eq_zero_or_one j with e | e
  · have e2 : j = j / 2 * 2 := by omega
    rw [← e2] at h1
    exact .inl ⟨e2, Option.some.inj (h.symm.trans h1)⟩
  · have e2 : j = j / 2 * 2 + 1 := by omega
    rw [← e2] at h2
    exact .inr ⟨e2, Option.some.inj (h.symm.trans h2)⟩
/-- headers, and the things that they lead to -/
structure Leads (w : World) (B : Nat) (L : List Hd) (its : List (Int × List UInt8)) : Prop where
  len : L.length = its.length
  wf : ∀ x ∈ its, (Lit.int .i64 x.1).wf = true
  each : ∀ j (h : j < its.length), (L[j]'(by omega)).1 = its[j].1 ∧ Bs w B (L[j]'(by omega)).2.1 (L[j]'(by omega)).2.2.1 (L[j]'(by omega)).2.2.2 its[j].2
section
variable {w w' : World} {B B' : Nat} {A : Option Addr} {n c : Nat} {its its' : List (Int × List UInt8)} {L M : List Hd}
theorem Leads.nil (w : World) (B : Nat) : Leads w B [] [] := ⟨rfl, (fun x h => by cases h), fun j h => by cases h⟩
theorem Leads.below (h : Leads w B L its) (hb : Below B w w') : Leads w' B L its := ⟨h.len, h.wf, fun j hj => ⟨(h.each j hj).1, (h.each j hj).2.below hb⟩⟩
theorem Leads.more (h : Leads w B L its) (hB : B ≤ B') : Leads w B' L its := ⟨h.len, h.wf, fun j hj => ⟨(h.each j hj).1, (h.each j hj).2.more hB⟩⟩
theorem Leads.append (h : Leads w B L its) (k : Leads w B M its') : Leads w B (L ++ M) (its ++ its') := by
  refine ⟨by simp [h.len, k.len], fun x hx => ?_, fun j hj => ?_⟩
  · rcases List.mem_append.1 hx with hx | hx
    · exact h.wf x hx
    · exact k.wf x hx
  · have hl := h.len
    by_cases hlt : j < its.length
    · rw [List.getElem_append_left hlt, List.getElem_append_left (by omega)]
      exact h.each j hlt
    · rw [List.getElem_append_right (by omega), List.getElem_append_right (by omega)]
      have h3 := k.each (j - its.length) (by simp at hj; omega)
      simp only [hl]
      exact h3
theorem Leads.one {z : Int} {l : List UInt8} (hz : (Lit.int .i64 z).wf = true) (hb : Bs w B A n c l) : Leads w B [(z, A, n, c)] [(z, l)] := by
  refine ⟨rfl, fun x hx => ?_, fun j hj => ?_⟩
  · simp at hx; rw [hx]; exact hz
  · obtain rfl : j = 0 := by simp at hj; omega
    exact ⟨rfl, hb⟩
theorem Its.heads (h : Its w B A n c its) : ∃ L, Leads w B L its ∧ (∀ ad, A = some ad → ∀ j u, (hdCells L)[j]? = some u → w.cell? (ad.add j) = some u) := by
  have hlen := h.len
  rcases Nat.eq_zero_or_pos n with h0 | h0
  · obtain rfl : its = [] := List.eq_nil_of_length_eq_zero (by omega)
    exact ⟨[], Leads.nil _ _, fun ad _ j u hu => by simp [hdCells] at hu⟩
  · obtain ⟨b, o, rfl, hb, hc⟩ := h.cells h0
    have each : ∀ j, j < n → ∃ y : Hd, w.cell? ⟨b, o + j * 2, none⟩ = some (.int .i64 y.1) ∧ w.cell? ⟨b, o + j * 2 + 1, none⟩ = some (.slice y.2.1 y.2.2.1 y.2.2.2) ∧ ∀ hj : j < its.length, y.1 = its[j].1 ∧ Bs w B y.2.1 y.2.2.1 y.2.2.2 its[j].2 := by
      intro j hj
      obtain ⟨A', n', c', h1, h2, h3⟩ := hc j (by omega)
      exact ⟨(its[j].1, A', n', c'), h1, h2, fun _ => ⟨rfl, h3⟩⟩
    obtain ⟨y, hy⟩ := choose_lt each
    refine ⟨(List.range n).map y, ⟨by simp; omega, h.wf, fun j hj => ?_⟩, fun ad had j u hu => ?_⟩
    · simp only [List.getElem_map, List.getElem_range]
      exact (hy j (by omega)).2.2 hj
    · obtain rfl := Option.some.inj had
      obtain ⟨i, hi, ⟨rfl, rfl⟩ | ⟨rfl, rfl⟩⟩ := hdCells_some hu
      · rw [Addr.add_lit]
        simp only [List.getElem_map, List.getElem_range]
        exact (hy i (by simpa using hi)).1
      · rw [Addr.add_lit]
        simp only [List.getElem_map, List.getElem_range, ← Nat.add_assoc]
        exact (hy i (by simpa using hi)).2.1
theorem Its.of_own {base : Nat} {e : TypeId} {v : Value} (h : w.ownsRow base e 2 v n (hdCells L)) (hL : Leads w B L its) (hB : B ≤ w.heap.size) : ∃ A c, v = .slice A n c ∧ Its w w.heap.size A n c its := by
  have hl : L.length = n := by have := h.1; rw [hdCells_length] at this; omega
  have hli := hL.len
  rcases h.2 with ⟨rfl, rfl⟩ | ⟨g, cap, cur, rfl, hg, hh, hn, hm, hs, ht⟩
  · obtain rfl : its = [] := List.eq_nil_of_length_eq_zero (by omega)
    exact ⟨none, 0, rfl, rfl, Nat.le_refl _, Nat.zero_le _, fun _ => rfl, (fun x hx => by cases hx), fun h => absurd h (by omega)⟩
  · refine ⟨some ⟨g, 0, none⟩, cap, rfl, by omega, hn, hm, (fun h => by cases h), hL.wf, fun h0 => ⟨g, 0, rfl, (Array.getElem?_eq_some_iff.1 hh).1, fun j hj => ?_⟩⟩
    obtain ⟨h1, h2⟩ := hdCells_at L j (by omega)
    have k1 := h.cells (g := g) rfl _ _ h1
    have k2 := h.cells (g := g) rfl _ _ h2
    rw [Addr.add_lit] at k1 k2
    obtain ⟨e1, e2⟩ := hL.each j hj
    exact ⟨_, _, _, by rw [← e1]; exact k1, by rw [Nat.add_assoc]; exact k2, e2.more hB⟩
end
theorem own2_nil (w : World) (base : Nat) (e : TypeId) : w.ownsRow base e 2 (.slice none 0 0) 0 (hdCells []) := World.ownsRow_nil _ _ _ _
section
variable {P : Program} {w : World} {ops : Array Oper} {rest : List Oper} {o : Oper} {a : Act} {Q : Exit → Act → World → Prop} {t e : TypeId} {z : Value} {bytes : Nat}
theorem own2_below {w w' : World} {base n : Nat} {e : TypeId} {v : Value} {xs : List Value} (h : w.ownsRow base e 2 v n xs) (hb : Below w.heap.size w w') : w'.ownsRow base e 2 v n xs :=
  h.kept (row := none) ⟨hb.os, hb.tape, hb.output, hb.size, fun j hj _ => hb.block j hj⟩ (by cases v.ownBlock <;> simp)
theorem below_of_grown2 {base n : Nat} {v : Value} {xs : List Value} {w1 w2 : World} (hown : w1.ownsRow base e 2 v n xs) (hbase : base ≤ w1.heap.size) (hg : w1.grownBy w2 v.ownBlock) : Below base w1 w2 := by
  refine ⟨hg.os, hg.tape, hg.output, hg.size, fun k hk => hg.block k (by omega) (fun e => ?_)⟩
  rcases hown.2 with ⟨rfl, _⟩ | ⟨g, cap, cur, rfl, hb, _⟩
  · cases e
  · have := Option.some.inj e
    simp at this
    omega
theorem own2_ne {w : World} {base n g : Nat} {v : Value} {xs : List Value} (h : w.ownsRow base e 2 v n xs) (hg : w.heap.size ≤ g) : v.ownBlock ≠ some g := fun e => by
  rcases h.2 with ⟨rfl, _⟩ | ⟨g', cap, cur, rfl, _, hh, _⟩
  · cases e
  · have h1 : g' = g := Option.some.inj e
    have := (Array.getElem?_eq_some_iff.1 hh).1
    omega
theorem Blk.grown' {w w' : World} {k : Nat} {t : TypeId} {cs : List Value} {row : Option Nat} (h : Blk w k t cs) (hg : w.grownBy w' row) (hk : row ≠ some k) : Blk w' k t cs := ⟨(hg.block k h.lt (fun e => hk e.symm)).trans h.heap⟩
/-- append of things -/
theorem wpList_appI {i : TypeInfo} (ht : P.underlying t = some (.slice e)) (hi : P.info? e = some i) (hz : i.zero = some z) (hsize : i.size = 2) (hby : i.bytes = bytes) (hzs : z.cells.size = 2) (hgd : o.guard = none) (s x : Operand)
    (ho : o.op = .call { callee := .builtin .append, args := #[s, x], argTypes := #[t, t] })
    (base : Nat) (v : Value) (n : Nat) (L : List Hd) (hs : a.eval s = v) (hown : w.ownsRow base e 2 v n (hdCells L))
    (A : Option Addr) (m c : Nat) (M : List Hd) (hx : a.eval x = .slice A m c) (hl : M.length = m) (hnil : A = none → m = 0 ∧ c = 0)
    (hsrc : ∀ ad, A = some ad → ∀ j u, (hdCells M)[j]? = some u → w.cell? (ad.add j) = some u)
    (h63 : n + m ≤ maxLen) (hbytes : (n + m) * bytes ≤ 140737488355328) (hbase : base ≤ w.heap.size)
    (h : ∀ v' w', w'.ownsRow base e 2 v' (n + m) (hdCells (L ++ M)) → Below base w w' → w.grownBy w' v.ownBlock → wpList P ops Q rest (a.put o.dst v') w') :
    wpList P ops Q (o :: rest) a w := by
  cases A with
  | some ad =>
    exact wpList_append_own_at w hgd s x t ho base e i z 2 bytes ht hi hz hsize hby hzs (by decide) v n _ hs hown ad m c (hdCells M) hx (by rw [hdCells_length, hl]) (hsrc ad rfl) (hdCells_one M) h63 hbytes hbase
      (fun v' w' h2 h3 _ _ => h v' w' (by rw [hdCells_append]; exact h2) (below_of_grown2 hown hbase h3) h3)
  | none =>
    obtain ⟨rfl, rfl⟩ := hnil rfl
    obtain rfl : M = [] := List.eq_nil_of_length_eq_zero hl
    refine wpList_plain hgd fun K hK => ?_
    have hrun := run_append_owned_none (P := P) w base t o.type e i 2 ht hi v n (hdCells L) hown
    unfold Oper.wp
    simp [execOp, ho, resolve, invoke, builtin, hs, hx, hrun, Result.andThen]
    exact hK _ _ (h v w (by simpa using hown) (Below.refl _ _) (World.grownBy.refl _ _))
end
end Go.Proofs.Ytpbpegoobgfjcaa
