/- 
    -/
import Derived.Maps.OwnSet
import Derived.Test.YtcehkafddlfleaaGreatDoorG04
import Derived.Test.YtcehkafddlfleaaGreatDoorG05
namespace Go.Proofs.YtcehkafddlfleaaGreatDoor
open Go.RowKit
open Go.Maps (Keyed)
open Go.WideElems (Fit rd rg pl rd_val)
def Rv (v : Value) : Option (DataW Value × List MemPlace) := some (.held v, [])
structure KeyT (P : Program) (k : TypeId) {κ : Type} (kv : κ → Value) (ok : κ → Prop) : Prop where
 K : Keyed P k
 lit : ∀ x, ok x → ∃ kl, keyOf P k (kv x) = some kl
 inj : ∀ x y, kv x = kv y → x = y
structure MapI (w : World) (P : Program) (k : TypeId) {κ : Type} (kv : κ → Value) (ok : κ → Prop) (b n : Nat) (f : κ → Option Value) : Prop where
 is : ∃ D : DataW Value, w.ownsMap P k Rv b n D ∧ Maps.size D = n ∧ ∀ x, ok x → ∀ kl, keyOf P k (kv x) = some kl → Maps.has D kl = (f x).isSome ∧ ∀ z, D.atKey kl (.held z) = .held ((f x).getD z)
section
variable {P : Program} {w : World} {k t e : TypeId} {κ : Type} {kv : κ → Value} {ok : κ → Prop} {b n : Nat} {f : κ → Option Value}
theorem ownsMap_tight {D : DataW Value} (h : w.ownsMap P k Rv b n D) : w.ownsMap P k Rv b (Maps.size D) D := by
 obtain ⟨es, clock, hb, F, hs, rfl⟩ := h
 exact ⟨es, clock, hb, F, by simp [Maps.size, length_sorted], rfl⟩
theorem MapI.made (w : World) (P : Program) (k : TypeId) {κ : Type} (kv : κ → Value) (ok : κ → Prop) : MapI (w.alloc (.map #[] 0)) P k kv ok w.heap.size 0 (fun _ => none) :=
 ⟨_, World.ownsMap_made w P k Rv, rfl, fun _ _ _ _ => ⟨rfl, fun _ => rfl⟩⟩
theorem MapI.lt (h : MapI w P k kv ok b n f) : b < w.heap.size := by obtain ⟨D, h1, _⟩ := h.is; exact h1.lt
theorem MapI.heap (h : MapI w P k kv ok b n f) : ∃ es clock, w.heap[b]? = some (.map es clock) := by
 obtain ⟨D, ⟨es, clock, hb, _⟩, _⟩ := h.is; exact ⟨es, clock, hb⟩
theorem MapI.stay {w' : World} (h : MapI w P k kv ok b n f) (hb : w'.heap[b]? = w.heap[b]?) : MapI w' P k kv ok b n f := by
 obtain ⟨D, ⟨es, clock, h1, h2⟩, h3⟩ := h.is
 exact ⟨D, ⟨es, clock, hb.trans h1, h2⟩, h3⟩
theorem MapI.ne {g : Nat} {t' : TypeId} {cs : List Value} (h : MapI w P k kv ok b n f) (hk : Blk w g t' cs) : g ≠ b := fun e => by
 subst e
 obtain ⟨es, clock, hb⟩ := h.heap
 rw [hk.heap] at hb
 cases hb
theorem run_makeMapI (t : TypeId) (m : Int) (ht : P.underlying t = some (.map k e)) (w : World) : (Instr.makeMap t (some (.int .i64 m))).run P w = .ok (.map (some w.heap.size)) (w.alloc (.map #[] 0)) := by
 simp [Instr.makeMap, Sem.run_bind, run_underlying ht, asInt, Result.andThen]
 rfl
theorem MapI.look (h : MapI w P k kv ok b n f) (T : KeyT P k kv ok) (ht : P.underlying t = some (.map k e)) {z : Value} (hz : (zeroValue e).run P w = .ok z w) {x : κ} (hx : ok x) :
  (Instr.lookup t (.map (some b)) (kv x) false).run P w = .ok ((f x).getD z) w := by
 obtain ⟨D, h1, _, h3⟩ := h.is
 obtain ⟨kl, hkl⟩ := T.lit x hx
 obtain ⟨v, ps, hr, hv⟩ := h1.lookup T.K ht hz (zd := .held z) (zp := []) rfl hkl
 rw [(h3 x hx kl hkl).2 z] at hv
 have e1 : v = (f x).getD z := by
  have := congrArg Prod.fst (Option.some.inj hv)
  injection this
 rw [← e1]; exact hr
theorem MapI.look_ok (h : MapI w P k kv ok b n f) (T : KeyT P k kv ok) (ht : P.underlying t = some (.map k e)) {z : Value} (hz : (zeroValue e).run P w = .ok z w) {x : κ} (hx : ok x) :
  (Instr.lookup t (.map (some b)) (kv x) true).run P w = .ok (.tuple #[(f x).getD z, .bool (f x).isSome]) w := by
 obtain ⟨D, h1, _, h3⟩ := h.is
 obtain ⟨kl, hkl⟩ := T.lit x hx
 obtain ⟨v, ps, hr, hv⟩ := h1.look_ok T.K ht hz (zd := .held z) (zp := []) rfl hkl
 rw [(h3 x hx kl hkl).2 z] at hv
 rw [(h3 x hx kl hkl).1] at hr
 have e1 : v = (f x).getD z := by
  have := congrArg Prod.fst (Option.some.inj hv)
  injection this
 rw [← e1]; exact hr
theorem MapI.keys_ne (T : KeyT P k kv ok) {x y : κ} (hxy : x ≠ y) {kx ky : Lit} (hx : keyOf P k (kv x) = some kx) (hy : keyOf P k (kv y) = some ky) : kx ≠ ky := fun e => by
 subst e
 exact hxy (T.inj _ _ (T.K.inj hx hy))
theorem MapI.store [DecidableEq κ] (h : MapI w P k kv ok b n f) (T : KeyT P k kv ok) (ht : P.underlying t = some (.map k e)) (hn : n < maxLen) {x : κ} (hx : ok x) (v : Value) :
  ∃ w', (Instr.mapUpdate t (.map (some b)) (kv x) v).run P w = .ok () w' ∧ MapI w' P k kv ok b (if (f x).isSome then n else n + 1) (fun y => if y = x then some v else f y) ∧ Only b w w' := by
 obtain ⟨D, h1, h2, h3⟩ := h.is
 obtain ⟨kl, hkl⟩ := T.lit x hx
 obtain ⟨w', hr, ho, htu⟩ := h1.store T.K ht hn (d := .held v) (ps := []) hkl rfl
 refine ⟨w', hr, ⟨D.put kl (.held v), ?_, ?_, ?_⟩, ?_⟩
 ·have := ownsMap_tight ho
  rw [Maps.size_put (h1.tidy T.K), (h3 x hx kl hkl).1, h2] at this
  exact this
 ·rw [Maps.size_put (h1.tidy T.K), (h3 x hx kl hkl).1, h2]
 ·intro y hy ky hky
  by_cases hyx : y = x
  ·subst hyx
   obtain rfl : ky = kl := by rw [hkl] at hky; exact (Option.some.inj hky).symm
   simp only [if_true, Option.isSome_some, Option.getD_some]
   exact ⟨Maps.has_put_same h1.isMap (T.K.key hkl) _, fun z => Maps.atKey_put_same h1.isMap (T.K.key hkl) _ _⟩
  ·simp only [if_neg hyx]
   have hne := MapI.keys_ne T hyx hky hkl
   exact ⟨(Maps.has_put_other hne _).trans (h3 y hy ky hky).1, fun z => (Maps.atKey_put_other hne _ _).trans ((h3 y hy ky hky).2 z)⟩
 ·obtain ⟨es, clock, es', clock', hb, rfl⟩ := htu
  exact ⟨rfl, rfl, rfl, by simp [ChangeMaps.setBlock], fun i hi => ChangeMaps.heap_setBlock_other hb _ hi⟩
theorem MapI.drop [DecidableEq κ] (h : MapI w P k kv ok b n f) (T : KeyT P k kv ok) (ht : P.underlying t = some (.map k e)) {x : κ} (hx : ok x) (ty : TypeId) :
  ∃ w', (Builtin.delete_ #[t, k] ty #[.map (some b), kv x]).run P w = .ok (.tuple #[]) w' ∧ MapI w' P k kv ok b (n - (if (f x).isSome then 1 else 0)) (fun y => if y = x then none else f y) ∧ Only b w w' := by
 obtain ⟨D, h1, h2, h3⟩ := h.is
 obtain ⟨kl, hkl⟩ := T.lit x hx
 obtain ⟨w', hr, ho, htu⟩ := h1.drop T.K ht hkl ty
 have hsz := Maps.size_del (k := kl) (h1.tidy T.K)
 rw [(h3 x hx kl hkl).1, h2] at hsz
 have hsz' : Maps.size (D.del kl) = n - (if (f x).isSome then 1 else 0) := by omega
 refine ⟨w', hr, ⟨D.del kl, ?_, hsz', ?_⟩, ?_⟩
 ·have := ownsMap_tight ho
  rwa [hsz'] at this
 ·intro y hy ky hky
  by_cases hyx : y = x
  ·subst hyx
   obtain rfl : ky = kl := by rw [hkl] at hky; exact (Option.some.inj hky).symm
   simp only [if_true, Option.isSome_none, Option.getD_none]
   exact ⟨Maps.has_del_same, fun z => Maps.atKey_del_same _⟩
  ·simp only [if_neg hyx]
   have hne := MapI.keys_ne T hyx hky hkl
   exact ⟨(Maps.has_del_other hne).trans (h3 y hy ky hky).1, fun z => (Maps.atKey_del_other hne _).trans ((h3 y hy ky hky).2 z)⟩
 ·obtain ⟨es, clock, es', clock', hb, rfl⟩ := htu
  exact ⟨rfl, rfl, rfl, by simp [ChangeMaps.setBlock], fun i hi => ChangeMaps.heap_setBlock_other hb _ hi⟩
variable {ops : Array Oper} {rest : List Oper} {o : Oper} {a : Act} {Q : Exit → Act → World → Prop}
theorem wpList_lookI (h : MapI w P k kv ok b n f) (T : KeyT P k kv ok) (hg : o.guard = none) (m y : Operand) (hop : o.op = Op.lookup t m y false) (ht : P.underlying t = some (.map k e)) {z : Value} (hz : (zeroValue e).run P w = .ok z w)
  (hm : a.eval m = .map (some b)) (x : κ) (hx : ok x) (hy : a.eval y = kv x) (hK : wpList P ops Q rest (a.put o.dst ((f x).getD z)) w) : wpList P ops Q (o :: rest) a w := by
 refine wpList_plain hg fun K' hK' => ?_
 unfold Oper.wp
 simp [execOp, hop, hm, hy, h.look T ht hz hx, Result.andThen]
 exact hK' _ _ hK
theorem wpList_lookI_ok (h : MapI w P k kv ok b n f) (T : KeyT P k kv ok) (hg : o.guard = none) (m y : Operand) (hop : o.op = Op.lookup t m y true) (ht : P.underlying t = some (.map k e)) {z : Value} (hz : (zeroValue e).run P w = .ok z w)
  (hm : a.eval m = .map (some b)) (x : κ) (hx : ok x) (hy : a.eval y = kv x) (hK : wpList P ops Q rest (a.put o.dst (.tuple #[(f x).getD z, .bool (f x).isSome])) w) : wpList P ops Q (o :: rest) a w := by
 refine wpList_plain hg fun K' hK' => ?_
 unfold Oper.wp
 simp [execOp, hop, hm, hy, h.look_ok T ht hz hx, Result.andThen]
 exact hK' _ _ hK
theorem wpList_lookI_nil (T : KeyT P k kv ok) (hg : o.guard = none) (m y : Operand) (hop : o.op = Op.lookup t m y true) (ht : P.underlying t = some (.map k e)) {z : Value} (hz : (zeroValue e).run P w = .ok z w)
  (hm : a.eval m = .map none) (x : κ) (hx : ok x) (hy : a.eval y = kv x) (hK : wpList P ops Q rest (a.put o.dst (.tuple #[z, .bool false])) w) : wpList P ops Q (o :: rest) a w := by
 obtain ⟨kl, hkl⟩ := T.lit x hx
 refine wpList_plain hg fun K' hK' => ?_
 unfold Oper.wp
 simp [execOp, hop, hm, hy, Maps.look_nil (w := w) true T.K ht hz hkl, Result.andThen]
 exact hK' _ _ hK
theorem wpList_storeI [DecidableEq κ] (h : MapI w P k kv ok b n f) (T : KeyT P k kv ok) (hg : o.guard = none) (m y v : Operand) (hop : o.op = Op.mapUpdate t m y v) (ht : P.underlying t = some (.map k e)) (hn : n < maxLen)
  (hm : a.eval m = .map (some b)) (x : κ) (hx : ok x) (hy : a.eval y = kv x) {u : Value} (hv : a.eval v = u)
  (hK : ∀ w', MapI w' P k kv ok b (if (f x).isSome then n else n + 1) (fun y => if y = x then some u else f y) → Only b w w' → wpList P ops Q rest (a.put o.dst undef) w') : wpList P ops Q (o :: rest) a w := by
 refine wpList_plain hg fun K' hK' => ?_
 obtain ⟨w', hr, h1, h2⟩ := h.store T ht hn hx u
 unfold Oper.wp
 simp [execOp, hop, hm, hy, hv, hr, Result.andThen]
 exact hK' _ _ (hK w' h1 h2)
theorem wpList_dropI [DecidableEq κ] (h : MapI w P k kv ok b n f) (T : KeyT P k kv ok) (hg : o.guard = none) (m y : Operand) (hop : o.op = Op.call { callee := Callee.builtin Builtin.delete, args := #[m, y], argTypes := #[t, k] }) (ht : P.underlying t = some (.map k e))
  (hm : a.eval m = .map (some b)) (x : κ) (hx : ok x) (hy : a.eval y = kv x)
  (hK : ∀ w', MapI w' P k kv ok b (n - (if (f x).isSome then 1 else 0)) (fun y => if y = x then none else f y) → Only b w w' → wpList P ops Q rest (a.put o.dst (.tuple #[])) w') : wpList P ops Q (o :: rest) a w := by
 refine wpList_plain hg fun K' hK' => ?_
 obtain ⟨w', hr, h1, h2⟩ := h.drop T ht hx o.type
 unfold Oper.wp
 simp [execOp, hop, resolve, invoke, builtin, hm, hy, hr, Result.andThen]
 exact hK' _ _ (hK w' h1 h2)
theorem wpList_lenI (h : MapI w P k kv ok b n f) (hg : o.guard = none) (m : Operand) (hop : o.op = Op.call { callee := Callee.builtin Builtin.len, args := #[m], argTypes := #[t] }) (ht : P.underlying t = some (.map k e))
  (hm : a.eval m = .map (some b)) (hK : wpList P ops Q rest (a.put o.dst (.int .i64 (n : Int))) w) : wpList P ops Q (o :: rest) a w := by
 obtain ⟨D, h1, h2, _⟩ := h.is
 refine wpList_plain hg fun K' hK' => ?_
 unfold Oper.wp
 simp [execOp, hop, resolve, invoke, builtin, hm, h1.len ht o.type, h2, Result.andThen]
 exact hK' _ _ hK
end
end Go.Proofs.YtcehkafddlfleaaGreatDoor

namespace Go.Proofs.YtcehkafddlfleaaGreatDoor
open Go.RowKit
set_option maxHeartbeats 400000 in
theorem pad6_any (A : Option Addr) (n c : Nat) (wide : Int) (xs : List UInt8) (w : World) (ha : Bs w w.heap.size A n c xs) (hn : n ≤ 4294967296) (hw : wide ≤ 4294967296) :
  Calls Tryz.prog 76 #[.slice A n c, .int .i64 wide] w fun e w' => e = .returned (.slice (some ⟨w.heap.size, 0, none⟩) (padL xs wide).length (padL xs wide).length) ∧ Blk w' w.heap.size 5 (cells8 (padL xs wide)) ∧ Below w.heap.size w w' := by
 obtain ⟨N, hN⟩ : ∃ N : Nat, N = max n wide.toNat := ⟨_, rfl⟩
 have HNN := Lib.hid hN
 have HL := Lib.hid ha.len
 have hN1 : N ≤ 4294967296 := by omega
 clear hN
 go_enter Tryz.func76, Tryz.ntmps76
 rcases (by omega : (n : Int) < wide ∨ wide ≤ (n : Int)) with h | h
 all_goals
  go_wp2_with (with_reducible refine wpList_mk (o := ⟨some 10, _, _, _, _, _⟩) el8 rfl _ _ rfl w.heap.size _ _ _ _ N rfl rfl (by have := HNN.out; omega) (by have := HNN.out; omega) (by omega) (by simp only [maxLen]; omega) (Nat.le_refl _) ?_)
  intro w1 hown hg
  have hb1 : Below w.heap.size w w1 := (Below.refl _ _).grown hg (Nat.le_refl _) (by simp)
  have H1 := Lib.hid hown
  have ha1 := ha.below hb1
  clear hg hown
  go_wp2_with (with_reducible refine wpList_copyBs (o := ⟨some 13, _, _, _, _, _⟩) el8 rfl _ _ rfl w.heap.size _ _ _ rfl H1.out rfl ha1 ?_)
  intro w2 H2 hb2 _
  have e1 : (padL xs wide).length = N := by rw [padL_length, HL.out, HNN.out]
  have H3 : Hid (w2.ownsRow w.heap.size 5 1 (.slice (some ⟨w.heap.size, 0, none⟩) N N) N (cells8 (padL xs wide))) := by
   have h2 := H2.out
   have e2 : cells8 (xs.take N) ++ List.replicate (N - n) (Value.int .u8 0) = cells8 (padL xs wide) := by
    rw [List.take_of_length_le (by rw [HL.out, HNN.out]; omega), padL, cells8_append, HL.out]
    simp [cells8]
    have := HNN.out
    omega
   rw [e2] at h2
   exact h2
  have HE := Lib.hid e1
  clear H1 H2 e1
  go_wp2
  go_ret
  refine ⟨?_, ⟨(own_full H3.out).1⟩, hb1.trans hb2⟩
  rw [HE.out]; rfl
end Go.Proofs.YtcehkafddlfleaaGreatDoor
