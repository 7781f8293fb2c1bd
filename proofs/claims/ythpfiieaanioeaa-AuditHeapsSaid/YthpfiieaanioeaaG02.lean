/- Maps by their keys: what stands at each, and how many there are: laws of the walk; no program is named here.
   Maps by their keys: an entry made ahead of its store ('m[k]++'): laws of the walk; no program is named here.
   Lists of things at places, as the walks read them. No program is named here.
   Heaps of things, counted: what is left of one without another, and what is the same. No program is named here.
   A struct or an array, built of one part. No program is named here.
   The element types of this seat's slices.
   Things as keys of a map; the contract of audit's thingOf.
   Numbers as bytes, the greatest first, and back: plain lemmas. -/
import Derived.Maps.OwnSet
import Derived.Test.YthpfiieaanioeaaG01
import Derived.WideKeyEntry
import Derived.Laws.Tables
import Derived.Test.YthpfiieaanioeaaRows
import Derived.DeepKeys4
namespace Go.Proofs.Ythpfiieaanioeaa
open Go.RowKit
open Go.Maps (Keyed)
open Go.WideElems (Fit rd rg pl rd_val)

/-- an element is read as itself -/
def Rv (v : Value) : Option (DataW Value × List MemPlace) := some (.held v, [])

/-- The keys kv x of type k, x of what is ok: each is a key, and no two are one. -/
structure KeyT (P : Program) (k : TypeId) {κ : Type} (kv : κ → Value) (ok : κ → Prop) : Prop where
  K : Keyed P k
  lit : ∀ x, ok x → ∃ kl, keyOf P k (kv x) = some kl
  inj : ∀ x y, kv x = kv y → x = y

/-- Block b is a map of n entries; at x stands f x. -/
structure MapI (w : World) (P : Program) (k : TypeId) {κ : Type} (kv : κ → Value) (ok : κ → Prop) (b n : Nat) (f : κ → Option Value) : Prop where
  is : ∃ D : DataW Value, w.ownsMap P k Rv b n D ∧ Maps.size D = n ∧ ∀ x, ok x → ∀ kl, keyOf P k (kv x) = some kl → Maps.has D kl = (f x).isSome ∧ ∀ z, D.atKey kl (.held z) = .held ((f x).getD z)

section
variable {P : Program} {w : World} {k t e : TypeId} {κ : Type} {kv : κ → Value} {ok : κ → Prop} {b n : Nat} {f : κ → Option Value}

theorem ownsMap_tight {D : DataW Value} (h : w.ownsMap P k Rv b n D) : w.ownsMap P k Rv b (Maps.size D) D := by
  obtain ⟨es, clock, hb, F, hs, rfl⟩ := h
  exact ⟨es, clock, hb, F, by simp [Maps.size, length_sorted], rfl⟩

theorem MapI.made (w : World) (P : Program) (k : TypeId) {κ : Type} (kv : κ → Value) (ok : κ → Prop) : MapI (w.alloc (.map #[] 0)) P k kv ok w.heap.size 0 (fun _ => none) :=
  ⟨_, World.ownsMap_made w P k Rv, rfl, fun _ _ _ _ => ⟨rfl, fun _ => rfl⟩⟩
theorem MapI.lt (h : MapI w P k kv ok b n f) : b < w.heap.size := by obtain ⟨D, h1, _⟩ := h.is; exact h1.lt
theorem MapI.heap (h : MapI w P k kv ok b n f) : ∃ es clock, w.heap[b]? = some (.map es clock) := by
  obtain ⟨D, ⟨es, clock, hb, _⟩, _⟩ := h.is; exact ⟨es, clock, hb⟩
theorem MapI.stay {w' : World} (h : MapI w P k kv ok b n f) (hb : w'.heap[b]? = w.heap[b]?) : MapI w' P k kv ok b n f := by
  obtain ⟨D, ⟨es, clock, h1, h2⟩, h3⟩ := h.is
  exact ⟨D, ⟨es, clock, hb.trans h1, h2⟩, h3⟩
theorem MapI.ne {g : Nat} {t' : TypeId} {cs : List Value} (h : MapI w P k kv ok b n f) (hk : Blk w g t' cs) : g ≠ b := fun e => by
  subst e
  obtain ⟨es, clock, hb⟩ := h.heap
  rw [hk.heap] at hb
  cases hb

theorem run_makeMapI (t : TypeId) (m : Int) (ht : P.underlying t = some (.map k e)) (w : World) : (Instr.makeMap t (some (.int .i64 m))).run P w = .ok (.map (some w.heap.size)) (w.alloc (.map #[] 0)) := by
  simp [Instr.makeMap, Sem.run_bind, run_underlying ht, asInt, Result.andThen]
  rfl

theorem MapI.look (h : MapI w P k kv ok b n f) (T : KeyT P k kv ok) (ht : P.underlying t = some (.map k e)) {z : Value} (hz : (zeroValue e).run P w = .ok z w) {x : κ} (hx : ok x) :
    (Instr.lookup t (.map (some b)) (kv x) false).run P w = .ok ((f x).getD z) w := by
  obtain ⟨D, h1, _, h3⟩ := h.is
  obtain ⟨kl, hkl⟩ := T.lit x hx
  obtain ⟨v, ps, hr, hv⟩ := h1.lookup T.K ht hz (zd := .held z) (zp := []) rfl hkl
  rw [(h3 x hx kl hkl).2 z] at hv
  have e1 : v = (f x).getD z := by
    have := congrArg Prod.fst (Option.some.inj hv)
    injection this
  rw [← e1]; exact hr
theorem MapI.look_ok (h : MapI w P k kv ok b n f) (T : KeyT P k kv ok) (ht : P.underlying t = some (.map k e)) {z : Value} (hz : (zeroValue e).run P w = .ok z w) {x : κ} (hx : ok x) :
    (Instr.lookup t (.map (some b)) (kv x) true).run P w = .ok (.tuple #[(f x).getD z, .bool (f x).isSome]) w := by
  obtain ⟨D, h1, _, h3⟩ := h.is
  obtain ⟨kl, hkl⟩ := T.lit x hx
  obtain ⟨v, ps, hr, hv⟩ := h1.look_ok T.K ht hz (zd := .held z) (zp := []) rfl hkl
  rw [(h3 x hx kl hkl).2 z] at hv
  rw [(h3 x hx kl hkl).1] at hr
  have e1 : v = (f x).getD z := by
    have := congrArg Prod.fst (Option.some.inj hv)
    injection this
  rw [← e1]; exact hr
theorem MapI.keys_ne (T : KeyT P k kv ok) {x y : κ} (hxy : x ≠ y) {kx ky : Lit} (hx : keyOf P k (kv x) = some kx) (hy : keyOf P k (kv y) = some ky) : kx ≠ ky := fun e => by
  subst e
  exact hxy (T.inj _ _ (T.K.inj hx hy))

theorem MapI.store [DecidableEq κ] (h : MapI w P k kv ok b n f) (T : KeyT P k kv ok) (ht : P.underlying t = some (.map k e)) (hn : n < maxLen) {x : κ} (hx : ok x) (v : Value) :
    ∃ w', (Instr.mapUpdate t (.map (some b)) (kv x) v).run P w = .ok () w' ∧ MapI w' P k kv ok b (if (f x).isSome then n else n + 1) (fun y => if y = x then some v else f y) ∧ Only b w w' := by
  obtain ⟨D, h1, h2, h3⟩ := h.is
  obtain ⟨kl, hkl⟩ := T.lit x hx
  obtain ⟨w', hr, ho, htu⟩ := h1.store T.K ht hn (d := .held v) (ps := []) hkl rfl
  refine ⟨w', hr, ⟨D.put kl (.held v), ?_, ?_, ?_⟩, ?_⟩
  · have := ownsMap_tight ho
    rw [Maps.size_put (h1.tidy T.K), (h3 x hx kl hkl).1, h2] at this
    exact this
  · rw [Maps.size_put (h1.tidy T.K), (h3 x hx kl hkl).1, h2]
  · intro y hy ky hky
    by_cases hyx : y = x
    · subst hyx
      obtain rfl : ky = kl := by rw [hkl] at hky; exact (Option.some.inj hky).symm
      simp only [if_true, Option.isSome_some, Option.getD_some]
      exact ⟨Maps.has_put_same h1.isMap (T.K.key hkl) _, fun z => Maps.atKey_put_same h1.isMap (T.K.key hkl) _ _⟩
    · simp only [if_neg hyx]
      have hne := MapI.keys_ne T hyx hky hkl
      exact ⟨(Maps.has_put_other hne _).trans (h3 y hy ky hky).1, fun z => (Maps.atKey_put_other hne _ _).trans ((h3 y hy ky hky).2 z)⟩
  · obtain ⟨es, clock, es', clock', hb, rfl⟩ := htu
    exact ⟨rfl, rfl, rfl, by simp [ChangeMaps.setBlock], fun i hi => ChangeMaps.heap_setBlock_other hb _ hi⟩
theorem MapI.drop [DecidableEq κ] (h : MapI w P k kv ok b n f) (T : KeyT P k kv ok) (ht : P.underlying t = some (.map k e)) {x : κ} (hx : ok x) (ty : TypeId) :
    ∃ w', (Builtin.delete_ #[t, k] ty #[.map (some b), kv x]).run P w = .ok (.tuple #[]) w' ∧ MapI w' P k kv ok b (n - (if (f x).isSome then 1 else 0)) (fun y => if y = x then none else f y) ∧ Only b w w' := by
  obtain ⟨D, h1, h2, h3⟩ := h.is
  obtain ⟨kl, hkl⟩ := T.lit x hx
  obtain ⟨w', hr, ho, htu⟩ := h1.drop T.K ht hkl ty
  have hsz := Maps.size_del (k := kl) (h1.tidy T.K)
  rw [(h3 x hx kl hkl).1, h2] at hsz
  have hsz' : Maps.size (D.del kl) = n - (if (f x).isSome then 1 else 0) := by omega
  refine ⟨w', hr, ⟨D.del kl, ?_, hsz', ?_⟩, ?_⟩
  · have := ownsMap_tight ho
    rwa [hsz'] at this
  · intro y hy ky hky
    by_cases hyx : y = x
    · subst hyx
      obtain rfl : ky = kl := by rw [hkl] at hky; exact (Option.some.inj hky).symm
      simp only [if_true, Option.isSome_none, Option.getD_none]
      exact ⟨Maps.has_del_same, fun z => Maps.atKey_del_same _⟩
    · simp only [if_neg hyx]
      have hne := MapI.keys_ne T hyx hky hkl
      exact ⟨(Maps.has_del_other hne).trans (h3 y hy ky hky).1, fun z => (Maps.atKey_del_other hne _).trans ((h3 y hy ky hky).2 z)⟩
  · obtain ⟨es, clock, es', clock', hb, rfl⟩ := htu
    exact ⟨rfl, rfl, rfl, by simp [ChangeMaps.setBlock], fun i hi => ChangeMaps.heap_setBlock_other hb _ hi⟩

variable {ops : Array Oper} {rest : List Oper} {o : Oper} {a : Act} {Q : Exit → Act → World → Prop}
theorem wpList_lookI (h : MapI w P k kv ok b n f) (T : KeyT P k kv ok) (hg : o.guard = none) (m y : Operand) (hop : o.op = Op.lookup t m y false) (ht : P.underlying t = some (.map k e)) {z : Value} (hz : (zeroValue e).run P w = .ok z w)
    (hm : a.eval m = .map (some b)) (x : κ) (hx : ok x) (hy : a.eval y = kv x) (hK : wpList P ops Q rest (a.put o.dst ((f x).getD z)) w) : wpList P ops Q (o :: rest) a w := by
  refine wpList_plain hg fun K' hK' => ?_
  unfold Oper.wp
  simp [execOp, hop, hm, hy, h.look T ht hz hx, Result.andThen]
  exact hK' _ _ hK
theorem wpList_lookI_ok (h : MapI w P k kv ok b n f) (T : KeyT P k kv ok) (hg : o.guard = none) (m y : Operand) (hop : o.op = Op.lookup t m y true) (ht : P.underlying t = some (.map k e)) {z : Value} (hz : (zeroValue e).run P w = .ok z w)
    (hm : a.eval m = .map (some b)) (x : κ) (hx : ok x) (hy : a.eval y = kv x) (hK : wpList P ops Q rest (a.put o.dst (.tuple #[(f x).getD z, .bool (f x).isSome])) w) : wpList P ops Q (o :: rest) a w := by
  refine wpList_plain hg fun K' hK' => ?_
  unfold Oper.wp
  simp [execOp, hop, hm, hy, h.look_ok T ht hz hx, Result.andThen]
  exact hK' _ _ hK
theorem wpList_lookI_nil (T : KeyT P k kv ok) (hg : o.guard = none) (m y : Operand) (hop : o.op = Op.lookup t m y true) (ht : P.underlying t = some (.map k e)) {z : Value} (hz : (zeroValue e).run P w = .ok z w)
    (hm : a.eval m = .map none) (x : κ) (hx : ok x) (hy : a.eval y = kv x) (hK : wpList P ops Q rest (a.put o.dst (.tuple #[z, .bool false])) w) : wpList P ops Q (o :: rest) a w := by
  obtain ⟨kl, hkl⟩ := T.lit x hx
  refine wpList_plain hg fun K' hK' => ?_
  unfold Oper.wp
  simp [execOp, hop, hm, hy, Maps.look_nil (w := w) true T.K ht hz hkl, Result.andThen]
  exact hK' _ _ hK
theorem wpList_storeI [DecidableEq κ] (h : MapI w P k kv ok b n f) (T : KeyT P k kv ok) (hg : o.guard = none) (m y v : Operand) (hop : o.op = Op.mapUpdate t m y v) (ht : P.underlying t = some (.map k e)) (hn : n < maxLen)
    (hm : a.eval m = .map (some b)) (x : κ) (hx : ok x) (hy : a.eval y = kv x) {u : Value} (hv : a.eval v = u)
    (hK : ∀ w', MapI w' P k kv ok b (if (f x).isSome then n else n + 1) (fun y => if y = x then some u else f y) → Only b w w' → wpList P ops Q rest (a.put o.dst undef) w') : wpList P ops Q (o :: rest) a w := by
  refine wpList_plain hg fun K' hK' => ?_
  obtain ⟨w', hr, h1, h2⟩ := h.store T ht hn hx u
  unfold Oper.wp
  simp [execOp, hop, hm, hy, hv, hr, Result.andThen]
  exact hK' _ _ (hK w' h1 h2)
theorem wpList_dropI [DecidableEq κ] (h : MapI w P k kv ok b n f) (T : KeyT P k kv ok) (hg : o.guard = none) (m y : Operand) (hop : o.op = Op.call { callee := Callee.builtin Builtin.delete, args := #[m, y], argTypes := #[t, k] }) (ht : P.underlying t = some (.map k e))
    (hm : a.eval m = .map (some b)) (x : κ) (hx : ok x) (hy : a.eval y = kv x)
    (hK : ∀ w', MapI w' P k kv ok b (n - (if (f x).isSome then 1 else 0)) (fun y => if y = x then none else f y) → Only b w w' → wpList P ops Q rest (a.put o.dst (.tuple #[])) w') : wpList P ops Q (o :: rest) a w := by
  refine wpList_plain hg fun K' hK' => ?_
  obtain ⟨w', hr, h1, h2⟩ := h.drop T ht hx o.type
  unfold Oper.wp
  simp [execOp, hop, resolve, invoke, builtin, hm, hy, hr, Result.andThen]
  exact hK' _ _ (hK w' h1 h2)
theorem wpList_lenI (h : MapI w P k kv ok b n f) (hg : o.guard = none) (m : Operand) (hop : o.op = Op.call { callee := Callee.builtin Builtin.len, args := #[m], argTypes := #[t] }) (ht : P.underlying t = some (.map k e))
    (hm : a.eval m = .map (some b)) (hK : wpList P ops Q rest (a.put o.dst (.int .i64 (n : Int))) w) : wpList P ops Q (o :: rest) a w := by
  obtain ⟨D, h1, h2, _⟩ := h.is
  refine wpList_plain hg fun K' hK' => ?_
  unfold Oper.wp
  simp [execOp, hop, resolve, invoke, builtin, hm, h1.len ht o.type, h2, Result.andThen]
  exact hK' _ _ hK
end
end Go.Proofs.Ythpfiieaanioeaa

namespace Go.Proofs.Ythpfiieaanioeaa
open Go.RowKit
open Go.Maps (Keyed)
open Go.WideElems (Fit)
open Go.ChangeMaps (setBlock)

section
variable {P : Program} {w : World} {k t e : TypeId} {κ : Type} {kv : κ → Value} {ok : κ → Prop} {b n : Nat} {f : κ → Option Value} {es : Array MapEntry} {clock : Nat}
/-- an entry is made as a store of what is there, or of nought, would make it -/
theorem entry_as (K : Keyed P k) (ht : P.underlying t = some (.map k e)) {z : Value} (hz : (zeroValue e).run P w = .ok z w) (hb : w.heap[b]? = some (.map es clock)) (F : Fit P k Rv es clock)
    {key : Value} {kl : Lit} (hkey : keyOf P k key = some kl) :
    ∃ (v0 : Value) (st : Nat) (es1 : Array MapEntry) (clock1 : Nat), (Instr.mapEntry t (.map (some b)) key).run P w = .ok (.tuple #[v0, goInt st]) (setBlock w b (.map es1 clock1)) ∧
      (Instr.lookup t (.map (some b)) key false).run P w = .ok v0 w ∧ (Instr.mapUpdate t (.map (some b)) key v0).run P w = .ok () (setBlock w b (.map es1 clock1)) ∧
      ∀ (w2 : World) (val : Value), w2.heap[b]? = some (.map es1 clock1) → ∃ es' clock', (Instr.entryStore t (.map (some b)) (goInt st) val).run P w2 = .ok () (setBlock w2 b (.map es' clock')) ∧
        (Instr.mapUpdate t (.map (some b)) key val).run P w = .ok () (setBlock w b (.map es' clock')) := by
  obtain ⟨s1, s2, _⟩ := F.stamped
  rcases K.find w hkey es.toList F.keys with ⟨h1, h2⟩ | ⟨j, e0, h1, h2, h3⟩
  · refine ⟨z, clock, es.push ⟨key, z, clock⟩, clock + 1, ?_, ?_, ?_, fun w2 val hw2 => ⟨es.push ⟨key, val, clock⟩, clock + 1, ?_, ?_⟩⟩
    · simp [Instr.mapEntry, run_underlying ht, MapKept.run_getObj_map hb, K.check w false hkey, h1, hz, MapKept.run_setObj_map _ hb, Result.andThen, setBlock]
    · simp [Instr.lookup, run_underlying ht, MapKept.run_getObj_map hb, K.check w _ hkey, h1, hz, Result.andThen]
    · simp [Instr.mapUpdate, run_underlying ht, MapKept.run_getObj_map hb, K.check w false hkey, h1, MapKept.run_setObj_map _ hb, Result.andThen, setBlock]
    · have hidx : (es.push ⟨key, z, clock⟩).findIdx? (fun e => ((e.born : Nat) : Int) == ((clock : Nat) : Int)) = some es.size := by
        rw [WideElems.findIdx_arr]
        have := WideElems.findIdx_born (l := (es.push ⟨key, z, clock⟩).toList) (j := es.size) (e0 := ⟨key, z, clock⟩) (by
          simp only [Array.toList_push, List.map_append, List.map_cons, List.map_nil]
          refine List.nodup_append.2 ⟨s2, by simp, fun a ha c hc e1 => ?_⟩
          simp only [List.mem_singleton] at hc
          obtain ⟨x, hx, rfl⟩ := List.mem_map.1 ha
          have := s1 x hx
          omega) (by simp)
        exact this
      have hmod : (es.push ⟨key, z, clock⟩).modify es.size (fun e => { e with val := val }) = es.push ⟨key, val, clock⟩ := by
        apply Array.ext'
        rw [Array.toList_modify, Array.toList_push, Array.toList_push, ← Array.length_toList, WideElems.modify_last]
      simp [Instr.entryStore, MapKept.run_getObj_map hw2, asInt, asIntOf, goInt, hidx, hmod, MapKept.run_setObj_map _ hw2, Result.andThen, setBlock]
    · simp [Instr.mapUpdate, run_underlying ht, MapKept.run_getObj_map hb, K.check w false hkey, h1, MapKept.run_setObj_map _ hb, Result.andThen, setBlock]
  · have hj : es[j]? = some e0 := by simpa using h2
    have hsame : es.modify j (fun e => { e with key := key }) = es := by
      apply Array.ext'
      rw [Array.toList_modify, ChangeMaps.modify_eq_set _ _ _ _ h2]
      have : ({ e0 with key := key } : MapEntry) = e0 := by rw [← h3]
      rw [this]
      exact WideElems.set_self _ _ _ h2
    have hsame2 : es.modify j (fun e => { e with key := key, val := e0.val }) = es := by
      apply Array.ext'
      rw [Array.toList_modify, ChangeMaps.modify_eq_set _ _ _ _ h2]
      have : ({ e0 with key := key, val := e0.val } : MapEntry) = e0 := by rw [← h3]
      rw [this]
      exact WideElems.set_self _ _ _ h2
    refine ⟨e0.val, e0.born, es, clock, ?_, ?_, ?_, fun w2 val hw2 => ⟨es.modify j (fun e' => { e' with key := key, val := val }), clock, ?_, ?_⟩⟩
    · simp [Instr.mapEntry, run_underlying ht, MapKept.run_getObj_map hb, K.check w false hkey, h1, hj, h3, K.stays w hkey, hsame, MapKept.run_setObj_map _ hb, Result.andThen, setBlock]
    · simp [Instr.lookup, run_underlying ht, MapKept.run_getObj_map hb, K.check w _ hkey, h1, Result.andThen]
    · simp [Instr.mapUpdate, run_underlying ht, MapKept.run_getObj_map hb, K.check w false hkey, h1, hj, h3, K.stays w hkey, hsame2, MapKept.run_setObj_map _ hb, Result.andThen, setBlock]
    · have hidx : es.findIdx? (fun e => ((e.born : Nat) : Int) == ((e0.born : Nat) : Int)) = some j := by
        rw [WideElems.findIdx_arr]
        exact WideElems.findIdx_born s2 h2
      have hmod : es.modify j (fun e => { e with val := val }) = es.modify j (fun e' => { e' with key := key, val := val }) := by
        apply Array.ext'
        rw [Array.toList_modify, Array.toList_modify, ChangeMaps.modify_eq_set _ _ _ _ h2, ChangeMaps.modify_eq_set _ _ _ _ h2, ← h3]
      simp [Instr.entryStore, MapKept.run_getObj_map hw2, asInt, asIntOf, goInt, hidx, hmod, MapKept.run_setObj_map _ hw2, Result.andThen, setBlock]
    · simp [Instr.mapUpdate, run_underlying ht, MapKept.run_getObj_map hb, K.check w false hkey, h1, hj, h3, K.stays w hkey, MapKept.run_setObj_map _ hb, Result.andThen, setBlock]

/-- Block b is a map in which an entry of x has been made, under the stamp st; ahead of that there stood f. -/
structure EntI (w : World) (P : Program) (k t : TypeId) {κ : Type} [DecidableEq κ] (kv : κ → Value) (ok : κ → Prop) (b n : Nat) (f : κ → Option Value) (x : κ) (z : Value) (st : Nat) : Prop where
  is : ∃ es1 clock1, w.heap[b]? = some (.map es1 clock1) ∧ ∀ w2 val, w2.heap[b]? = some (.map es1 clock1) →
    ∃ w3, (Instr.entryStore t (.map (some b)) (goInt st) val).run P w2 = .ok () w3 ∧ MapI w3 P k kv ok b (if (f x).isSome then n else n + 1) (fun y => if y = x then some val else f y) ∧ Only b w2 w3
  map : MapI w P k kv ok b (if (f x).isSome then n else n + 1) (fun y => if y = x then some ((f x).getD z) else f y)
theorem EntI.stay [DecidableEq κ] {x : κ} {z : Value} {st : Nat} {w' : World} (h : EntI w P k t kv ok b n f x z st) (hb : w'.heap[b]? = w.heap[b]?) : EntI w' P k t kv ok b n f x z st := by
  obtain ⟨⟨es1, clock1, h1, h2⟩, h3⟩ := h
  exact ⟨⟨es1, clock1, hb.trans h1, h2⟩, h3.stay hb⟩
theorem only_setBlock {es es' : Array MapEntry} {clock clock' : Nat} (hb : w.heap[b]? = some (.map es clock)) : Only b w (setBlock w b (.map es' clock')) :=
  ⟨rfl, rfl, rfl, by simp [setBlock], fun i hi => ChangeMaps.heap_setBlock_other hb _ hi⟩
theorem heap_setBlock {es es' : Array MapEntry} {clock clock' : Nat} (hb : w.heap[b]? = some (.map es clock)) : (setBlock w b (.map es' clock')).heap[b]? = some (.map es' clock') := by
  have hlt := (Array.getElem?_eq_some_iff.1 hb).1
  simp [setBlock, hlt]
theorem MapI.entry [DecidableEq κ] (h : MapI w P k kv ok b n f) (T : KeyT P k kv ok) (ht : P.underlying t = some (.map k e)) {z : Value} (hz : (zeroValue e).run P w = .ok z w) (hn : n < maxLen) {x : κ} (hx : ok x) :
    ∃ (st : Nat) (w1 : World), (Instr.mapEntry t (.map (some b)) (kv x)).run P w = .ok (.tuple #[(f x).getD z, goInt st]) w1 ∧ EntI w1 P k t kv ok b n f x z st ∧ Only b w w1 := by
  obtain ⟨kl, hkl⟩ := T.lit x hx
  have hl := h.look T ht hz hx
  have hst := fun v => h.store T ht hn hx v
  obtain ⟨D, ⟨es, clock, hb, F, _⟩, _⟩ := h.is
  obtain ⟨v0, st, es1, clock1, h1, h2, h3, h4⟩ := entry_as (t := t) (e := e) T.K ht hz hb F hkl
  obtain rfl : v0 = (f x).getD z := by
    rw [hl] at h2
    injection h2 with h5 _
    exact h5.symm
  refine ⟨st, _, h1, ⟨⟨es1, clock1, heap_setBlock hb, fun w2 val hw2 => ?_⟩, ?_⟩, only_setBlock hb⟩
  · obtain ⟨es', clock', k1, k2⟩ := h4 w2 val hw2
    obtain ⟨w', m1, m2, _⟩ := hst val
    rw [k2] at m1
    injection m1 with _ m3
    subst m3
    exact ⟨_, k1, m2.stay (by rw [heap_setBlock hw2, heap_setBlock hb]), only_setBlock hw2⟩
  · obtain ⟨w', m1, m2, _⟩ := hst ((f x).getD z)
    rw [h3] at m1
    injection m1 with _ m3
    subst m3
    exact m2
end
section
variable {P : Program} {w : World} {k t e : TypeId} {κ : Type} [DecidableEq κ] {kv : κ → Value} {ok : κ → Prop} {b n : Nat} {f : κ → Option Value} {ops : Array Oper} {rest : List Oper} {o : Oper} {a : Act} {Q : Exit → Act → World → Prop} {K : Act → World → Prop} {C : Prop}
omit [DecidableEq κ] in
theorem step_lookI (h : MapI w P k kv ok b n f) (T : KeyT P k kv ok) (hgd : o.guard = none) (m y : Operand) (hop : o.op = Op.lookup t m y false) (ht : P.underlying t = some (.map k e)) {z : Value} (hz : ∀ w, (zeroValue e).run P w = .ok z w)
    (hm : a.eval m = .map (some b)) (x : κ) (hx : ok x) (hy : a.eval y = kv x) (hK : K (a.put o.dst ((f x).getD z)) w) : if Region.wanted o (yielded ops a.tmps) = true then Oper.wp P o a w K Q else C := by
  have hw : Region.wanted o (yielded ops a.tmps) = true := by simp [Region.wanted, hgd]
  rw [if_pos hw]
  unfold Oper.wp
  simp [execOp, hop, hm, hy, h.look T ht (hz w) hx, Result.andThen]
  exact hK
theorem step_entI (h : MapI w P k kv ok b n f) (T : KeyT P k kv ok) (hgd : o.guard = none) (m y : Operand) (hop : o.op = Op.mapEntry t m y) (ht : P.underlying t = some (.map k e)) {z : Value} (hz : ∀ w, (zeroValue e).run P w = .ok z w) (hn : n < maxLen)
    (hm : a.eval m = .map (some b)) (x : κ) (hx : ok x) (hy : a.eval y = kv x) (hK : ∀ (st : Nat) (w' : World), EntI w' P k t kv ok b n f x z st → Only b w w' → K (a.put o.dst (.tuple #[(f x).getD z, goInt st])) w') : if Region.wanted o (yielded ops a.tmps) = true then Oper.wp P o a w K Q else C := by
  have hw : Region.wanted o (yielded ops a.tmps) = true := by simp [Region.wanted, hgd]
  rw [if_pos hw]
  obtain ⟨st, w1, h1, h2, h3⟩ := h.entry T ht (hz w) hn hx
  unfold Oper.wp
  simp [execOp, hop, hm, hy, h1, Result.andThen]
  exact hK st w1 h2 h3
/-- a look-up behind the entry's making -/
theorem step_lookE {x : κ} {z : Value} {st : Nat} (h : EntI w P k t kv ok b n f x z st) (T : KeyT P k kv ok) (hgd : o.guard = none) (m y : Operand) (hop : o.op = Op.lookup t m y false) (ht : P.underlying t = some (.map k e)) (hz : ∀ w, (zeroValue e).run P w = .ok z w)
    (hm : a.eval m = .map (some b)) (hx : ok x) (hy : a.eval y = kv x) (hK : K (a.put o.dst ((f x).getD z)) w) : if Region.wanted o (yielded ops a.tmps) = true then Oper.wp P o a w K Q else C :=
  step_lookI h.map T hgd m y hop ht hz hm x hx hy (by simpa using hK)
theorem step_entS {x : κ} {z : Value} {st : Nat} (h : EntI w P k t kv ok b n f x z st) (hgd : o.guard = none) (m s v : Operand) (hop : o.op = Op.entryStore t m s v)
    (hm : a.eval m = .map (some b)) (hs : a.eval s = goInt st) {u : Value} (hv : a.eval v = u)
    (hK : ∀ w', MapI w' P k kv ok b (if (f x).isSome then n else n + 1) (fun y => if y = x then some u else f y) → Only b w w' → K (a.put o.dst undef) w') : if Region.wanted o (yielded ops a.tmps) = true then Oper.wp P o a w K Q else C := by
  have hw : Region.wanted o (yielded ops a.tmps) = true := by simp [Region.wanted, hgd]
  rw [if_pos hw]
  obtain ⟨es1, clock1, h1, h2⟩ := h.is
  obtain ⟨w3, h3, h4, h5⟩ := h2 w u h1
  unfold Oper.wp
  simp [execOp, hop, hm, hs, hv, h3, Result.andThen]
  exact hK w3 h4 h5
omit [DecidableEq κ] in
theorem wpList_makeI (hg : o.guard = none) (x : Operand) (hop : o.op = .makeMap t (some x)) (ht : P.underlying t = some (.map k e)) {m : Int} (hx : a.eval x = .int .i64 m) (kv : κ → Value) (ok : κ → Prop)
    (hK : MapI (w.alloc (.map #[] 0)) P k kv ok w.heap.size 0 (fun _ => none) → Below w.heap.size w (w.alloc (.map #[] 0)) → wpList P ops Q rest (a.put o.dst (.map (some w.heap.size))) (w.alloc (.map #[] 0))) : wpList P ops Q (o :: rest) a w := by
  refine wpList_plain hg fun K' hK' => ?_
  have hrun := run_makeMapI (P := P) t m ht w
  unfold Oper.wp
  simp only [execOp, hop, Option.map_some, hx, Sem.run_bind, hrun, Result.andThen_ok, Sem.run_pure]
  exact hK' _ _ (hK (MapI.made w P k kv ok) ((Below.refl _ _).alloc (Nat.le_refl _) _))
end
end Go.Proofs.Ythpfiieaanioeaa

namespace Go.Proofs.Ythpfiieaanioeaa
open Go.RowKit

/-- A slice of n of room c at A reads as the things its: a place, and bytes; all lies below block B. -/
structure Its (w : World) (B : Nat) (A : Option Addr) (n c : Nat) (its : List (Int × List UInt8)) : Prop where
  len : its.length = n
  cap : n ≤ c
  max : c ≤ maxLen
  nil : A = none → c = 0
  wf : ∀ x ∈ its, (Lit.int .i64 x.1).wf = true
  cells : 0 < n → ∃ b o, A = some ⟨b, o, none⟩ ∧ b < B ∧ ∀ j (h : j < its.length), ∃ A' n' c', w.cell? ⟨b, o + j * 2, none⟩ = some (.int .i64 its[j].1) ∧ w.cell? ⟨b, o + j * 2 + 1, none⟩ = some (.slice A' n' c') ∧ Bs w B A' n' c' its[j].2
section
variable {w w' : World} {B B' : Nat} {A : Option Addr} {n c : Nat} {its : List (Int × List UInt8)}
theorem Its.le (h : Its w B A n c its) : n ≤ 9223372036854775807 := by have := h.cap; have := h.max; simp only [maxLen] at this; omega
theorem Its.keep (h : Its w B A n c its) (hk : ∀ p : Addr, p.block < B → w'.cell? p = w.cell? p) : Its w' B A n c its :=
  ⟨h.len, h.cap, h.max, h.nil, h.wf, fun h0 => by
    obtain ⟨b, o, hA, hb, hc⟩ := h.cells h0
    refine ⟨b, o, hA, hb, fun j hj => ?_⟩
    obtain ⟨A', n', c', h1, h2, h3⟩ := hc j hj
    exact ⟨A', n', c', (hk _ hb).trans h1, (hk _ hb).trans h2, h3.keep hk⟩⟩
theorem Its.more (h : Its w B A n c its) (hB : B ≤ B') : Its w B' A n c its :=
  ⟨h.len, h.cap, h.max, h.nil, h.wf, fun h0 => by
    obtain ⟨b, o, hA, hb, hc⟩ := h.cells h0
    refine ⟨b, o, hA, by omega, fun j hj => ?_⟩
    obtain ⟨A', n', c', h1, h2, h3⟩ := hc j hj
    exact ⟨A', n', c', h1, h2, h3.more hB⟩⟩
theorem Its.below (h : Its w B A n c its) (hb : Below B w w') : Its w' B A n c its := h.keep fun _ hp => hb.cell hp
theorem Its.next {w0 w1 : World} (h : Its w0 B A n c its) (hb : Below w0.heap.size w0 w1) (hB : B ≤ w0.heap.size) : Its w1 w1.heap.size A n c its :=
  (h.below (hb.mono hB)).more (Nat.le_trans hB hb.size)
theorem Its.drew (h : Its w B A n c its) : Its w.drew B A n c its := h.keep fun _ _ => rfl
theorem Its.at (h : Its w B A n c its) {i : Nat} (hi : i < n) : ∃ b o A' n' c', A = some ⟨b, o, none⟩ ∧ b < B ∧ w.cell? ⟨b, o + i * 2, none⟩ = some (.int .i64 (its[i]'(by have := h.len; omega)).1) ∧ w.cell? ⟨b, o + i * 2 + 1, none⟩ = some (.slice A' n' c') ∧ Bs w B A' n' c' (its[i]'(by have := h.len; omega)).2 := by
  obtain ⟨b, o, hA, hb, hc⟩ := h.cells (by omega)
  obtain ⟨A', n', c', h1, h2, h3⟩ := hc i (by have := h.len; omega)
  exact ⟨b, o, A', n', c', hA, hb, h1, h2, h3⟩
end
end Go.Proofs.Ythpfiieaanioeaa

namespace Go.Proofs.Ythpfiieaanioeaa

/-- a thing: a place, and bytes -/
abbrev Th := Int × List UInt8
/-- what is left of things, where g are to go -/
def minusF : List Th → (Th → Nat) → List Th
  | [], _ => []
  | x :: r, g => if 0 < g x then minusF r (fun y => if y = x then g x - 1 else g y) else x :: minusF r g
def cntL (l : List Th) (x : Th) : Nat := l.count x
def minusL (a b : List Th) : List Th := minusF a (cntL b)
def sameL (a b : List Th) : Bool := (a.length == b.length) && (minusL a b).isEmpty

theorem cntL_cons (y : Th) (l : List Th) (x : Th) : cntL (y :: l) x = cntL l x + if y = x then 1 else 0 := by
  unfold cntL
  rw [List.count_cons]
  by_cases h : y = x
  · subst h; simp
  · simp [h]
theorem cntL_append (l m : List Th) (x : Th) : cntL (l ++ m) x = cntL l x + cntL m x := List.count_append
theorem cntL_nil (x : Th) : cntL [] x = 0 := rfl
theorem cntL_snoc (l : List Th) (y x : Th) : cntL (l ++ [y]) x = cntL l x + if y = x then 1 else 0 := by
  rw [cntL_append, cntL_cons, cntL_nil, Nat.zero_add]
theorem cntL_le (l : List Th) (x : Th) : cntL l x ≤ l.length := List.count_le_length
theorem cntL_take (l : List Th) (k : Nat) (h : k < l.length) (x : Th) : cntL (l.take (k + 1)) x = cntL (l.take k) x + if l[k] = x then 1 else 0 := by
  rw [List.take_succ_eq_append_getElem h, cntL_snoc]
theorem minusF_count : ∀ (a : List Th) (g : Th → Nat) (x : Th), cntL (minusF a g) x = cntL a x - g x
  | [], g, x => by simp [minusF, cntL]
  | y :: r, g, x => by
    unfold minusF
    rw [cntL_cons]
    by_cases h0 : 0 < g y
    · rw [if_pos h0, minusF_count r]
      by_cases hxy : x = y
      · subst hxy; simp only [if_true]; omega
      · rw [if_neg hxy, if_neg (fun e => hxy e.symm), Nat.add_zero]
    · rw [if_neg h0, cntL_cons, minusF_count r]
      by_cases hxy : y = x
      · subst hxy; simp only [if_true]; omega
      · rw [if_neg hxy]; omega
theorem minusL_count (a b : List Th) (x : Th) : cntL (minusL a b) x = cntL a x - cntL b x := minusF_count a _ x
theorem minusF_le : ∀ (a : List Th) (g : Th → Nat), (minusF a g).length ≤ a.length
  | [], g => Nat.le_refl _
  | y :: r, g => by
    unfold minusF
    split
    · have := minusF_le r (fun z => if z = y then g y - 1 else g z); simp; omega
    · have := minusF_le r g; simp; omega
theorem perm_of_cnt {a b : List Th} (h : ∀ x, cntL a x = cntL b x) : a.Perm b := List.perm_iff_count.2 h
theorem cnt_of_perm {a b : List Th} (h : a.Perm b) (x : Th) : cntL a x = cntL b x := List.perm_iff_count.1 h x
theorem nil_of_cnt {a : List Th} (h : ∀ x, cntL a x = 0) : a = [] := by
  cases a with
  | nil => rfl
  | cons y r => have := h y; rw [cntL_cons, if_pos rfl] at this; omega
/-- what is left, and what is shared -/
theorem left_shared (a b : List Th) : (minusL a b ++ minusL a (minusL a b)).Perm a := perm_of_cnt fun x => by
  rw [cntL_append, minusL_count, minusL_count, minusL_count]; omega
theorem shared_left (a b : List Th) : (minusL a (minusL a b) ++ minusL b a).Perm b := perm_of_cnt fun x => by
  rw [cntL_append, minusL_count, minusL_count, minusL_count]; omega
theorem minus_self (a : List Th) : minusL a a = [] := nil_of_cnt fun x => by rw [minusL_count]; omega
theorem minusF_zero : ∀ a : List Th, minusF a (fun _ => 0) = a
  | [] => rfl
  | x :: r => by unfold minusF; rw [if_neg (Nat.lt_irrefl 0), minusF_zero r]
theorem minus_nil (a : List Th) : minusL a [] = a := minusF_zero a
/-- the lengths of what is left and what is shared -/
theorem minus_lengths (a b : List Th) : (minusL a b).length + (minusL a (minusL a b)).length = a.length ∧ (minusL a (minusL a b)).length + (minusL b a).length = b.length := by
  have h1 := (left_shared a b).length_eq
  have h2 := (shared_left a b).length_eq
  rw [List.length_append] at h1 h2
  exact ⟨h1, h2⟩
theorem sameL_iff (a b : List Th) : sameL a b = true ↔ a.Perm b := by
  unfold sameL
  rw [Bool.and_eq_true, beq_iff_eq, List.isEmpty_iff]
  constructor
  · rintro ⟨hl, h0⟩
    obtain ⟨h1, h2⟩ := minus_lengths a b
    have h3 : (minusL a b).length = 0 := by rw [h0]; rfl
    have hz : minusL b a = [] := List.eq_nil_of_length_eq_zero (by omega)
    refine perm_of_cnt fun x => ?_
    have e1 := minusL_count a b x
    have e2 := minusL_count b a x
    rw [h0, cntL_nil] at e1
    rw [hz, cntL_nil] at e2
    omega
  · intro h
    exact ⟨h.length_eq, nil_of_cnt fun x => by rw [minusL_count, cnt_of_perm h x]; omega⟩
theorem same_none (a b : List Th) : (((minusL a b).length == 0) && ((minusL b a).length == 0)) = sameL a b := by
  rw [Bool.eq_iff_iff, sameL_iff, Bool.and_eq_true, beq_iff_eq, beq_iff_eq]
  constructor
  · rintro ⟨h1, h2⟩
    have e1 := List.eq_nil_of_length_eq_zero h1
    have e2 := List.eq_nil_of_length_eq_zero h2
    refine perm_of_cnt fun x => ?_
    have k1 := minusL_count a b x
    have k2 := minusL_count b a x
    rw [e1, cntL_nil] at k1
    rw [e2, cntL_nil] at k2
    omega
  · intro h
    constructor
    · rw [nil_of_cnt (a := minusL a b) fun x => by rw [minusL_count, cnt_of_perm h x]; omega]; rfl
    · rw [nil_of_cnt (a := minusL b a) fun x => by rw [minusL_count, cnt_of_perm h x]; omega]; rfl
theorem sameL_comm (a b : List Th) : sameL a b = sameL b a := by
  rw [Bool.eq_iff_iff, sameL_iff, sameL_iff]; exact ⟨List.Perm.symm, List.Perm.symm⟩
theorem same_back (a : List Th) : sameL a a.reverse = true := (sameL_iff _ _).2 (List.reverse_perm a).symm
theorem same_more (a : List Th) (x : Th) : sameL a (a ++ [x]) = false := by
  simp [sameL]
theorem minus_more (a : List Th) (x : Th) : (minusL (a ++ [x]) a).length = 1 := by
  have h1 := (minus_lengths (a ++ [x]) a).1
  have h2 := (minus_lengths (a ++ [x]) a).2
  have h3 : minusL a (a ++ [x]) = [] := nil_of_cnt fun y => by rw [minusL_count, cntL_append]; omega
  rw [h3, List.length_nil] at h2
  rw [List.length_append, List.length_singleton] at h1
  omega
/-- what the document's way leaves of the first k -/
def refP (a b : List Th) : Nat → List Th
  | 0 => []
  | k + 1 => refP a b k ++ (match a[k]? with | some x => if cntL b x ≤ cntL (a.take k) x then [x] else [] | none => [])
theorem refP_next (a b : List Th) (k : Nat) (h : k < a.length) : refP a b (k + 1) = refP a b k ++ (if cntL b a[k] ≤ cntL (a.take k) a[k] then [a[k]] else []) := by
  show refP a b k ++ _ = _
  rw [List.getElem?_eq_getElem h]
theorem refP_go (a b : List Th) : ∀ k, k ≤ a.length → refP a b k ++ minusF (a.drop k) (fun y => cntL b y - cntL (a.take k) y) = minusL a b
  | 0, _ => by simp [refP, minusL, cntL_nil]
  | k + 1, h => by
    rw [← refP_go a b k (by omega), refP_next a b k (by omega), List.append_assoc]
    congr 1
    rw [List.drop_eq_getElem_cons (show k < a.length by omega)]
    have hk : k < a.length := by omega
    have e : (fun y => cntL b y - cntL (a.take (k + 1)) y) = fun y => if y = a[k] then (cntL b a[k] - cntL (a.take k) a[k]) - 1 else cntL b y - cntL (a.take k) y := by
      funext y
      rw [cntL_take a k hk]
      by_cases hy : y = a[k]
      · subst hy; simp only [if_true]; omega
      · rw [if_neg hy, if_neg (fun e => hy e.symm), Nat.add_zero]
    have E : minusF (a[k] :: a.drop (k + 1)) (fun y => cntL b y - cntL (a.take k) y) = ite (0 < cntL b a[k] - cntL (a.take k) a[k]) (minusF (a.drop (k + 1)) fun y => if y = a[k] then cntL b a[k] - cntL (a.take k) a[k] - 1 else cntL b y - cntL (a.take k) y) (a[k] :: minusF (a.drop (k + 1)) fun y => cntL b y - cntL (a.take k) y) := by
      conv => lhs; unfold minusF
    rw [E, e]
    by_cases hc : cntL b a[k] ≤ cntL (a.take k) a[k]
    · have e2 : (fun y => if y = a[k] then (cntL b a[k] - cntL (a.take k) a[k]) - 1 else cntL b y - cntL (a.take k) y) = fun y => cntL b y - cntL (a.take k) y := by
        funext y
        by_cases hy : y = a[k]
        · subst hy; simp only [if_true]; omega
        · rw [if_neg hy]
      rw [if_pos hc, if_neg (by omega), e2]
      rfl
    · rw [if_neg hc, List.nil_append, if_pos (by omega)]
theorem refP_done (a b : List Th) : refP a b a.length = minusL a b := by
  have h := refP_go a b a.length (Nat.le_refl _)
  rw [List.drop_length] at h
  simpa [minusF] using h
end Go.Proofs.Ythpfiieaanioeaa

namespace Go.Proofs.Ythpfiieaanioeaa
open Go.RowKit

section
variable {P : Program} {w : World} {ops : Array Oper} {rest : List Oper} {o : Oper} {a : Act} {Q : Exit → Act → World → Prop} {t : TypeId}
theorem wpList_build1 (hg : o.guard = none) (i : Nat) (x : Operand) (hop : o.op = .build t #[(i, x)]) {v : Value} (hx : a.eval x = v) {cs : List Value} (hb : P.built t [(i, v)] = some cs.toArray)
    (h : wpList P ops Q rest (a.put o.dst (.agg cs.toArray)) w) : wpList P ops Q (o :: rest) a w := by
  refine wpList_plain hg fun K hK => ?_
  unfold Oper.wp execOp
  have hr := run_build (P := P) w t #[(i, v)] cs.toArray (by simpa using hb)
  simp only [hop, Sem.run_bind, List.map_toArray, List.map_cons, List.map_nil, hx, hr, Result.andThen_ok]
  exact hK _ _ h
/-- a whole block, read, guarded -/
theorem wpList_loadAll_g {d : TypeDesc} {n : Nat} (E : Rw P t d n) (hg : Region.wanted o (yielded ops a.tmps) = true) (x : Operand) (hop : o.op = .load t x) {g : Nat} {t' : TypeId} {cs : List Value} (hx : a.eval x = .pointer (some ⟨g, 0, none⟩)) (hb : Blk w g t' cs) (hn : cs.length = n)
    (h : wpList P ops Q rest (a.put o.dst (.agg cs.toArray)) w) : wpList P ops Q (o :: rest) a w := by
  refine wpList_step fun K hK => ?_
  rw [if_pos hg]
  have hr := run_load_rw E hb (off := 0) (by omega)
  rw [List.drop_zero, List.take_of_length_le (by omega)] at hr
  unfold Oper.wp
  simp only [execOp, hop, hx, Sem.run_bind, hr, Result.andThen_ok, Sem.run_pure]
  exact hK _ _ h
/-- a new variable of many cells, in a region whose order is open -/
theorem step_alloc {K : Act → World → Prop} {C : Prop} {zs : List Value} (E : Ty P t zs) (hgd : o.guard = none) (hop : o.op = .alloc t)
    (h : ∀ w', Blk w' w.heap.size t zs → Below w.heap.size w w' → K (a.put o.dst (.pointer (some ⟨w.heap.size, 0, none⟩))) w') :
    if Region.wanted o (yielded ops a.tmps) = true then Oper.wp P o a w K Q else C := by
  have hw : Region.wanted o (yielded ops a.tmps) = true := by simp [Region.wanted, hgd]
  rw [if_pos hw]
  unfold Oper.wp
  simp only [execOp, hop, Sem.run_bind, run_alloc_ty E, Result.andThen_ok, Sem.run_pure]
  exact h _ (Blk.new w t zs) ((Below.refl _ _).alloc (Nat.le_refl _) _)
/-- many cells, read, as what they are known to be -/
theorem wpList_loadv {d : TypeDesc} {n : Nat} (E : Rw P t d n) (hg : o.guard = none) (x : Operand) (hop : o.op = .load t x) {g off : Nat} {t' : TypeId} {cs vs : List Value} (hx : a.eval x = .pointer (some ⟨g, off, none⟩)) (hb : Blk w g t' cs) (hfit : off + n ≤ cs.length) (hv : (cs.drop off).take n = vs)
    (h : wpList P ops Q rest (a.put o.dst (.agg vs.toArray)) w) : wpList P ops Q (o :: rest) a w := by
  subst hv
  exact wpList_load E hg x hop hx hb hfit h
end
end Go.Proofs.Ythpfiieaanioeaa

namespace Go.Proofs.Ythpfiieaanioeaa
theorem el8 : El Try.prog 22 5 (.int .u8 0) 1 := ⟨Try.underlying22, by kernel_rfl, rfl⟩
theorem el32 : El Try.prog 107 97 (.int .u32 0) 4 := ⟨Try.underlying107, by kernel_rfl, rfl⟩
theorem elS : El Try.prog 88 22 (.slice none 0 0) 24 := ⟨Try.underlying88, by kernel_rfl, rfl⟩
end Go.Proofs.Ythpfiieaanioeaa

namespace Go.Proofs.Ythpfiieaanioeaa
open Go.RowKit

def okT (x : Th) : Prop := (Lit.int .i64 x.1).wf = true ∧ x.2.length ≤ maxLen
def kvT (x : Th) : Value := .agg #[.int .i64 x.1, .string ⟨x.2.toArray⟩]
theorem keyT : KeyT Try.prog 61 kvT okT := by
  refine ⟨Maps.Keyed.of_law (deep_law_laid (m := 5) (by kernel_rfl) (by decide) (of_decide_eq_true (by kernel_rfl)) (by kernel_rfl) (by kernel_rfl)), fun x hx => ?_, fun x y h => ?_⟩
  · obtain ⟨h1, h2⟩ := hx
    have e1 : (Try.prog).keyType 61 = true := by kernel_rfl
    have e2 : (Try.prog).cellsOf 61 = 2 := by kernel_rfl
    have e5 : decide ((Try.prog).types.size = 0) = false := by kernel_rfl
    have e3 : ∃ m, (Try.prog).types.size = m + 1 := ⟨(Try.prog).types.size - 1, by have := of_decide_eq_false e5; omega⟩
    have e4 : (Try.prog).cellsOf 3 = 1 := by kernel_rfl
    have e6 : (Try.prog).cellsOf 9 = 1 := by kernel_rfl
    have e7 : (⟨x.2.toArray⟩ : ByteArray).size ≤ maxLen := h2
    obtain ⟨m, hm⟩ := e3
    refine ⟨.string (keyBytes [.int .i64 x.1, .string x.2]), ?_⟩
    unfold keyOf kvT
    simp only [Try.underlying61]
    rw [if_pos (by simp [e1, Value.formed, Try.underlying61, e2]), hm]
    unfold Program.keyLits
    simp only [Try.underlying61, Value.cells]
    rw [if_pos ⟨by rw [e2]; rfl, by simp⟩]
    simp [e4, e6, Program.keyLits, Try.underlying3, Try.underlying9, h1, e7]
  · simp only [kvT, Value.agg.injEq, Array.mk.injEq, List.cons.injEq, Value.int.injEq, Value.string.injEq, ByteArray.mk.injEq, and_true, true_and] at h
    exact Prod.ext h.1 (by simpa using h.2)
def zeroTh : List Value := [.int .i64 0, .string .empty]
theorem tyTh : Ty Try.prog 61 zeroTh := ⟨by kernel_rfl⟩
theorem rwTh : Rw Try.prog 61 (match (Try.prog).underlying 61 with | some d => d | none => .bool) 2 := ⟨by kernel_rfl, by kernel_rfl, by kernel_rfl⟩
theorem rwIt : Rw Try.prog 30 (match (Try.prog).underlying 30 with | some d => d | none => .bool) 2 := ⟨by kernel_rfl, by kernel_rfl, by kernel_rfl⟩
def zeroIt : List Value := [.int .i64 0, .slice none 0 0]
theorem tyIt : Ty Try.prog 30 zeroIt := ⟨by kernel_rfl⟩
set_option maxRecDepth 100000 in
set_option maxHeartbeats 1000000 in
theorem thing_any (z : Int) (A : Option Addr) (n c : Nat) (l : List UInt8) (w : World) (ha : Bs w w.heap.size A n c l) :
    Calls Try.prog 32 #[.agg #[.int .i64 z, .slice A n c]] w fun e w' => e = .returned (kvT (z, l)) ∧ Below w.heap.size w w' := by
  have HA : Kp _ := ⟨ha⟩
  have HZ : Kp (zeroTh.length = 2) := ⟨rfl⟩
  clear ha
  go_enter Try.func32, Try.ntmps32
  go_wp2_with (with_reducible refine wpList_box (o := ⟨some 1, _, _, _, _, _⟩) (cs := [.int .i64 z, .slice A n c]) rfl (.tmp 0) rfl rfl ?_)
  intro w1 hk1 hb1 hs1
  have HK1 : Kp _ := ⟨hk1⟩
  clear hk1 hs1
  go_wp2_with (with_reducible refine wpList_alloc (o := ⟨some 2, _, _, _, _, _⟩) tyTh rfl rfl ?_)
  intro w2 hk2 hb2 hs2
  have HK2 : Kp _ := ⟨HK1.out.below hb2 HK1.out.lt⟩
  have hB2 : Below w.heap.size w w2 := hb1.trans (hb2.mono hb1.size)
  have HT2 : Kp _ := ⟨hk2⟩
  have HLt : Kp (w.heap.size ≤ w1.heap.size) := ⟨hb1.size⟩
  have c0 : w2.cell? ⟨w.heap.size, 0, none⟩ = some (.int .i64 z) := HK2.out.cell? 0
  have c1 : w2.cell? ⟨w.heap.size, 1, none⟩ = some (.slice A n c) := HK2.out.cell? 1
  have e1 := (HA.out.below hB2).text Try.underlying22 Try.underlying5 Try.underlying9
  have HV : Kp (([.int .i64 z, .string ⟨l.toArray⟩] : List Value).length = 2) := ⟨rfl⟩
  have HO : Kp (∀ u ∈ ([.int .i64 z, .string ⟨l.toArray⟩] : List Value), u.oneCell' = true) := ⟨by intro u hu; simp at hu; rcases hu with rfl | rfl <;> rfl⟩
  clear hk2 hb1 hb2 hs2 HK1
  generalize hg1 : w1.heap.size = g1 at *
  clear hg1
  go_wp2_with (with_reducible refine wpList_storeAll (o := ⟨none, _, _, _, _, _⟩) (vs := [.int .i64 z, .string ⟨l.toArray⟩]) rwTh rfl (.tmp 2) (.tmp 8) rfl rfl HT2.out HZ.out HV.out HO.out rfl ?_)
  intro w3 hk3 ho3
  have hB3 : Below w.heap.size w w3 := hB2.trans (ho3.below HLt.out)
  have HK3 : Kp _ := ⟨hk3⟩
  clear hk3 ho3 c0 c1 e1
  go_wp2
  exact ret_arr rfl rwTh rfl HK3.out HV.out rfl ⟨rfl, hB3⟩
end Go.Proofs.Ythpfiieaanioeaa

namespace Go.Proofs.Ythpfiieaanioeaa

theorem snoc_ind {α : Type} {p : List α → Prop} (h0 : p []) (hs : ∀ l b, p l → p (l ++ [b])) (l : List α) : p l := by
  have h : ∀ m : List α, p m.reverse := fun m => by
    induction m with
    | nil => exact h0
    | cons b m ih => rw [List.reverse_cons]; exact hs _ _ ih
  simpa using h l.reverse

/-- n's lowest k bytes, the greatest first -/
def putN (n : Nat) : Nat → List UInt8
  | 0 => []
  | k + 1 => putN (n / 256) k ++ [UInt8.ofNat n]
/-- the number of bytes -/
def getN (l : List UInt8) : Nat := l.foldl (fun a b => a * 256 + b.toNat) 0

theorem putN_length (n k : Nat) : (putN n k).length = k := by
  induction k generalizing n with
  | zero => rfl
  | succ k ih => simp [putN, ih]
theorem pow256 (k : Nat) : 256 ^ (k + 1) = 256 * 256 ^ k := by rw [Nat.pow_succ, Nat.mul_comm]
/-- the first byte ahead of the others -/
theorem putN_front (n k : Nat) : putN n (k + 1) = UInt8.ofNat (n / 256 ^ k) :: putN n k := by
  induction k generalizing n with
  | zero => simp [putN]
  | succ k ih =>
    rw [putN, ih (n / 256)]
    rw [show putN n (k + 1) = putN (n / 256) k ++ [UInt8.ofNat n] from rfl]
    rw [Nat.div_div_eq_div_mul, ← pow256]
    rfl
theorem getN_append (l m : List UInt8) : getN (l ++ m) = getN l * 256 ^ m.length + getN m := by
  unfold getN
  rw [List.foldl_append]
  have gen : ∀ (m : List UInt8) (a : Nat), m.foldl (fun a b => a * 256 + b.toNat) a = a * 256 ^ m.length + m.foldl (fun a b => a * 256 + b.toNat) 0 := by
    intro m
    induction m with
    | nil => intro a; simp
    | cons x m ih =>
      intro a
      simp only [List.foldl_cons, List.length_cons]
      rw [ih (a * 256 + x.toNat), ih (0 * 256 + x.toNat), Nat.pow_succ, Nat.add_mul, Nat.zero_mul, Nat.zero_add, Nat.mul_assoc, Nat.mul_comm 256 (256 ^ m.length)]
      omega
  exact gen m _
theorem getN_snoc (l : List UInt8) (b : UInt8) : getN (l ++ [b]) = getN l * 256 + b.toNat := by
  rw [getN_append]; simp [getN]
theorem getN_lt (l : List UInt8) : getN l < 256 ^ l.length := by
  refine snoc_ind (p := fun l => getN l < 256 ^ l.length) (by simp [getN]) (fun l b ih => ?_) l
  · rw [getN_snoc, List.length_append, List.length_singleton, pow256]
    have := b.toNat_lt
    omega
theorem ofNat_toNat (n : Nat) : (UInt8.ofNat n).toNat = n % 256 := rfl
theorem getN_putN (n k : Nat) : getN (putN n k) = n % 256 ^ k := by
  induction k generalizing n with
  | zero => simp [putN, getN, Nat.mod_one]
  | succ k ih =>
    rw [putN, getN_snoc, ih, ofNat_toNat, pow256, Nat.mod_mul]
    omega
theorem putN_getN (l : List UInt8) : putN (getN l) l.length = l := by
  refine snoc_ind (p := fun l => putN (getN l) l.length = l) rfl (fun l b ih => ?_) l
  · rw [List.length_append, List.length_singleton, putN, getN_snoc]
    have hb := b.toNat_lt
    rw [show (getN l * 256 + b.toNat) / 256 = getN l by omega, ih]
    congr 1
    have : (UInt8.ofNat (getN l * 256 + b.toNat)) = b := by
      apply UInt8.toNat_inj.1
      rw [ofNat_toNat]; omega
    rw [this]
/-- noughts ahead change nothing -/
theorem getN_zeros (k : Nat) (l : List UInt8) : getN (List.replicate k 0 ++ l) = getN l := by
  rw [getN_append]
  have : getN (List.replicate k 0) = 0 := by
    induction k with
    | zero => rfl
    | succ k ih => rw [List.replicate_succ', getN_snoc, ih]; rfl
  rw [this]; omega
/-- modulo 2^64 the last eight bytes count alone -/
theorem getN_last (l : List UInt8) : getN l % 18446744073709551616 = getN (l.drop (l.length - 8)) := by
  have h := getN_append (l.take (l.length - 8)) (l.drop (l.length - 8))
  rw [List.take_append_drop] at h
  have hlt := getN_lt (l.drop (l.length - 8))
  have hd : (l.drop (l.length - 8)).length ≤ 8 := by simp; omega
  by_cases h8 : 8 ≤ l.length
  · have hd8 : (l.drop (l.length - 8)).length = 8 := by simp; omega
    rw [hd8] at h hlt
    have e : (256 : Nat) ^ 8 = 18446744073709551616 := by decide
    rw [e] at h hlt
    rw [h]; omega
  · have e0 : l.length - 8 = 0 := by omega
    rw [e0]; simp only [List.drop_zero]
    have h1 := getN_lt l
    have h2 : (256 : Nat) ^ l.length ≤ 256 ^ 8 := Nat.pow_le_pow_right (by decide) (by omega)
    have e : (256 : Nat) ^ 8 = 18446744073709551616 := by decide
    rw [e] at h2
    omega
theorem getN_take_succ (l : List UInt8) (k : Nat) (h : k < l.length) : getN (l.take (k + 1)) = getN (l.take k) * 256 + l[k].toNat := by
  rw [List.take_succ_eq_append_getElem h, getN_snoc]
theorem wrap_u64_nat (n : Nat) : IntKind.u64.wrap (n : Int) = ((n % 18446744073709551616 : Nat) : Int) := by rw [IntKind.wrap_u64]; omega
/-- one round of the program's Get -/
theorem get_step (g b : Nat) (hb : b < 256) (hg : g * 256 + b < 18446744073709551616) :
    bits .or .u64 (IntKind.u64.wrap ((g : Int) * 256)) (IntKind.u64.wrap (b : Int)) = ((g * 256 + b : Nat) : Int) := by
  have h1 : g * 256 < 18446744073709551616 := Nat.lt_of_le_of_lt (Nat.le_add_right _ _) hg
  have h2 : b < 18446744073709551616 := Nat.lt_of_le_of_lt (Nat.le_add_left _ _) hg
  have e3 := u64_or_nat (g * 256) b h1 h2
  have e4 := nat_join 8 (g * 256) b (by omega) (by omega)
  have e1 : IntKind.u64.wrap ((g : Int) * 256) = ((g * 256 : Nat) : Int) := by
    have := wrap_u64_nat (g * 256)
    rw [Nat.mod_eq_of_lt h1] at this
    rw [← this]; rfl
  have e2 : IntKind.u64.wrap (b : Int) = (b : Int) := by rw [wrap_u64_nat, Nat.mod_eq_of_lt h2]
  rw [e1, e2, e3, e4]
/-- one round of the document's Get -/
theorem refget_step (g b : Nat) :
    IntKind.u64.wrap (IntKind.u64.wrap (256 * ((g % 18446744073709551616 : Nat) : Int)) + IntKind.u64.wrap (b : Int)) = (((g * 256 + b) % 18446744073709551616 : Nat) : Int) := by
  simp only [IntKind.wrap_u64]; omega
theorem put_spot {n N k : Nat} (h : k < N) : (cells8 (List.replicate (N - k) 0 ++ putN n k))[N - 1 - k]? = some (.int .u8 0) := by
  rw [cells8_at _ _ (by simp [putN_length]; omega)]
  rw [List.getElem_append_left (by simp; omega)]
  simp
/-- one round of the program's Put -/
theorem put_row {n N k : Nat} (h : k < N) : (cells8 (List.replicate (N - k) 0 ++ putN n k)).set (N - 1 - k) (.int .u8 ((n : Int) / 2 ^ (8 * k) % 256)) = cells8 (List.replicate (N - (k + 1)) 0 ++ putN n (k + 1)) := by
  have e : List.replicate (N - k) (0 : UInt8) = List.replicate (N - (k + 1)) 0 ++ [0] := by
    rw [show N - k = N - (k + 1) + 1 by omega, List.replicate_succ']
  rw [e, putN_front, cells8_append, cells8_append, cells8_append]
  have hl : (cells8 (List.replicate (N - (k + 1)) 0)).length = N - 1 - k := by rw [cells8_length]; simp; omega
  rw [List.append_assoc, List.set_append_right _ _ (by omega), hl, Nat.sub_self]
  have h2 : ((n : Int) / 2 ^ (8 * k) % 256) = (((UInt8.ofNat (n / 256 ^ k)).toNat : Nat) : Int) := by
    rw [ofNat_toNat, show (256 : Nat) = 2 ^ 8 from rfl, ← Nat.pow_mul]
    simp
  rw [h2]
  simp [cells8]
theorem tdiv256 (q : Nat) (h : q < 18446744073709551616) : IntKind.u64.wrap ((q : Int) / 256) = ((q / 256 : Nat) : Int) := by
  have e : ((q : Int) / 256) = ((q / 256 : Nat) : Int) := rfl
  rw [e, wrap_u64_nat, Nat.mod_eq_of_lt (Nat.lt_of_le_of_lt (Nat.div_le_self _ _) h)]
theorem tmod256 (q : Nat) : ((q : Int) % 256) = ((UInt8.ofNat q).toNat : Int) := rfl
/-- the k-th byte of a number -/
theorem putN_at (n N k : Nat) (h : k < N) : (putN n N)[k]'(by rw [putN_length]; exact h) = UInt8.ofNat (n / 256 ^ (N - 1 - k)) := by
  induction N generalizing k with
  | zero => omega
  | succ N ih =>
    simp only [putN_front]
    cases k with
    | zero => simp
    | succ k => simp only [List.getElem_cons_succ]; rw [ih k (by omega)]; congr 3; omega
theorem putN_take (n N k : Nat) (h : k < N) : cells8 ((putN n N).take k) ++ [.int .u8 (((n / 256 ^ (N - 1 - k) : Nat) : Int) % 256)] = cells8 ((putN n N).take (k + 1)) := by
  rw [List.take_succ_eq_append_getElem (by rw [putN_length]; exact h), putN_at n N k h, cells8_append, tmod256]
  rfl
theorem getN_lt8 (l : List UInt8) (h : l.length ≤ 8) : getN l < 18446744073709551616 := by
  have h1 := getN_lt l
  have h2 : (256 : Nat) ^ l.length ≤ 256 ^ 8 := Nat.pow_le_pow_right (by decide) h
  have e : (256 : Nat) ^ 8 = 18446744073709551616 := by decide
  rw [e] at h2
  omega
end Go.Proofs.Ythpfiieaanioeaa
