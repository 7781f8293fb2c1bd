/- Arrays and structs as whole blocks: laws of the walk for alloc, box, load and store of many cells at once; no program is named here. -/
import Derived.Test.YtaedlaeflliibaaLaws
import Derived.Deep.MidRow
import Derived.Laws.CopyRow
import Derived.Laws.CopyOwn
import Derived.Still
namespace Go.Proofs.Ytaedlaeflliibaa
open Go.RowKit

/-- Block g is, as a whole, the cells cs. -/
structure Blk (w : World) (g : Nat) (t : TypeId) (cs : List Value) : Prop where
  heap : w.heap[g]? = some (.cells cs.toArray t (0, 0))
/-- Nothing but block g has turned. -/
structure Only (g : Nat) (w w' : World) : Prop where
  os : w'.os = w.os
  tape : w'.tape = w.tape
  output : w'.output = w.output
  size : w'.heap.size = w.heap.size
  block : ∀ k, k ≠ g → w'.heap[k]? = w.heap[k]?
section
variable {w w' : World} {g : Nat} {t : TypeId} {cs : List Value} {B : Nat}
theorem Blk.lt (h : Blk w g t cs) : g < w.heap.size := (Array.getElem?_eq_some_iff.1 h.heap).1
theorem Blk.new (w : World) (t : TypeId) (cs : List Value) : Blk (w.alloc (.cells cs.toArray t)) w.heap.size t cs := ⟨by show (w.heap.push _)[w.heap.size]? = _; simp⟩
theorem Blk.below (h : Blk w g t cs) (hb : Below B w w') (hg : g < B) : Blk w' g t cs := ⟨(hb.block g hg).trans h.heap⟩
theorem Blk.drew (h : Blk w g t cs) : Blk w.drew g t cs := ⟨h.heap⟩
theorem Blk.drewN (h : Blk w g t cs) (k : Nat) : Blk (w.drewN k) g t cs := ⟨h.heap⟩
theorem Blk.alloc (h : Blk w g t cs) (o : Obj) : Blk (w.alloc o) g t cs := ⟨(Below.heap_alloc w o g h.lt).trans h.heap⟩
theorem Blk.cell? (h : Blk w g t cs) (i : Nat) : w.cell? ⟨g, i, none⟩ = cs[i]? := by
  rw [cell_of_row w g i _ t (0, 0) h.heap]; simp
theorem Blk.cell (h : Blk w g t cs) {i : Nat} (hi : i < cs.length) : w.cell? ⟨g, i, none⟩ = some cs[i] := by
  rw [h.cell? i, List.getElem?_eq_getElem hi]
theorem Blk.frozen (h : Blk w g t cs) (i : Nat) : w.frozen? ⟨g, i, none⟩ = false := by
  simp [World.frozen?, h.heap]
theorem Blk.set (h : Blk w g t cs) (i : Nat) (v : Value) : Blk (w.setCell ⟨g, i, none⟩ v) g t (cs.set i v) := by
  refine ⟨?_⟩
  have hlt := h.lt
  have hv : w.heap[g] = .cells cs.toArray t (0, 0) := (Array.getElem?_eq_some_iff.1 h.heap).2
  unfold World.setCell
  rw [Array.getElem?_eq_getElem (by simpa using hlt), Array.getElem_modify]
  simp [hv]
theorem Blk.other (h : Blk w g t cs) {p : Addr} (hp : g ≠ p.block) (v : Value) : Blk (w.setCell p v) g t cs := ⟨(Below.heap_setCell w p v g hp).trans h.heap⟩
theorem Blk.only {k : Nat} (h : Blk w g t cs) (ho : Only k w w') (hk : g ≠ k) : Blk w' g t cs := ⟨(ho.block g hk).trans h.heap⟩
theorem Only.refl (g : Nat) (w : World) : Only g w w := ⟨rfl, rfl, rfl, rfl, fun _ _ => rfl⟩
theorem Only.trans {w2 : World} (h : Only g w w') (h2 : Only g w' w2) : Only g w w2 :=
  ⟨h2.os.trans h.os, h2.tape.trans h.tape, h2.output.trans h.output, h2.size.trans h.size, fun k hk => (h2.block k hk).trans (h.block k hk)⟩
theorem Only.setCell (w : World) (p : Addr) (v : Value) : Only p.block w (w.setCell p v) :=
  ⟨rfl, rfl, rfl, by simp [World.setCell], fun k hk => Below.heap_setCell _ _ _ _ hk⟩
theorem Only.setRow (w : World) (g : Nat) (cs : Array Value) : Only g w (w.setRow g cs) :=
  ⟨rfl, rfl, rfl, by simp, fun k hk => setRow_other _ _ _ _ hk⟩
theorem Only.drew (h : Only g w w') : Only g w w'.drew := ⟨h.os, h.tape, h.output, h.size, h.block⟩
theorem Only.below (h : Only g w w') (hB : B ≤ g) : Below B w w' := ⟨h.os, h.tape, h.output, by rw [h.size]; exact Nat.le_refl _, fun k hk => h.block k (by omega)⟩
theorem Blk.bytes {l : List UInt8} (h : Blk w g t cs) {o n : Nat} (hB : g < B) (he : (cs.drop o).take n = cells8 l) (hl : l.length = n) (c : Nat) (hc : n ≤ c) (hm : c ≤ maxLen) : Bs w B (some ⟨g, o, none⟩) n c l := by
  refine ⟨hl, hc, hm, (fun h => by cases h), fun h0 => ⟨g, o, rfl, hB, fun j hj => ?_⟩⟩
  rw [h.cell? (o + j)]
  have e := cells8_at l j hj
  rw [← he, List.getElem?_take, if_pos (by omega), List.getElem?_drop] at e
  exact e
end

/-- the type's nought and its size -/
structure Ty (P : Program) (t : TypeId) (zs : List Value) : Prop where
  info : (P.info? t).map (fun i => (i.zero, i.size)) = some (some (.agg zs.toArray), zs.length)
/-- a row or a struct, of so many cells -/
structure Rw (P : Program) (t : TypeId) (d : TypeDesc) (n : Nat) : Prop where
  ty : P.underlying t = some d
  row : d.isRow = true
  size : (P.info? t).map (·.size) = some n

section
variable {P : Program} {w : World} {ops : Array Oper} {rest : List Oper} {o : Oper} {a : Act} {Q : Exit → Act → World → Prop} {t : TypeId}

theorem run_alloc_ty {zs : List Value} (E : Ty P t zs) (w : World) : (Instr.alloc t true (.tuple #[])).run P w = .ok (.pointer (some ⟨w.heap.size, 0, none⟩)) (w.alloc (.cells zs.toArray t)) := by
  obtain ⟨hz, hs⟩ : (∀ w, (zeroValue t).run P w = .ok (.agg zs.toArray) w) ∧ (P.info? t).map (·.size) = some zs.length := by
    have h := E.info
    cases hq : P.info? t with
    | none => simp [hq] at h
    | some i =>
      simp [hq] at h
      exact ⟨fun w => by simp [zeroValue, typeInfo, hq, h.1], by simp [h.2]⟩
  simp [Instr.alloc, Sem.run_bind, hz, newVar, Value.cells]
  rfl
/-- a new variable of many cells -/
theorem wpList_alloc {zs : List Value} (E : Ty P t zs) (hg : o.guard = none) (hop : o.op = .alloc t)
    (h : ∀ w', Blk w' w.heap.size t zs → Below w.heap.size w w' → w'.heap.size = w.heap.size + 1 → wpList P ops Q rest (a.put o.dst (.pointer (some ⟨w.heap.size, 0, none⟩))) w') : wpList P ops Q (o :: rest) a w := by
  refine wpList_plain hg fun K hK => ?_
  unfold Oper.wp
  simp only [execOp, hop, Sem.run_bind, run_alloc_ty E, Result.andThen_ok, Sem.run_pure]
  exact hK _ _ (h _ (Blk.new w t zs) ((Below.refl _ _).alloc (Nat.le_refl _) _) (by simp))
/-- a value of many cells, boxed -/
theorem wpList_box {cs : List Value} (hg : o.guard = none) (x : Operand) (hop : o.op = .box t x) (hx : a.eval x = .agg cs.toArray)
    (h : ∀ w', Blk w' w.heap.size t cs → Below w.heap.size w w' → w'.heap.size = w.heap.size + 1 → wpList P ops Q rest (a.put o.dst (.pointer (some ⟨w.heap.size, 0, none⟩))) w') : wpList P ops Q (o :: rest) a w := by
  refine wpList_plain hg fun K hK => ?_
  unfold Oper.wp
  have hrun : (Instr.box t (.agg cs.toArray)).run P w = .ok (.pointer (some ⟨w.heap.size, 0, none⟩)) (w.alloc (.cells cs.toArray t)) := by
    simp [Instr.box, newVar, Value.cells]
    rfl
  simp only [execOp, hop, hx, Sem.run_bind, hrun, Result.andThen_ok, Sem.run_pure]
  exact hK _ _ (h _ (Blk.new w t cs) ((Below.refl _ _).alloc (Nat.le_refl _) _) (by simp))
/-- many cells, read -/
theorem run_load_rw {d : TypeDesc} {n : Nat} (E : Rw P t d n) {g off : Nat} {t' : TypeId} {cs : List Value} (hb : Blk w g t' cs) (hfit : off + n ≤ cs.length) :
    (Instr.loadAt t (.pointer (some ⟨g, off, none⟩))).run P w = .ok (.agg ((cs.drop off).take n).toArray) w :=
  run_loadAt_mid w g off t ((cs.drop off).take n) d (fun j v hv => by
    rw [hb.cell? (off + j)]
    have hj : j < n := by
      have := (List.getElem?_eq_some_iff.1 hv).1
      simp at this; omega
    rw [List.getElem?_take, if_pos hj, List.getElem?_drop] at hv
    exact hv) E.ty E.row (by rw [E.size]; congr 1; simp; omega)
theorem wpList_load {d : TypeDesc} {n : Nat} (E : Rw P t d n) (hg : o.guard = none) (x : Operand) (hop : o.op = .load t x) {g off : Nat} {t' : TypeId} {cs : List Value} (hx : a.eval x = .pointer (some ⟨g, off, none⟩)) (hb : Blk w g t' cs) (hfit : off + n ≤ cs.length)
    (h : wpList P ops Q rest (a.put o.dst (.agg ((cs.drop off).take n).toArray)) w) : wpList P ops Q (o :: rest) a w := by
  refine wpList_plain hg fun K hK => ?_
  unfold Oper.wp
  simp only [execOp, hop, hx, Sem.run_bind, run_load_rw E hb hfit, Result.andThen_ok, Sem.run_pure]
  exact hK _ _ h
/-- a whole block, read -/
theorem wpList_loadAll {d : TypeDesc} {n : Nat} (E : Rw P t d n) (hg : o.guard = none) (x : Operand) (hop : o.op = .load t x) {g : Nat} {t' : TypeId} {cs : List Value} (hx : a.eval x = .pointer (some ⟨g, 0, none⟩)) (hb : Blk w g t' cs) (hn : cs.length = n)
    (h : wpList P ops Q rest (a.put o.dst (.agg cs.toArray)) w) : wpList P ops Q (o :: rest) a w := by
  refine wpList_load E hg x hop hx hb (by omega) ?_
  rw [List.drop_zero, List.take_of_length_le (by omega)]
  exact h
/-- many cells, written -/
theorem run_store_rw {d : TypeDesc} {n : Nat} (E : Rw P t d n) {g off : Nat} {t' : TypeId} {cs vs : List Value} (hb : Blk w g t' cs) (hn : vs.length = n) (hfit : off + n ≤ cs.length) (h1 : ∀ v ∈ vs, v.oneCell' = true) :
    (Instr.storeAt t (.pointer (some ⟨g, off, none⟩)) (.agg vs.toArray)).run P w = .ok () (w.setRow g (cs.take off ++ vs ++ cs.drop (off + n)).toArray) := by
  have hst := run_storeCells_at (P := P) g off t' vs 0 cs.toArray w hb.heap (by simp; omega) h1
  have hs := E.size
  cases hq : P.info? t with
  | none => simp [hq] at hs
  | some i =>
    have hi : i.size = vs.length := by simp [hq] at hs; omega
    simp only [Nat.add_zero, hn] at hst
    simp [Instr.storeAt, Instr.sureAddr, Sem.run_bind, storeVar, sizeOf, typeInfo, hq, Value.cells, hi, hst]
theorem wpList_store {d : TypeDesc} {n : Nat} (E : Rw P t d n) (hg : o.guard = none) (x y : Operand) (hop : o.op = .store t x y) {g off : Nat} {t' : TypeId} {cs vs : List Value} (hx : a.eval x = .pointer (some ⟨g, off, none⟩)) (hy : a.eval y = .agg vs.toArray) (hb : Blk w g t' cs) (hn : vs.length = n) (hfit : off + n ≤ cs.length) (h1 : ∀ v ∈ vs, v.oneCell' = true)
    (h : ∀ w', Blk w' g t' (cs.take off ++ vs ++ cs.drop (off + n)) → Only g w w' → wpList P ops Q rest (a.put o.dst undef) w') : wpList P ops Q (o :: rest) a w := by
  refine wpList_plain hg fun K hK => ?_
  unfold Oper.wp
  simp only [execOp, hop, hx, hy, Sem.run_bind, run_store_rw E hb hn hfit h1, Result.andThen_ok, Sem.run_pure]
  exact hK _ _ (h _ ⟨setRow_heap w g _ _ t' _ hb.heap⟩ (Only.setRow w g _))
/-- a whole block, written -/
theorem wpList_storeAll {d : TypeDesc} {n : Nat} (E : Rw P t d n) (hg : o.guard = none) (x y : Operand) (hop : o.op = .store t x y) {g : Nat} {t' : TypeId} {cs vs : List Value} (hx : a.eval x = .pointer (some ⟨g, 0, none⟩)) (hb : Blk w g t' cs) (hl : cs.length = n) (hn : vs.length = n) (h1 : ∀ v ∈ vs, v.oneCell' = true) (hy : a.eval y = .agg vs.toArray)
    (h : ∀ w', Blk w' g t' vs → Only g w w' → wpList P ops Q rest (a.put o.dst undef) w') : wpList P ops Q (o :: rest) a w := by
  refine wpList_store E hg x y hop hx hy hb hn (by omega) h1 fun w' hk ho => h w' ?_ ho
  have e : cs.take 0 ++ vs ++ cs.drop (0 + n) = vs := by rw [Nat.zero_add, List.drop_of_length_le (by omega)]; simp
  rwa [e] at hk
/-- the result of many cells -/
theorem ret_arr {fn : Func} {R : Ending → World → Prop} {p : Tmp} {d : TypeDesc} {n : Nat} (hr : fn.results = #[.cell p t]) (E : Rw P t d n) {g : Nat} {t' : TypeId} {cs : List Value} (hx : a.tmps.getD p undef = .pointer (some ⟨g, 0, none⟩)) (hb : Blk w g t' cs) (hn : cs.length = n) (hd : a.defers = [])
    (h : R (.returned (.agg cs.toArray)) w) : bodyPost P fn R .ret a w := by
  have hl := run_load_rw (w := w) E hb (off := 0) (by omega)
  simp only [Instr.loadAt, Instr.sureAddr, Sem.run_bind, Sem.run_pure, Result.andThen_ok] at hl
  have e : (cs.drop 0).take n = cs := by rw [List.drop_zero, List.take_of_length_le (by omega)]
  rw [e] at hl
  have hx' : a.tmps[p]?.getD undef = .pointer (some ⟨g, 0, none⟩) := by simpa using hx
  exact bodyPost_ret (v := .agg cs.toArray) (by simp only [results, hr]; simp [hx', asAddr, hl]) hd h
/-- bytes, copied into a piece of a block -/
theorem wpList_copyBlk {tS e : TypeId} {z : Value} {bytes : Nat} (E : El P tS e z bytes) (hgd : o.guard = none) (d s : Operand)
    (ho : o.op = .call { callee := .builtin .copy, args := #[d, s], argTypes := #[tS, tS] })
    {g off dl dc : Nat} {t' : TypeId} {cs : List Value} (hd : a.eval d = .slice (some ⟨g, off, none⟩) dl dc) (hk : Blk w g t' cs) (hfit : off + dl ≤ cs.length)
    {L : Nat} {A : Option Addr} {m c : Nat} {l : List UInt8} (hs : a.eval s = .slice A m c) (hb : Bs w L A m c l)
    (h : ∀ w', Blk w' g t' (cs.take off ++ (cells8 (l.take dl) ++ cs.drop (off + min m dl))) → Only g w w' → wpList P ops Q rest (a.put o.dst (goInt (min m dl : Nat))) w') :
    wpList P ops Q (o :: rest) a w := by
  have hlm := hb.len
  obtain ⟨i, hi, hz0, hz1, hz2⟩ := info_parts E.info
  have hsz : (P.info? e).map (·.size) = some 1 := by rw [hi]; simp [hz1]
  by_cases h0 : min m dl = 0
  · refine wpList_copy_nothing hgd d s tS tS ho e E.ty hsz _ _ _ _ _ _ hd hs h0 ?_
    have e1 : cs.take off ++ (cells8 (l.take dl) ++ cs.drop (off + min m dl)) = cs := by
      have e2 : l.take dl = [] := by
        rcases Nat.eq_zero_or_pos m with h1 | h1
        · have : l = [] := List.eq_nil_of_length_eq_zero (by omega)
          rw [this]; simp
        · have : dl = 0 := by omega
          rw [this]; simp
      rw [e2, h0]
      simp [cells8]
    have := h w (by rw [e1]; exact hk) (Only.refl _ _)
    rwa [h0] at this
  · obtain ⟨b, o', rfl, _, _⟩ := hb.cells (by omega)
    have hcl : (cells8 (l.take dl)).length = min m dl := by rw [cells8_length]; simp; omega
    have hns := hb.news _ rfl
    refine wpList_copy_own hgd d s tS tS ho e E.ty hsz g off dl dc _ m c hd hs cs.toArray t' hk.heap (cells8 (l.take dl)) hcl (fun j v hj => hns j v ?_) (by rw [hcl]; simp; omega) (cells8_one _) ?_
    · obtain ⟨hj', rfl⟩ := cells8_some hj
      rw [cells8_at l j (by simp at hj'; omega)]
      simp
    · rw [hcl]
      exact h _ ⟨setRow_heap w g _ _ t' _ hk.heap⟩ (Only.setRow w g _)
/-- many cells, read in a region whose order is open -/
theorem wpStill_load {Q : Act → Prop} {d : TypeDesc} {n : Nat} (E : Rw P t d n) (hw : Region.wanted o (yielded ops a.tmps) = true) (x : Operand) (hop : o.op = .load t x) {g off : Nat} {t' : TypeId} {cs vs : List Value} (hx : a.eval x = .pointer (some ⟨g, off, none⟩)) (hb : Blk w g t' cs) (hfit : off + n ≤ cs.length) (hvs : (cs.drop off).take n = vs)
    (h : wpStill P ops w Q rest (a.put o.dst (.agg vs.toArray))) : wpStill P ops w Q (o :: rest) a := by
  subst hvs
  refine wpStill_step fun K hK => ?_
  rw [if_pos hw]
  unfold Oper.still
  simp only [execOp, hop, hx, Sem.run_bind, run_load_rw E hb hfit, Result.andThen_ok, Sem.run_pure]
  exact ⟨rfl, hK _ h⟩
/-- many cells, written in a region whose order is open -/
theorem step_store {K : Act → World → Prop} {C : Prop} {d : TypeDesc} {n : Nat} (E : Rw P t d n) (hgd : o.guard = none) (x y : Operand) (hop : o.op = .store t x y) {g off : Nat} {t' : TypeId} {cs vs : List Value} (hx : a.eval x = .pointer (some ⟨g, off, none⟩)) (hy : a.eval y = .agg vs.toArray) (hb : Blk w g t' cs) (hn : vs.length = n) (hfit : off + n ≤ cs.length) (h1 : ∀ v ∈ vs, v.oneCell' = true)
    (h : ∀ w', Blk w' g t' (cs.take off ++ vs ++ cs.drop (off + n)) → Only g w w' → K (a.put o.dst undef) w') :
    if Region.wanted o (yielded ops a.tmps) = true then Oper.wp P o a w K Q else C := by
  have hw : Region.wanted o (yielded ops a.tmps) = true := by simp [Region.wanted, hgd]
  rw [if_pos hw]
  unfold Oper.wp
  simp only [execOp, hop, hx, hy, Sem.run_bind, run_store_rw E hb hn hfit h1, Result.andThen_ok, Sem.run_pure]
  exact h _ ⟨setRow_heap w g _ _ t' _ hb.heap⟩ (Only.setRow w g _)
theorem Blk.range {g off n : Nat} {t' : TypeId} {cs vs : List Value} (hb : Blk w g t' cs) (hvs : (cs.drop off).take n = vs) : w.rangeAt g off vs := fun j v hv => by
  subst hvs
  rw [hb.cell? (off + j)]
  have hj : j < n := by
    have := (List.getElem?_eq_some_iff.1 hv).1
    simp at this; omega
  rw [List.getElem?_take, if_pos hj, List.getElem?_drop] at hv
  exact hv
theorem range_below {g off B : Nat} {vs : List Value} {w' : World} (h : w.rangeAt g off vs) (hb : Below B w w') (hg : g < B) : w'.rangeAt g off vs := fun j v hv => (hb.cell (p := ⟨g, off + j, none⟩) hg).trans (h j v hv)
theorem step_load {K : Act → World → Prop} {C : Prop} {d : TypeDesc} {n : Nat} (E : Rw P t d n) (hgd : o.guard = none) (x : Operand) (hop : o.op = .load t x) {g off : Nat} {t' : TypeId} {cs vs : List Value} (hx : a.eval x = .pointer (some ⟨g, off, none⟩)) (hb : Blk w g t' cs) (hfit : off + n ≤ cs.length) (hvs : (cs.drop off).take n = vs)
    (h : K (a.put o.dst (.agg vs.toArray)) w) : if Region.wanted o (yielded ops a.tmps) = true then Oper.wp P o a w K Q else C := by
  subst hvs
  have hw : Region.wanted o (yielded ops a.tmps) = true := by simp [Region.wanted, hgd]
  rw [if_pos hw]
  unfold Oper.wp
  simp only [execOp, hop, hx, Sem.run_bind, run_load_rw E hb hfit, Result.andThen_ok, Sem.run_pure]
  exact h
end
end Go.Proofs.Ytaedlaeflliibaa
