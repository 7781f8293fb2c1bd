/- 
   
   
   
   
    -/
import Derived.Test.YtcehkafddlfleaaGreatDoorG01
import Derived.Deep.MidRow
import Derived.Laws.CopyRow
import Derived.Laws.CopyOwn
import Derived.Still
import Derived.BigQuiet
import Derived.Deep.QuietTactic
import Derived.StillTailTactics
namespace Go.Proofs.YtcehkafddlfleaaGreatDoor
open Go.RowKit
structure Blk (w : World) (g : Nat) (t : TypeId) (cs : List Value) : Prop where
 heap : w.heap[g]? = some (.cells cs.toArray t (0, 0))
structure Only (g : Nat) (w w' : World) : Prop where
 os : w'.os = w.os
 tape : w'.tape = w.tape
 output : w'.output = w.output
 size : w'.heap.size = w.heap.size
 block : ∀ k, k ≠ g → w'.heap[k]? = w.heap[k]?
section
variable {w w' : World} {g : Nat} {t : TypeId} {cs : List Value} {B : Nat}
theorem Blk.lt (h : Blk w g t cs) : g < w.heap.size := (Array.getElem?_eq_some_iff.1 h.heap).1
theorem Blk.new (w : World) (t : TypeId) (cs : List Value) : Blk (w.alloc (.cells cs.toArray t)) w.heap.size t cs := ⟨by show (w.heap.push _)[w.heap.size]? = _; simp⟩
theorem Blk.below (h : Blk w g t cs) (hb : Below B w w') (hg : g < B) : Blk w' g t cs := ⟨(hb.block g hg).trans h.heap⟩
theorem Blk.drew (h : Blk w g t cs) : Blk w.drew g t cs := ⟨h.heap⟩
theorem Blk.drewN (h : Blk w g t cs) (k : Nat) : Blk (w.drewN k) g t cs := ⟨h.heap⟩
theorem Blk.alloc (h : Blk w g t cs) (o : Obj) : Blk (w.alloc o) g t cs := ⟨(Below.heap_alloc w o g h.lt).trans h.heap⟩
theorem Blk.cell? (h : Blk w g t cs) (i : Nat) : w.cell? ⟨g, i, none⟩ = cs[i]? := by
 rw [cell_of_row w g i _ t (0, 0) h.heap]; simp
theorem Blk.cell (h : Blk w g t cs) {i : Nat} (hi : i < cs.length) : w.cell? ⟨g, i, none⟩ = some cs[i] := by
 rw [h.cell? i, List.getElem?_eq_getElem hi]
theorem Blk.frozen (h : Blk w g t cs) (i : Nat) : w.frozen? ⟨g, i, none⟩ = false := by
 simp [World.frozen?, h.heap]
theorem Blk.set (h : Blk w g t cs) (i : Nat) (v : Value) : Blk (w.setCell ⟨g, i, none⟩ v) g t (cs.set i v) := by
 refine ⟨?_⟩
 have hlt := h.lt
 have hv : w.heap[g] = .cells cs.toArray t (0, 0) := (Array.getElem?_eq_some_iff.1 h.heap).2
 unfold World.setCell
 rw [Array.getElem?_eq_getElem (by simpa using hlt), Array.getElem_modify]
 simp [hv]
theorem Blk.other (h : Blk w g t cs) {p : Addr} (hp : g ≠ p.block) (v : Value) : Blk (w.setCell p v) g t cs := ⟨(Below.heap_setCell w p v g hp).trans h.heap⟩
theorem Blk.only {k : Nat} (h : Blk w g t cs) (ho : Only k w w') (hk : g ≠ k) : Blk w' g t cs := ⟨(ho.block g hk).trans h.heap⟩
theorem Only.refl (g : Nat) (w : World) : Only g w w := ⟨rfl, rfl, rfl, rfl, fun _ _ => rfl⟩
theorem Only.trans {w2 : World} (h : Only g w w') (h2 : Only g w' w2) : Only g w w2 :=
 ⟨h2.os.trans h.os, h2.tape.trans h.tape, h2.output.trans h.output, h2.size.trans h.size, fun k hk => (h2.block k hk).trans (h.block k hk)⟩
theorem Only.setCell (w : World) (p : Addr) (v : Value) : Only p.block w (w.setCell p v) :=
 ⟨rfl, rfl, rfl, by simp [World.setCell], fun k hk => Below.heap_setCell _ _ _ _ hk⟩
theorem Only.setRow (w : World) (g : Nat) (cs : Array Value) : Only g w (w.setRow g cs) :=
 ⟨rfl, rfl, rfl, by simp, fun k hk => setRow_other _ _ _ _ hk⟩
theorem Only.drew (h : Only g w w') : Only g w w'.drew := ⟨h.os, h.tape, h.output, h.size, h.block⟩
theorem Only.below (h : Only g w w') (hB : B ≤ g) : Below B w w' := ⟨h.os, h.tape, h.output, by rw [h.size]; exact Nat.le_refl _, fun k hk => h.block k (by omega)⟩
theorem Blk.bytes {l : List UInt8} (h : Blk w g t cs) {o n : Nat} (hB : g < B) (he : (cs.drop o).take n = cells8 l) (hl : l.length = n) (c : Nat) (hc : n ≤ c) (hm : c ≤ maxLen) : Bs w B (some ⟨g, o, none⟩) n c l := by
 refine ⟨hl, hc, hm, (fun h => by cases h), fun h0 => ⟨g, o, rfl, hB, fun j hj => ?_⟩⟩
 rw [h.cell? (o + j)]
 have e := cells8_at l j hj
 rw [← he, List.getElem?_take, if_pos (by omega), List.getElem?_drop] at e
 exact e
end
structure Ty (P : Program) (t : TypeId) (zs : List Value) : Prop where
 info : (P.info? t).map (fun i => (i.zero, i.size)) = some (some (.agg zs.toArray), zs.length)
structure Rw (P : Program) (t : TypeId) (d : TypeDesc) (n : Nat) : Prop where
 ty : P.underlying t = some d
 row : d.isRow = true
 size : (P.info? t).map (·.size) = some n
section
variable {P : Program} {w : World} {ops : Array Oper} {rest : List Oper} {o : Oper} {a : Act} {Q : Exit → Act → World → Prop} {t : TypeId}
theorem run_alloc_ty {zs : List Value} (E : Ty P t zs) (w : World) : (Instr.alloc t true (.tuple #[])).run P w = .ok (.pointer (some ⟨w.heap.size, 0, none⟩)) (w.alloc (.cells zs.toArray t)) := by
 obtain ⟨hz, hs⟩ : (∀ w, (zeroValue t).run P w = .ok (.agg zs.toArray) w) ∧ (P.info? t).map (·.size) = some zs.length := by
  have h := E.info
  cases hq : P.info? t with
  | none => simp [hq] at h
  | some i =>
   simp [hq] at h
   exact ⟨fun w => by simp [zeroValue, typeInfo, hq, h.1], by simp [h.2]⟩
 simp [Instr.alloc, Sem.run_bind, hz, newVar, Value.cells]
 rfl
theorem wpList_alloc {zs : List Value} (E : Ty P t zs) (hg : o.guard = none) (hop : o.op = .alloc t)
  (h : ∀ w', Blk w' w.heap.size t zs → Below w.heap.size w w' → w'.heap.size = w.heap.size + 1 → wpList P ops Q rest (a.put o.dst (.pointer (some ⟨w.heap.size, 0, none⟩))) w') : wpList P ops Q (o :: rest) a w := by
 refine wpList_plain hg fun K hK => ?_
 unfold Oper.wp
 simp only [execOp, hop, Sem.run_bind, run_alloc_ty E, Result.andThen_ok, Sem.run_pure]
 exact hK _ _ (h _ (Blk.new w t zs) ((Below.refl _ _).alloc (Nat.le_refl _) _) (by simp))
theorem wpList_box {cs : List Value} (hg : o.guard = none) (x : Operand) (hop : o.op = .box t x) (hx : a.eval x = .agg cs.toArray)
  (h : ∀ w', Blk w' w.heap.size t cs → Below w.heap.size w w' → w'.heap.size = w.heap.size + 1 → wpList P ops Q rest (a.put o.dst (.pointer (some ⟨w.heap.size, 0, none⟩))) w') : wpList P ops Q (o :: rest) a w := by
 refine wpList_plain hg fun K hK => ?_
 unfold Oper.wp
 have hrun : (Instr.box t (.agg cs.toArray)).run P w = .ok (.pointer (some ⟨w.heap.size, 0, none⟩)) (w.alloc (.cells cs.toArray t)) := by
  simp [Instr.box, newVar, Value.cells]
  rfl
 simp only [execOp, hop, hx, Sem.run_bind, hrun, Result.andThen_ok, Sem.run_pure]
 exact hK _ _ (h _ (Blk.new w t cs) ((Below.refl _ _).alloc (Nat.le_refl _) _) (by simp))
theorem run_load_rw {d : TypeDesc} {n : Nat} (E : Rw P t d n) {g off : Nat} {t' : TypeId} {cs : List Value} (hb : Blk w g t' cs) (hfit : off + n ≤ cs.length) :
  (Instr.loadAt t (.pointer (some ⟨g, off, none⟩))).run P w = .ok (.agg ((cs.drop off).take n).toArray) w :=
 run_loadAt_mid w g off t ((cs.drop off).take n) d (fun j v hv => by
  rw [hb.cell? (off + j)]
  have hj : j < n := by
   have := (List.getElem?_eq_some_iff.1 hv).1
   simp at this; omega
  rw [List.getElem?_take, if_pos hj, List.getElem?_drop] at hv
  exact hv) E.ty E.row (by rw [E.size]; congr 1; simp; omega)
theorem wpList_load {d : TypeDesc} {n : Nat} (E : Rw P t d n) (hg : o.guard = none) (x : Operand) (hop : o.op = .load t x) {g off : Nat} {t' : TypeId} {cs : List Value} (hx : a.eval x = .pointer (some ⟨g, off, none⟩)) (hb : Blk w g t' cs) (hfit : off + n ≤ cs.length)
  (h : wpList P ops Q rest (a.put o.dst (.agg ((cs.drop off).take n).toArray)) w) : wpList P ops Q (o :: rest) a w := by
 refine wpList_plain hg fun K hK => ?_
 unfold Oper.wp
 simp only [execOp, hop, hx, Sem.run_bind, run_load_rw E hb hfit, Result.andThen_ok, Sem.run_pure]
 exact hK _ _ h
theorem wpList_loadAll {d : TypeDesc} {n : Nat} (E : Rw P t d n) (hg : o.guard = none) (x : Operand) (hop : o.op = .load t x) {g : Nat} {t' : TypeId} {cs : List Value} (hx : a.eval x = .pointer (some ⟨g, 0, none⟩)) (hb : Blk w g t' cs) (hn : cs.length = n)
  (h : wpList P ops Q rest (a.put o.dst (.agg cs.toArray)) w) : wpList P ops Q (o :: rest) a w := by
 refine wpList_load E hg x hop hx hb (by omega) ?_
 rw [List.drop_zero, List.take_of_length_le (by omega)]
 exact h
theorem run_store_rw {d : TypeDesc} {n : Nat} (E : Rw P t d n) {g off : Nat} {t' : TypeId} {cs vs : List Value} (hb : Blk w g t' cs) (hn : vs.length = n) (hfit : off + n ≤ cs.length) (h1 : ∀ v ∈ vs, v.oneCell' = true) :
  (Instr.storeAt t (.pointer (some ⟨g, off, none⟩)) (.agg vs.toArray)).run P w = .ok () (w.setRow g (cs.take off ++ vs ++ cs.drop (off + n)).toArray) := by
 have hst := run_storeCells_at (P := P) g off t' vs 0 cs.toArray w hb.heap (by simp; omega) h1
 have hs := E.size
 cases hq : P.info? t with
 | none => simp [hq] at hs
 | some i =>
  have hi : i.size = vs.length := by simp [hq] at hs; omega
  simp only [Nat.add_zero, hn] at hst
  simp [Instr.storeAt, Instr.sureAddr, Sem.run_bind, storeVar, sizeOf, typeInfo, hq, Value.cells, hi, hst]
theorem wpList_store {d : TypeDesc} {n : Nat} (E : Rw P t d n) (hg : o.guard = none) (x y : Operand) (hop : o.op = .store t x y) {g off : Nat} {t' : TypeId} {cs vs : List Value} (hx : a.eval x = .pointer (some ⟨g, off, none⟩)) (hy : a.eval y = .agg vs.toArray) (hb : Blk w g t' cs) (hn : vs.length = n) (hfit : off + n ≤ cs.length) (h1 : ∀ v ∈ vs, v.oneCell' = true)
  (h : ∀ w', Blk w' g t' (cs.take off ++ vs ++ cs.drop (off + n)) → Only g w w' → wpList P ops Q rest (a.put o.dst undef) w') : wpList P ops Q (o :: rest) a w := by
 refine wpList_plain hg fun K hK => ?_
 unfold Oper.wp
 simp only [execOp, hop, hx, hy, Sem.run_bind, run_store_rw E hb hn hfit h1, Result.andThen_ok, Sem.run_pure]
 exact hK _ _ (h _ ⟨setRow_heap w g _ _ t' _ hb.heap⟩ (Only.setRow w g _))
theorem wpList_storeAll {d : TypeDesc} {n : Nat} (E : Rw P t d n) (hg : o.guard = none) (x y : Operand) (hop : o.op = .store t x y) {g : Nat} {t' : TypeId} {cs vs : List Value} (hx : a.eval x = .pointer (some ⟨g, 0, none⟩)) (hb : Blk w g t' cs) (hl : cs.length = n) (hn : vs.length = n) (h1 : ∀ v ∈ vs, v.oneCell' = true) (hy : a.eval y = .agg vs.toArray)
  (h : ∀ w', Blk w' g t' vs → Only g w w' → wpList P ops Q rest (a.put o.dst undef) w') : wpList P ops Q (o :: rest) a w := by
 refine wpList_store E hg x y hop hx hy hb hn (by omega) h1 fun w' hk ho => h w' ?_ ho
 have e : cs.take 0 ++ vs ++ cs.drop (0 + n) = vs := by rw [Nat.zero_add, List.drop_of_length_le (by omega)]; simp
 rwa [e] at hk
theorem ret_arr {fn : Func} {R : Ending → World → Prop} {p : Tmp} {d : TypeDesc} {n : Nat} (hr : fn.results = #[.cell p t]) (E : Rw P t d n) {g : Nat} {t' : TypeId} {cs : List Value} (hx : a.tmps.getD p undef = .pointer (some ⟨g, 0, none⟩)) (hb : Blk w g t' cs) (hn : cs.length = n) (hd : a.defers = [])
  (h : R (.returned (.agg cs.toArray)) w) : bodyPost P fn R .ret a w := by
 have hl := run_load_rw (w := w) E hb (off := 0) (by omega)
 simp only [Instr.loadAt, Instr.sureAddr, Sem.run_bind, Sem.run_pure, Result.andThen_ok] at hl
 have e : (cs.drop 0).take n = cs := by rw [List.drop_zero, List.take_of_length_le (by omega)]
 rw [e] at hl
 have hx' : a.tmps[p]?.getD undef = .pointer (some ⟨g, 0, none⟩) := by simpa using hx
 exact bodyPost_ret (v := .agg cs.toArray) (by simp only [results, hr]; simp [hx', asAddr, hl]) hd h
theorem wpList_copyBlk {tS e : TypeId} {z : Value} {bytes : Nat} (E : El P tS e z bytes) (hgd : o.guard = none) (d s : Operand)
  (ho : o.op = .call { callee := .builtin .copy, args := #[d, s], argTypes := #[tS, tS] })
  {g off dl dc : Nat} {t' : TypeId} {cs : List Value} (hd : a.eval d = .slice (some ⟨g, off, none⟩) dl dc) (hk : Blk w g t' cs) (hfit : off + dl ≤ cs.length)
  {L : Nat} {A : Option Addr} {m c : Nat} {l : List UInt8} (hs : a.eval s = .slice A m c) (hb : Bs w L A m c l)
  (h : ∀ w', Blk w' g t' (cs.take off ++ (cells8 (l.take dl) ++ cs.drop (off + min m dl))) → Only g w w' → wpList P ops Q rest (a.put o.dst (goInt (min m dl : Nat))) w') :
  wpList P ops Q (o :: rest) a w := by
 have hlm := hb.len
 obtain ⟨i, hi, hz0, hz1, hz2⟩ := info_parts E.info
 have hsz : (P.info? e).map (·.size) = some 1 := by rw [hi]; simp [hz1]
 by_cases h0 : min m dl = 0
 ·refine wpList_copy_nothing hgd d s tS tS ho e E.ty hsz _ _ _ _ _ _ hd hs h0 ?_
  have e1 : cs.take off ++ (cells8 (l.take dl) ++ cs.drop (off + min m dl)) = cs := by
   have e2 : l.take dl = [] := by
    rcases Nat.eq_zero_or_pos m with h1 | h1
    ·have : l = [] := List.eq_nil_of_length_eq_zero (by omega)
     rw [this]; simp
    ·have : dl = 0 := by omega
     rw [this]; simp
   rw [e2, h0]
   simp [cells8]
  have := h w (by rw [e1]; exact hk) (Only.refl _ _)
  rwa [h0] at this
 ·obtain ⟨b, o', rfl, _, _⟩ := hb.cells (by omega)
  have hcl : (cells8 (l.take dl)).length = min m dl := by rw [cells8_length]; simp; omega
  have hns := hb.news _ rfl
  refine wpList_copy_own hgd d s tS tS ho e E.ty hsz g off dl dc _ m c hd hs cs.toArray t' hk.heap (cells8 (l.take dl)) hcl (fun j v hj => hns j v ?_) (by rw [hcl]; simp; omega) (cells8_one _) ?_
  ·obtain ⟨hj', rfl⟩ := cells8_some hj
   rw [cells8_at l j (by simp at hj'; omega)]
   simp
  ·rw [hcl]
   exact h _ ⟨setRow_heap w g _ _ t' _ hk.heap⟩ (Only.setRow w g _)
theorem wpStill_load {Q : Act → Prop} {d : TypeDesc} {n : Nat} (E : Rw P t d n) (hw : Region.wanted o (yielded ops a.tmps) = true) (x : Operand) (hop : o.op = .load t x) {g off : Nat} {t' : TypeId} {cs vs : List Value} (hx : a.eval x = .pointer (some ⟨g, off, none⟩)) (hb : Blk w g t' cs) (hfit : off + n ≤ cs.length) (hvs : (cs.drop off).take n = vs)
  (h : wpStill P ops w Q rest (a.put o.dst (.agg vs.toArray))) : wpStill P ops w Q (o :: rest) a := by
 subst hvs
 refine wpStill_step fun K hK => ?_
 rw [if_pos hw]
 unfold Oper.still
 simp only [execOp, hop, hx, Sem.run_bind, run_load_rw E hb hfit, Result.andThen_ok, Sem.run_pure]
 exact ⟨rfl, hK _ h⟩
theorem step_store {K : Act → World → Prop} {C : Prop} {d : TypeDesc} {n : Nat} (E : Rw P t d n) (hgd : o.guard = none) (x y : Operand) (hop : o.op = .store t x y) {g off : Nat} {t' : TypeId} {cs vs : List Value} (hx : a.eval x = .pointer (some ⟨g, off, none⟩)) (hy : a.eval y = .agg vs.toArray) (hb : Blk w g t' cs) (hn : vs.length = n) (hfit : off + n ≤ cs.length) (h1 : ∀ v ∈ vs, v.oneCell' = true)
  (h : ∀ w', Blk w' g t' (cs.take off ++ vs ++ cs.drop (off + n)) → Only g w w' → K (a.put o.dst undef) w') :
  if Region.wanted o (yielded ops a.tmps) = true then Oper.wp P o a w K Q else C := by
 have hw : Region.wanted o (yielded ops a.tmps) = true := by simp [Region.wanted, hgd]
 rw [if_pos hw]
 unfold Oper.wp
 simp only [execOp, hop, hx, hy, Sem.run_bind, run_store_rw E hb hn hfit h1, Result.andThen_ok, Sem.run_pure]
 exact h _ ⟨setRow_heap w g _ _ t' _ hb.heap⟩ (Only.setRow w g _)
theorem Blk.range {g off n : Nat} {t' : TypeId} {cs vs : List Value} (hb : Blk w g t' cs) (hvs : (cs.drop off).take n = vs) : w.rangeAt g off vs := fun j v hv => by
 subst hvs
 rw [hb.cell? (off + j)]
 have hj : j < n := by
  have := (List.getElem?_eq_some_iff.1 hv).1
  simp at this; omega
 rw [List.getElem?_take, if_pos hj, List.getElem?_drop] at hv
 exact hv
theorem range_below {g off B : Nat} {vs : List Value} {w' : World} (h : w.rangeAt g off vs) (hb : Below B w w') (hg : g < B) : w'.rangeAt g off vs := fun j v hv => (hb.cell (p := ⟨g, off + j, none⟩) hg).trans (h j v hv)
theorem step_load {K : Act → World → Prop} {C : Prop} {d : TypeDesc} {n : Nat} (E : Rw P t d n) (hgd : o.guard = none) (x : Operand) (hop : o.op = .load t x) {g off : Nat} {t' : TypeId} {cs vs : List Value} (hx : a.eval x = .pointer (some ⟨g, off, none⟩)) (hb : Blk w g t' cs) (hfit : off + n ≤ cs.length) (hvs : (cs.drop off).take n = vs)
  (h : K (a.put o.dst (.agg vs.toArray)) w) : if Region.wanted o (yielded ops a.tmps) = true then Oper.wp P o a w K Q else C := by
 subst hvs
 have hw : Region.wanted o (yielded ops a.tmps) = true := by simp [Region.wanted, hgd]
 rw [if_pos hw]
 unfold Oper.wp
 simp only [execOp, hop, hx, Sem.run_bind, run_load_rw E hb hfit, Result.andThen_ok, Sem.run_pure]
 exact h
end
end Go.Proofs.YtcehkafddlfleaaGreatDoor

namespace Go.Proofs.YtcehkafddlfleaaGreatDoor
open Go.RowKit
theorem and31 (n : Nat) (h1 : 1 ≤ n) (h2 : n ≤ 31) : bits .and .u64 (IntKind.u64.wrap (-(n : Int))) 31 = ((32 - n : Nat) : Int) := by
 have e1 : IntKind.u64.wrap (-(n : Int)) = ((18446744073709551616 - n : Nat) : Int) := by
  rw [IntKind.wrap_u64]; omega
 rw [e1]
 have := u64_and_nat (18446744073709551616 - n) 31 (by omega) (by omega)
 rw [show ((31 : Nat) : Int) = (31 : Int) from rfl] at this
 rw [this]
 have e2 : (18446744073709551616 - n) &&& 31 = (18446744073709551616 - n) % 32 := Nat.and_two_pow_sub_one_eq_mod _ 5
 rw [e2]
 congr 1
 omega
theorem turnR_val' (x : UInt32) (n : Nat) : bits .or .u32 ((x.toNat : Int) * 2 ^ (32 - n) % 4294967296) ((x.toNat : Int) / 2 ^ n) = ((turnR x n).toNat : Int) := by
 rw [← turnR_val x n]
 have h1 : (x.toNat : Int) / 2 ^ n = ((x.toNat / 2 ^ n : Nat) : Int) := by simp
 have h2 : (x.toNat : Int) * 2 ^ (32 - n) % 4294967296 = ((x.toNat * 2 ^ (32 - n) % 4294967296 : Nat) : Int) := by simp
 rw [h1, h2]
 have l1 : x.toNat / 2 ^ n < 4294967296 := Nat.lt_of_le_of_lt (Nat.div_le_self _ _) x.toNat_lt
 have l2 : x.toNat * 2 ^ (32 - n) % 4294967296 < 4294967296 := Nat.mod_lt _ (by decide)
 rw [u32_or_nat _ _ l2 l1, u32_or_nat _ _ l1 l2, Nat.or_comm]
set_option maxHeartbeats 400000 in
theorem rot_any (x : UInt32) (n : Nat) (w : World) (h1 : 1 ≤ n) (h2 : n ≤ 31) :
  Calls Tryz.prog 283 #[.int .u32 x.toNat, .int .i64 (-(n : Int))] w fun e w' => e = .returned (.int .u32 (turnR x n).toNat) ∧ w' = w := by
 have hx : (x.toNat : Int) < 4294967296 := by have := x.toNat_lt; omega
 have HT := Lib.hid (turnR_val x n)
 have ha := and31 n h1 h2
 obtain ⟨m, hm⟩ : ∃ m : Nat, m = 32 - n := ⟨_, rfl⟩
 rw [← hm] at ha
 have hm1 : 1 ≤ m := by omega
 have hm2 : m ≤ 31 := by omega
 have HM := Lib.hid hm
 clear hm
 go_enter Tryz.func283, Tryz.ntmps283
 go_wp2
 go_ret
 refine ⟨?_, rfl⟩
 show Ending.returned (.int .u32 _) = _
 rw [HM.out, show 32 - (32 - n) = n by omega, turnR_val' x n]
set_option maxHeartbeats 400000 in
theorem turnp_any (x : UInt32) (n : Nat) (w : World) (h1 : 1 ≤ n) (h2 : n ≤ 31) :
  Calls Tryz.prog 281 #[.int .u32 x.toNat, .int .i64 (n : Int)] w fun e w' => e = .returned (.int .u32 (turnR x n).toNat) ∧ w' = w := by
 go_enter Tryz.func281, Tryz.ntmps281
 go_wp2_with fail
 refine (rot_any x n _ h1 h2).mono ?_
 rintro e w' ⟨rfl, rfl⟩
 go_wp2
 go_ret
 exact ⟨rfl, rfl⟩
theorem xor3u (p q r : UInt32) (z : Int) (hz : z = (r.toNat : Int)) : bits .xor .u32 (bits .xor .u32 (p.toNat : Int) (q.toNat : Int)) z = ((p ^^^ q ^^^ r).toNat : Int) := by
 rw [hz, u32_xor', u32_xor']
theorem ch_bits (x y z : UInt32) : (x &&& y) ^^^ ((4294967295 ^^^ x) &&& z) = chR x y z := by
 unfold chR
 apply UInt32.eq_of_toBitVec_eq
 apply BitVec.eq_of_getLsbD_eq
 intro i hi
 simp only [UInt32.toBitVec_xor, UInt32.toBitVec_and, UInt32.toBitVec_or, BitVec.getLsbD_xor, BitVec.getLsbD_and, BitVec.getLsbD_or]
 generalize x.toBitVec.getLsbD i = a
 generalize y.toBitVec.getLsbD i = b
 generalize z.toBitVec.getLsbD i = c
 have : (4294967295 : UInt32).toBitVec.getLsbD i = true := by
  show (BitVec.allOnes 32).getLsbD i = true
  rw [BitVec.getLsbD_allOnes]; simpa using hi
 rw [this]
 cases a <;> cases b <;> cases c <;> rfl
theorem mj_bits (x y z : UInt32) : (x &&& y) ^^^ (x &&& z) ^^^ (y &&& z) = mjR x y z := by
 unfold mjR
 apply UInt32.eq_of_toBitVec_eq
 apply BitVec.eq_of_getLsbD_eq
 intro i hi
 simp only [UInt32.toBitVec_xor, UInt32.toBitVec_and, UInt32.toBitVec_or, BitVec.getLsbD_xor, BitVec.getLsbD_and, BitVec.getLsbD_or]
 generalize x.toBitVec.getLsbD i = a
 generalize y.toBitVec.getLsbD i = b
 generalize z.toBitVec.getLsbD i = c
 cases a <;> cases b <;> cases c <;> rfl
theorem ch_val (x y z : UInt32) : bits .xor .u32 (bits .and .u32 (x.toNat : Int) (y.toNat : Int)) (bits .and .u32 (bits .xor .u32 IntKind.u32.max (x.toNat : Int)) (z.toNat : Int)) = ((chR x y z).toNat : Int) := by
 have e0 : IntKind.u32.max = (((4294967295 : UInt32).toNat : Nat) : Int) := rfl
 rw [e0, u32_xor', u32_and', u32_and', u32_xor', ch_bits]
theorem mj_val (x y z : UInt32) : bits .xor .u32 (bits .xor .u32 (bits .and .u32 (x.toNat : Int) (y.toNat : Int)) (bits .and .u32 (x.toNat : Int) (z.toNat : Int))) (bits .and .u32 (y.toNat : Int) (z.toNat : Int)) = ((mjR x y z).toNat : Int) := by
 rw [u32_and', u32_and', u32_and', u32_xor', u32_xor', mj_bits]
section
set_option maxHeartbeats 400000
theorem big1_any (x : UInt32) (w : World) : Calls Tryz.prog 269 #[.int .u32 x.toNat] w fun e w' => e = .returned (.int .u32 (big1 x).toNat) ∧ w' = w := by
 go_enter Tryz.func269, Tryz.ntmps269
 go_wp2_with (go_at_call 281; refine (turnp_any _ _ _ (by decide) (by decide)).mono ?_; rintro e w' ⟨rfl, rfl⟩)
 go_ret
 refine ⟨?_, rfl⟩
 show Ending.returned (.int .u32 _) = _
 rw [xor3u _ _ _ _ rfl]
 rfl
theorem big0_any (x : UInt32) (w : World) : Calls Tryz.prog 271 #[.int .u32 x.toNat] w fun e w' => e = .returned (.int .u32 (big0 x).toNat) ∧ w' = w := by
 go_enter Tryz.func271, Tryz.ntmps271
 go_wp2_with (go_at_call 281; refine (turnp_any _ _ _ (by decide) (by decide)).mono ?_; rintro e w' ⟨rfl, rfl⟩)
 go_ret
 refine ⟨?_, rfl⟩
 show Ending.returned (.int .u32 _) = _
 rw [xor3u _ _ _ _ rfl]
 rfl
theorem sig0_any (x : UInt32) (w : World) : Calls Tryz.prog 280 #[.int .u32 x.toNat] w fun e w' => e = .returned (.int .u32 (sig0 x).toNat) ∧ w' = w := by
 go_enter Tryz.func280, Tryz.ntmps280
 go_wp2_with (go_at_call 281; refine (turnp_any _ _ _ (by decide) (by decide)).mono ?_; rintro e w' ⟨rfl, rfl⟩)
 go_ret
 refine ⟨?_, rfl⟩
 show Ending.returned (.int .u32 _) = _
 rw [xor3u _ _ _ _ (u32_shr3 x)]
 rfl
theorem sig1_any (x : UInt32) (w : World) : Calls Tryz.prog 279 #[.int .u32 x.toNat] w fun e w' => e = .returned (.int .u32 (sig1 x).toNat) ∧ w' = w := by
 go_enter Tryz.func279, Tryz.ntmps279
 go_wp2_with (go_at_call 281; refine (turnp_any _ _ _ (by decide) (by decide)).mono ?_; rintro e w' ⟨rfl, rfl⟩)
 go_ret
 refine ⟨?_, rfl⟩
 show Ending.returned (.int .u32 _) = _
 rw [xor3u _ _ _ _ (u32_shr10 x)]
 rfl
theorem choose_any (x y z : UInt32) (w : World) : Calls Tryz.prog 270 #[.int .u32 x.toNat, .int .u32 y.toNat, .int .u32 z.toNat] w fun e w' => e = .returned (.int .u32 (chR x y z).toNat) ∧ w' = w := by
 go_enter Tryz.func270, Tryz.ntmps270
 go_wp2
 go_ret
 refine ⟨?_, rfl⟩
 show Ending.returned (.int .u32 _) = _
 rw [ch_val]
theorem most_any (x y z : UInt32) (w : World) : Calls Tryz.prog 272 #[.int .u32 x.toNat, .int .u32 y.toNat, .int .u32 z.toNat] w fun e w' => e = .returned (.int .u32 (mjR x y z).toNat) ∧ w' = w := by
 go_enter Tryz.func272, Tryz.ntmps272
 go_wp2
 go_ret
 refine ⟨?_, rfl⟩
 show Ending.returned (.int .u32 _) = _
 rw [mj_val]
end
end Go.Proofs.YtcehkafddlfleaaGreatDoor

namespace Go.Proofs.YtcehkafddlfleaaGreatDoor
open Go.RowKit
def cellsU (l : List Nat) : List Value := l.map fun (x : Nat) => Value.int .u32 (x : Int)
theorem cellsU_some {l : List Nat} {q x : Nat} (h : l[q]? = some x) : (cellsU l)[q]? = some (.int .u32 (x : Int)) := by
 simp [cellsU, h]
def partW (b : List UInt8) (i : Nat) : List Nat := (List.range 64).map fun q => getN ((b.take (min i (4 * q + 4))).drop (4 * q))
theorem partW_at (b : List UInt8) (i q : Nat) (hq : q < 64) : (partW b i)[q]? = some (getN ((b.take (min i (4 * q + 4))).drop (4 * q))) := by
 simp [partW, hq]
theorem partW_next (b : List UInt8) (i : Nat) (hi : i < 64) (hb : b.length = 64) :
  partW b (i + 1) = (partW b i).set (i / 4) (getN ((b.take i).drop (4 * (i / 4))) * 256 + (b[i]'(by omega)).toNat) := by
 apply List.ext_getElem (by simp [partW])
 intro q h1 h2
 have hq : q < 64 := by simpa [partW] using h1
 rw [List.getElem_set]
 simp only [partW, List.getElem_map, List.getElem_range]
 by_cases e : i / 4 = q
 ·subst e
  rw [if_pos rfl, show min (i + 1) (4 * (i / 4) + 4) = i + 1 by omega, List.take_succ_eq_append_getElem (by omega), List.drop_append_of_le_length (by simp; omega), getN_snoc]
 ·rw [if_neg e]
  by_cases h3 : i < 4 * q
  ·rw [List.drop_of_length_le (by simp; omega), List.drop_of_length_le (by simp; omega)]
  ·rw [show min (i + 1) (4 * q + 4) = min i (4 * q + 4) by omega]
theorem part_small (b : List UInt8) (i : Nat) (hi : i < 64) (hb : b.length = 64) : getN ((b.take i).drop (4 * (i / 4))) < 16777216 := by
 have h1 := getN_lt ((b.take i).drop (4 * (i / 4)))
 have h2 : ((b.take i).drop (4 * (i / 4))).length ≤ 3 := by simp; omega
 have h3 : (256 : Nat) ^ ((b.take i).drop (4 * (i / 4))).length ≤ 256 ^ 3 := Nat.pow_le_pow_right (by decide) h2
 have e : (256 : Nat) ^ 3 = 16777216 := by decide
 omega
theorem or_step (G y : Nat) (hG : G < 16777216) (hy : y < 256) : bits .or .u32 ((G : Int) * 256) ((y : Int) % 4294967296) = ((G * 256 + y : Nat) : Int) := by
 have e1 : ((y : Int) % 4294967296) = (y : Int) := by omega
 have e2 : ((G : Int) * 256) = ((G * 256 : Nat) : Int) := by omega
 rw [e1, e2, u32_or_nat (G * 256) y (by omega) (by omega)]
 rw [nat_join 8 (G * 256) y (by omega) (by omega)]
theorem part_end (b : List UInt8) (hb : b.length = 64) : cellsU (partW b 64) = cells32 (first b 16 ++ List.replicate 48 0) := by
 apply List.ext_getElem (by simp [cellsU, partW, cells32, first])
 intro q h1 h2
 have hq : q < 64 := by simpa [cellsU, partW] using h1
 simp only [cellsU, partW, cells32, List.getElem_map, List.getElem_range]
 congr 2
 by_cases h : q < 16
 ·rw [List.getElem_append_left (by rw [first_length]; exact h)]
  simp only [first, List.getElem_map, List.getElem_range, word]
  have h3 : getN ((b.take (4 * q + 4)).drop (4 * q)) < 4294967296 := by
   have h4 := getN_lt ((b.take (4 * q + 4)).drop (4 * q))
   rw [show ((b.take (4 * q + 4)).drop (4 * q)).length = 4 by simp; omega] at h4
   exact h4
  rw [show min 64 (4 * q + 4) = 4 * q + 4 by omega]
  show _ = _ % 4294967296
  rw [Nat.mod_eq_of_lt h3]
 ·rw [List.getElem_append_right (by rw [first_length]; omega), List.getElem_replicate, show min 64 (4 * q + 4) = 64 by omega, List.drop_of_length_le (by simp; omega)]
  rfl
def extZ (l : List UInt32) (i : Nat) : List UInt32 := extW (i - 16) l ++ List.replicate (64 - i) 0
theorem extZ_next (l : List UInt32) (i : Nat) (v : UInt32) (hl : l.length = 16) (h1 : 16 ≤ i) (h2 : i < 64) (hv : v = nextW (extW (i - 16) l)) : (cells32 (extZ l i)).set i (.int .u32 (v.toNat : Int)) = cells32 (extZ l (i + 1)) := by
 subst hv
 unfold extZ
 have e : (extW (i - 16) l).length = i := by rw [extW_length]; omega
 rw [show i + 1 - 16 = (i - 16) + 1 by omega, show 64 - i = (64 - (i + 1)) + 1 by omega, List.replicate_succ, cells32_append, List.set_append_right _ _ (by rw [cells32_length]; omega), cells32_length, e, Nat.sub_self]
 simp [extW, cells32]
theorem extZ_at (l : List UInt32) (i j : Nat) (hl : l.length = 16) (h1 : 16 ≤ i) (hj : j < i) : (cells32 (extZ l i))[j]? = some (.int .u32 (((extW (i - 16) l).getD j 0).toNat : Int)) := by
 have e : (extW (i - 16) l).length = i := by rw [extW_length]; omega
 unfold extZ
 rw [cells32_append, List.getElem?_append_left (by rw [cells32_length]; omega), cells32_at _ j (by omega)]
 simp [List.getD, List.getElem?_eq_getElem (show j < (extW (i - 16) l).length by omega)]
theorem extZ_length (l : List UInt32) (i : Nat) (hl : l.length = 16) (h1 : 16 ≤ i) (h2 : i ≤ 64) : (cells32 (extZ l i)).length = 64 := by
 rw [cells32_length]; unfold extZ; rw [List.length_append, extW_length, List.length_replicate]; omega
theorem sum4 (a b c d : UInt32) : ((d.toNat : Int) + (c.toNat : Int) + (b.toNat : Int) + (a.toNat : Int)) % 4294967296 = ((a + b + c + d).toNat : Int) := by
 simp only [UInt32.toNat_add]; omega
def zeroW : List Value := cells32 (List.replicate 64 0)
theorem zeroW_part (b : List UInt8) : zeroW = cellsU (partW b 0) := by
 unfold zeroW partW cellsU
 simp only [Nat.zero_min, List.take_zero, List.drop_nil]
 rfl
theorem ty64 : Ty Tryz.prog 376 zeroW := ⟨by kernel_rfl⟩
theorem rw64 : Rw Tryz.prog 376 (.array 64 201) 64 := ⟨by kernel_rfl, rfl, by kernel_rfl⟩
theorem rwBlock : Rw Tryz.prog 318 (.array 64 5) 64 := ⟨by kernel_rfl, rfl, by kernel_rfl⟩
set_option maxRecDepth 100000 in
set_option maxHeartbeats 4000000 in
theorem schedule_any (b : List UInt8) (w : World) (hb : b.length = 64) :
  Calls Tryz.prog 267 #[.agg (cells8 b).toArray] w fun e w' => e = .returned (.agg (cells32 (wordsL b)).toArray) ∧ Below w.heap.size w w' := by
 have HL := Lib.hid hb
 clear hb
 go_enter Tryz.func267, Tryz.ntmps267
 go_wp2_with (with_reducible refine wpList_box (o := ⟨some 1, _, _, _, _, _⟩) rfl (.tmp 0) rfl rfl ?_)
 intro w1 hk1 hb1 hs1
 have HK1 := Lib.hid hk1
 go_wp2_with (with_reducible refine wpList_alloc (o := ⟨some 2, _, _, _, _, _⟩) ty64 rfl rfl ?_)
 intro w2 hk2 hb2 hs2
 have HK2 := Lib.hid hk2
 go_wp2_with (with_reducible refine wpList_alloc (o := ⟨some 3, _, _, _, _, _⟩) ty64 rfl rfl ?_)
 intro w3 hk3 hb3 hs3
 have HK3 := Lib.hid hk3
 have HB1 := Lib.hid ((HK1.out.below hb2 (by omega)).below hb3 (by omega))
 have HB2 := Lib.hid (HK2.out.below hb3 (by omega))
 have HB3 : Hid (Blk w3 (w.heap.size + 1 + 1) 376 (cellsU (partW b 0))) := by
  show Blk _ _ _ _
  rw [← zeroW_part]; exact hk3
 have hB3 : Below w.heap.size w w3 := (hb1.trans (hb2.mono (by omega))).trans (hb3.mono (by omega))
 clear HK1 HK2 HK3 hk1 hk2 hk3 hb1 hb2 hb3 hs1 hs2 hs3
 go_wp2
 go_loopw [6] (fun v wr => ∃ i : Nat, i ≤ 64 ∧ v = .int .i64 i ∧ Hid (Blk wr (w.heap.size + 1 + 1) 376 (cellsU (partW b i))) ∧ Only (w.heap.size + 1 + 1) w3 wr) (fun v _ => 64 - (intOf v).toNat)
 case atStart => exact ⟨0, Nat.zero_le _, rfl, HB3, Only.refl _ _⟩
 case round =>
  clear HB3
  obtain ⟨i, hi, rfl, HB, ho⟩ := hrel
  by_cases hlt : i < 64
  ·have hbi : i < b.length := by rw [HL.out]; exact hlt
   have hcb := (HB1.out.only ho (by omega)).cell (i := i) (by rw [cells8_length]; exact hbi)
   have hcb2 : wr.cell? ⟨w.heap.size, i, none⟩ = some (.int .u8 (b[i].toNat : Int)) := by
    rw [hcb]; simp [cells8]
   have hq64 : i / 4 < 64 := by omega
   have hmin : min i (4 * (i / 4) + 4) = i := by omega
   have hcw : wr.cell? ⟨w.heap.size + 1 + 1, i / 4, none⟩ = some (.int .u32 ((getN ((b.take i).drop (4 * (i / 4))) : Nat) : Int)) := by
    rw [HB.out.cell? (i / 4)]
    have := partW_at b i (i / 4) hq64
    rw [hmin] at this
    exact cellsU_some this
   have HN := Lib.hid (partW_next b i hlt HL.out)
   have hG := part_small b i hlt HL.out
   generalize getN ((b.take i).drop (4 * (i / 4))) = G at *
   generalize b[i] = y at *
   have hfw := HB.out.frozen (i / 4)
   obtain ⟨q, hqe⟩ : ∃ q, q = i / 4 := ⟨_, rfl⟩
   rw [← hqe] at hcw hfw HN hq64
   have hqi : ((i : Int) / 4) = (q : Int) := by omega
   have hqq : (q : Int) < 64 := by omega
   have hqw : IntKind.i64.wrap (q : Int) = (q : Int) := by rw [IntKind.wrap_i64]; omega
   clear hqe hmin hcb
   go_wp2_with fail
   go_still_tail 12, (by kernel_rfl)
   change wpList _ _ _ _ _ wr.drew
   go_wp2
   have HV := Lib.hid (or_step G y.toNat hG y.toNat_lt)
   refine ⟨⟨i + 1, by omega, by go_num, ?_, (ho.trans (Only.setCell wr ⟨w.heap.size + 1 + 1, q, none⟩ _)).drew⟩, by simp [intOf]; omega⟩
   show Blk _ _ _ _
   rw [HV.out, HN.out]
   have h3 := (HB.out.set q (.int .u32 ((G * 256 + y.toNat : Nat) : Int))).drew
   have e : (cellsU (partW b i)).set q (.int .u32 ((G * 256 + y.toNat : Nat) : Int)) = cellsU ((partW b i).set q (G * 256 + y.toNat)) := by
    simp only [cellsU, List.map_set]
   rw [e] at h3
   exact h3
  ·have HI := Lib.hid (show i = 64 by omega)
   have HBw : Hid (Blk wr (w.heap.size + 1 + 1) 376 (cells32 (extZ (first b 16) 16))) := by
    have h1 := HB.out
    rw [HI.out, part_end b HL.out] at h1
    exact h1
   have HWL : Kp (cells32 (extZ (first b 16) 64) = cells32 (wordsL b)) := ⟨by unfold extZ wordsL; simp⟩
   have HF := Lib.hid (first_length b 16)
   generalize first b 16 = l0 at *
   have hlt3 : w.heap.size + 1 < w3.heap.size := HB2.out.lt
   obtain ⟨wx, rfl⟩ : ∃ x, x = wr := ⟨wr, rfl⟩
   clear HB
   go_wp2
   go_loopw [5] (fun v wr => ∃ i : Nat, 16 ≤ i ∧ i ≤ 64 ∧ v = .int .i64 i ∧ Hid (Blk wr (w.heap.size + 1 + 1) 376 (cells32 (extZ l0 i))) ∧ Only (w.heap.size + 1 + 1) w3 wr) (fun v _ => 64 - (intOf v).toNat)
   case atStart => exact ⟨16, Nat.le_refl _, by omega, rfl, HBw, ho⟩
   case round =>
    clear HBw ho hlt hi
    obtain ⟨k, hk1, hk2, rfl, HB, ho⟩ := hrel
    by_cases hlt : k < 64
    ·have hat : ∀ j, j < k → wr.cell? ⟨w.heap.size + 1 + 1, j, none⟩ = some (.int .u32 (((extW (k - 16) l0).getD j 0).toNat : Int)) := fun j hj => by
      rw [HB.out.cell? j]; exact extZ_at l0 k j HF.out hk1 hj
     have hlen : (extW (k - 16) l0).length = k := by rw [extW_length, HF.out]; omega
     have hnw : nextW (extW (k - 16) l0) = (extW (k - 16) l0).getD (k - 16) 0 + sig0 ((extW (k - 16) l0).getD (k - 15) 0) + (extW (k - 16) l0).getD (k - 7) 0 + sig1 ((extW (k - 16) l0).getD (k - 2) 0) := by unfold nextW; rw [hlen]
     obtain ⟨k16, e16⟩ : ∃ q : Nat, q = k - 16 := ⟨_, rfl⟩
     obtain ⟨k15, e15⟩ : ∃ q : Nat, q = k - 15 := ⟨_, rfl⟩
     obtain ⟨k7, e7⟩ : ∃ q : Nat, q = k - 7 := ⟨_, rfl⟩
     obtain ⟨k2, e2⟩ : ∃ q : Nat, q = k - 2 := ⟨_, rfl⟩
     have w16 : IntKind.i64.wrap ((k : Int) - 16) = (k16 : Int) := by rw [IntKind.wrap_i64]; omega
     have w15 : IntKind.i64.wrap ((k : Int) - 15) = (k15 : Int) := by rw [IntKind.wrap_i64]; omega
     have w7 : IntKind.i64.wrap ((k : Int) - 7) = (k7 : Int) := by rw [IntKind.wrap_i64]; omega
     have w2' : IntKind.i64.wrap ((k : Int) - 2) = (k2 : Int) := by rw [IntKind.wrap_i64]; omega
     have b16 : (k16 : Int) < 64 := by omega
     have b15 : (k15 : Int) < 64 := by omega
     have b7 : (k7 : Int) < 64 := by omega
     have b2 : (k2 : Int) < 64 := by omega
     have c16 := hat k16 (by omega)
     have c15 := hat k15 (by omega)
     have c7 := hat k7 (by omega)
     have c2 := hat k2 (by omega)
     have HS := fun v hv => extZ_next l0 k v HF.out hk1 hlt hv
     have hlz := extZ_length l0 k HF.out hk1 hk2
     have hcw := HB.out.cell (i := k) (by omega)
     have hfw := HB.out.frozen k
     generalize (cells32 (extZ l0 k))[k]'(by omega) = old at hcw
     have HS2 := Lib.hid HS
     have HNW : Hid (nextW (extW (k - 16) l0) = (extW (k - 16) l0).getD k16 0 + sig0 ((extW (k - 16) l0).getD k15 0) + (extW (k - 16) l0).getD k7 0 + sig1 ((extW (k - 16) l0).getD k2 0)) := by show _ = _; rw [e16, e15, e7, e2]; exact hnw
     clear e16 e15 e7 e2 hnw hat hlen HS hlz
     generalize (extW (k - 16) l0).getD k16 0 = x16 at *
     generalize (extW (k - 16) l0).getD k15 0 = x15 at *
     generalize (extW (k - 16) l0).getD k7 0 = x7 at *
     generalize (extW (k - 16) l0).getD k2 0 = x2 at *
     go_wp2_with fail
     refine wp_region_still_tail 22 (by kernel_rfl) (by kernel_rfl) ?_
     simp only [List.take_succ_cons, List.take_zero, List.drop_succ_cons, List.drop_zero]
     repeat (first | still_step | still_call (sig1_any _ _) | still_call (sig0_any _ _))
     try refine wpStill_nil ?_
     change wpList _ _ _ _ _ wr.drew
     go_wp2
     have HV := Lib.hid (sum4 x16 (sig0 x15) x7 (sig1 x2))
     refine ⟨⟨k + 1, by omega, by omega, by go_num, ?_, (ho.trans (Only.setCell wr ⟨w.heap.size + 1 + 1, k, none⟩ _)).drew⟩, by simp [intOf]; omega⟩
     show Blk _ _ _ _
     rw [HV.out, ← HNW.out]
     have h3 := (HB.out.set k (.int .u32 ((nextW (extW (k - 16) l0)).toNat : Int))).drew
     rw [HS2.out _ rfl] at h3
     exact h3
    ·have HK := Lib.hid (show k = 64 by omega)
     have HB8 : Kp (Blk wr (w.heap.size + 1 + 1) 376 (cells32 (wordsL b))) := ⟨by
      have h1 := HB.out
      rw [HK.out, HWL.out] at h1
      exact h1⟩
     have HLen : Kp ((cells32 (wordsL b)).length = 64) := ⟨by rw [cells32_length, wordsL_length]⟩
     have HB2r := Lib.hid (HB2.out.only ho (by omega))
     have HZ : Kp (zeroW.length = 64) := ⟨rfl⟩
     clear HB HWL
     go_wp2_with (first
      | (with_reducible refine wpList_loadAll (o := ⟨some 50, _, _, _, _, _⟩) rw64 rfl (.tmp 3) rfl rfl HB8.out HLen.out ?_)
      | (with_reducible refine wpList_storeAll (o := ⟨none, _, _, _, _, _⟩) (vs := cells32 (wordsL b)) rw64 rfl (.tmp 2) (.tmp 50) rfl rfl HB2r.out HZ.out HLen.out (cells32_one _) rfl ?_))
     intro w13 hk14 ho13
     have HK14 : Kp _ := ⟨hk14⟩
     clear hk14
     go_wp2
     exact ret_arr rfl rw64 rfl HK14.out HLen.out rfl ⟨rfl, (hB3.trans (ho.below (by omega))).trans (ho13.below (by omega))⟩
end Go.Proofs.YtcehkafddlfleaaGreatDoor

namespace Go.Proofs.YtcehkafddlfleaaGreatDoor
open Go.RowKit
def zero32 : List Value := cells8 (List.replicate 32 0)
theorem tyDig : Ty Tryz.prog 173 zero32 := ⟨by kernel_rfl⟩
theorem rwDig : Rw Tryz.prog 173 (.array 32 5) 32 := ⟨by kernel_rfl, rfl, by kernel_rfl⟩
def outAt (D : List UInt8) (j : Nat) : List UInt8 := D.take j ++ List.replicate (32 - j) 0
theorem outAt_set (D : List UInt8) (hD : D.length = 32) (j : Nat) (h : j < 32) : (cells8 (outAt D j)).set j (.int .u8 ((D.getD j 0).toNat : Int)) = cells8 (outAt D (j + 1)) := by
 unfold outAt
 have hl : (cells8 (D.take j)).length = j := by rw [cells8_length]; simp; omega
 rw [show 32 - j = (32 - (j + 1)) + 1 by omega, List.replicate_succ, cells8_append, List.set_append_right _ _ (by omega), hl, Nat.sub_self]
 rw [List.take_succ_eq_append_getElem (by omega), cells8_append, cells8_append]
 simp [cells8, List.getD, List.getElem?_eq_getElem (show j < D.length by omega)]
theorem outAt_end (D : List UInt8) (hD : D.length = 32) : outAt D 32 = D := by
 unfold outAt; rw [List.take_of_length_le (by omega)]; simp
theorem outAt_length (D : List UInt8) (hD : D.length = 32) (j : Nat) (h : j ≤ 32) : (outAt D j).length = 32 := by simp [outAt]; omega
theorem digestL_length (S : ShSt) : (digestL S).length = 32 := by simp [digestL, ShSt.list, putN_length]
theorem digest_at (S : ShSt) (i k : Nat) (hi : i < 8) (hk : k < 4) : (putN (S.list.getD i 0).toNat 4)[k]? = some ((digestL S).getD (4 * i + k) 0) := by
 have h1 : i = 0 ∨ i = 1 ∨ i = 2 ∨ i = 3 ∨ i = 4 ∨ i = 5 ∨ i = 6 ∨ i = 7 := by omega
 have h2 : k = 0 ∨ k = 1 ∨ k = 2 ∨ k = 3 := by omega
 rcases h1 with rfl | rfl | rfl | rfl | rfl | rfl | rfl | rfl <;> rcases h2 with rfl | rfl | rfl | rfl <;> rfl
theorem digest_byte (S : ShSt) (q r : Nat) (hq : q < 8) (hr : r < 4) : (((digestL S).getD (4 * q + r) 0).toNat : Int) = ((S.list.getD q 0).toNat : Int) / ((256 ^ (3 - r) : Nat) : Int) % 256 := by
 have h := digest_at S q r hq hr
 have h2 := putN_at (S.list.getD q 0).toNat 4 r hr
 rw [List.getElem?_eq_getElem (by rw [putN_length]; exact hr), h2] at h
 rw [← Option.some.inj h, ofNat_toNat]
 show (((_ / 256 ^ (4 - 1 - r)) % 256 : Nat) : Int) = _
 rw [show 4 - 1 - r = 3 - r by omega]
 rfl
end Go.Proofs.YtcehkafddlfleaaGreatDoor

namespace Go.Proofs.YtcehkafddlfleaaGreatDoor
open Go.RowKit
def padZ (n : Nat) : Nat := (119 - n % 64) % 64
theorem pad_le (n : Nat) : padZ n ≤ 63 := by unfold padZ; omega
def padTo (l : List UInt8) (m : Nat) : List UInt8 := l ++ 128 :: List.replicate (m - (l.length + 1)) 0
theorem padTo_length (l : List UInt8) (m : Nat) (h : l.length + 1 ≤ m) : (padTo l m).length = m := by simp [padTo]; omega
theorem padTo_end (l : List UInt8) : padTo l (l.length + 1 + padZ l.length) ++ putN (8 * l.length) 8 = padded l := by
 unfold padTo padded ending padZ
 rw [show l.length + 1 + (119 - l.length % 64) % 64 - (l.length + 1) = (119 - l.length % 64) % 64 by omega]
 simp
theorem padded_length (l : List UInt8) : (padded l).length = l.length + 9 + padZ l.length := by
 rw [← padTo_end, List.length_append, padTo_length _ _ (by omega), putN_length]
 omega
end Go.Proofs.YtcehkafddlfleaaGreatDoor

namespace Go.Proofs.YtcehkafddlfleaaGreatDoor
open Go.RowKit
def flip8 (b : UInt8) (m : Nat) : UInt8 := b ^^^ UInt8.ofNat (2 ^ m)
theorem flip8_val (b : UInt8) (y : Int) : bits .xor .u8 (b.toNat : Int) (2 ^ y.toNat % 256) = ((flip8 b y.toNat).toNat : Int) := by
 have h1 : (2 : Int) ^ y.toNat % 256 = ((2 ^ y.toNat % 256 : Nat) : Int) := by simp
 rw [h1, u8_xor_nat _ _ (UInt8.toNat_lt _) (Nat.mod_lt _ (by decide))]
 rfl
theorem cells8_set (l : List UInt8) (k : Nat) (b : UInt8) : (cells8 l).set k (.int .u8 (b.toNat : Int)) = cells8 (l.set k b) := by
 simp [cells8, List.map_set]
end Go.Proofs.YtcehkafddlfleaaGreatDoor
