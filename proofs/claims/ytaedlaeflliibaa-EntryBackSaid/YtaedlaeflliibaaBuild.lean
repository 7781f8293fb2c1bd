/- A struct or an array, built of one part. No program is named here. -/
import Derived.Test.YtaedlaeflliibaaArr
import Derived.Laws.Tables
namespace Go.Proofs.Ytaedlaeflliibaa
open Go.RowKit

section
variable {P : Program} {w : World} {ops : Array Oper} {rest : List Oper} {o : Oper} {a : Act} {Q : Exit → Act → World → Prop} {t : TypeId}
theorem wpList_build1 (hg : o.guard = none) (i : Nat) (x : Operand) (hop : o.op = .build t #[(i, x)]) {v : Value} (hx : a.eval x = v) {cs : List Value} (hb : P.built t [(i, v)] = some cs.toArray)
    (h : wpList P ops Q rest (a.put o.dst (.agg cs.toArray)) w) : wpList P ops Q (o :: rest) a w := by
  refine wpList_plain hg fun K hK => ?_
  unfold Oper.wp execOp
  have hr := run_build (P := P) w t #[(i, v)] cs.toArray (by simpa using hb)
  simp only [hop, Sem.run_bind, List.map_toArray, List.map_cons, List.map_nil, hx, hr, Result.andThen_ok]
  exact hK _ _ h
/-- a whole block, read, guarded -/
theorem wpList_loadAll_g {d : TypeDesc} {n : Nat} (E : Rw P t d n) (hg : Region.wanted o (yielded ops a.tmps) = true) (x : Operand) (hop : o.op = .load t x) {g : Nat} {t' : TypeId} {cs : List Value} (hx : a.eval x = .pointer (some ⟨g, 0, none⟩)) (hb : Blk w g t' cs) (hn : cs.length = n)
    (h : wpList P ops Q rest (a.put o.dst (.agg cs.toArray)) w) : wpList P ops Q (o :: rest) a w := by
  refine wpList_step fun K hK => ?_
  rw [if_pos hg]
  have hr := run_load_rw E hb (off := 0) (by omega)
  rw [List.drop_zero, List.take_of_length_le (by omega)] at hr
  unfold Oper.wp
  simp only [execOp, hop, hx, Sem.run_bind, hr, Result.andThen_ok, Sem.run_pure]
  exact hK _ _ h
/-- a new variable of many cells, in a region whose order is open -/
theorem step_alloc {K : Act → World → Prop} {C : Prop} {zs : List Value} (E : Ty P t zs) (hgd : o.guard = none) (hop : o.op = .alloc t)
    (h : ∀ w', Blk w' w.heap.size t zs → Below w.heap.size w w' → K (a.put o.dst (.pointer (some ⟨w.heap.size, 0, none⟩))) w') :
    if Region.wanted o (yielded ops a.tmps) = true then Oper.wp P o a w K Q else C := by
  have hw : Region.wanted o (yielded ops a.tmps) = true := by simp [Region.wanted, hgd]
  rw [if_pos hw]
  unfold Oper.wp
  simp only [execOp, hop, Sem.run_bind, run_alloc_ty E, Result.andThen_ok, Sem.run_pure]
  exact h _ (Blk.new w t zs) ((Below.refl _ _).alloc (Nat.le_refl _) _)
/-- many cells, read, as what they are known to be -/
theorem wpList_loadv {d : TypeDesc} {n : Nat} (E : Rw P t d n) (hg : o.guard = none) (x : Operand) (hop : o.op = .load t x) {g off : Nat} {t' : TypeId} {cs vs : List Value} (hx : a.eval x = .pointer (some ⟨g, off, none⟩)) (hb : Blk w g t' cs) (hfit : off + n ≤ cs.length) (hv : (cs.drop off).take n = vs)
    (h : wpList P ops Q rest (a.put o.dst (.agg vs.toArray)) w) : wpList P ops Q (o :: rest) a w := by
  subst hv
  exact wpList_load E hg x hop hx hb hfit h
end
end Go.Proofs.Ytaedlaeflliibaa
