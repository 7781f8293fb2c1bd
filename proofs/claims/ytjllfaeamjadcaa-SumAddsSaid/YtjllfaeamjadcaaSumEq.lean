/- What four arrays in memory are, carried over calls; '==' of two arrays. -/
import Derived.Test.YtjllfaeamjadcaaSumKnown
namespace Go.Proofs.Ytjllfaeamjadcaa
open Go.RowKit

/-- four blocks as they are -/
structure Keep4 (w : World) (g0 g1 g2 g3 : Nat) (t : TypeId) (c0 c1 c2 c3 : List Value) (W : World) : Prop where
  a : Blk W g0 t c0
  b : Blk W g1 t c1
  c : Blk W g2 t c2
  d : Blk W g3 t c3
  below : Below w.heap.size w W
section
variable {w W W' : World} {g0 g1 g2 g3 : Nat} {t : TypeId} {c0 c1 c2 c3 : List Value}
theorem Keep4.next (h : Keep4 w g0 g1 g2 g3 t c0 c1 c2 c3 W) (hb : Below W.heap.size W W') : Keep4 w g0 g1 g2 g3 t c0 c1 c2 c3 W' := ⟨h.a.below hb h.a.lt, h.b.below hb h.b.lt, h.c.below hb h.c.lt, h.d.below hb h.d.lt, h.below.trans (hb.mono h.below.size)⟩
theorem Keep4.drew (h : Keep4 w g0 g1 g2 g3 t c0 c1 c2 c3 W) : Keep4 w g0 g1 g2 g3 t c0 c1 c2 c3 W.drew := ⟨h.a.drew, h.b.drew, h.c.drew, h.d.drew, h.below.drew⟩
end
section
variable {P : Program} {w : World} {ops : Array Oper} {rest : List Oper} {o : Oper} {a : Act} {Q : Exit → Act → World → Prop} {t e t' : TypeId} {n : Nat}
theorem wpList_eql (hg : o.guard = none) (E : EqB P t e n) (hG : P.eqGuardType P.depth t = false) (x y : Operand) (ho : o.op = .binOp .eql t x y t') (l m : List UInt8)
    (hx : a.eval x = .agg (cells8 l).toArray) (hy : a.eval y = .agg (cells8 m).toArray) (hl : l.length = n) (hm : m.length = n) {b : Bool} (hb : (l == m) = b) (h : wpList P ops Q rest (a.put o.dst (.bool b)) w) : wpList P ops Q (o :: rest) a w := by
  refine wpList_plain hg fun K hK => ?_
  unfold Oper.wp execOp
  simp only [ho, hx, hy, Sem.run_bind, run_eqGuard_agg (w := w) _ _ _ _ _ _ hG, Result.andThen_ok, run_eql_bytes E w l m hl hm, hb, Sem.run_pure]
  exact hK _ _ h
end
theorem beq_false {a b : List UInt8} (h : getN a ≠ getN b) : (a == b) = false := by
  cases hq : (a == b) with
  | false => rfl
  | true => exact absurd (by rw [beq_iff_eq.1 hq]) h
theorem lessL_true {a b : List UInt8} (h : getN a < getN b) : lessL a b = true := decide_eq_true h
theorem lessL_false {a b : List UInt8} (h : ¬ getN a < getN b) : lessL a b = false := decide_eq_false h
end Go.Proofs.Ytjllfaeamjadcaa
