/- x[:k] of bytes, in a region. No program is named here. -/
import Derived.Test.YtleplilcpcgacaaHeld
namespace Go.Proofs.Ytleplilcpcgacaa
open Go.RowKit

theorem yieldsIf_cut_h {P : Program} {ops : Array Oper} {S : World → Prop} {op : Oper} {a : Act} {t e : TypeId} {z : Value} {bytes : Nat} (hw : Region.wanted op (yielded ops a.tmps) = true) (E : El P t e z bytes) (x hi : Operand) (ho : op.op = .slice t x none (some hi) none)
    {A : Option Addr} {n c : Nat} (hx : a.eval x = .slice A n c) {k : IntKind} {I : Int} (hhi : a.eval hi = .int k I) (j : Nat) (hI : I = j) (hj : j ≤ c) : YieldsIf P ops S op (.slice A j c) a := by
  subst hI
  refine .inl ⟨hw, fun w _ => ?_⟩
  have hrun := run_slice_h (P := P) (w := w) t A n c E.ty' k (j : Int) (by omega) (by omega)
  rw [E.sizeOf] at hrun
  unfold execOp
  simp [ho, hx, hhi, run_sliceAt_slice (P := P) (w := w) t _ _ _ _ E.ty', hrun, Result.andThen, sliced]
  try (cases A <;> simp [Addr.add])
end Go.Proofs.Ytleplilcpcgacaa
