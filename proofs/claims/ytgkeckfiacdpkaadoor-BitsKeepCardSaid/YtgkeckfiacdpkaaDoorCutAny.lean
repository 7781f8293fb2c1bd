/- A slice of a slice, in a region that draws its order. No program is named here. -/
import Derived.Test.YtgkeckfiacdpkaaDoorLaws
namespace Go.Proofs.YtgkeckfiacdpkaaDoor
open Go.RowKit

/-- x[i:k] -/
theorem yields_cut_lh {P : Program} {ops : Array Oper} {op : Oper} {a : Act} {t e : TypeId} {z : Value} {bytes : Nat} (hw : Region.wanted op (yielded ops a.tmps) = true) (E : El P t e z bytes) (x lo hi : Operand) (ho : op.op = .slice t x (some lo) (some hi) none)
    {A : Option Addr} {n c : Nat} (hx : a.eval x = .slice A n c) {k1 k2 : IntKind} {I J : Int} (hlo : a.eval lo = .int k1 I) (hhi : a.eval hi = .int k2 J) (i k : Nat) (hI : I = i) (hJ : J = k) (hik : i ≤ k) (hk : k ≤ c) {A' : Option Addr} {n' c' : Nat} (hA' : (if c = i then A else A.map (·.add i)) = A') (hn' : k - i = n') (hc' : c - i = c') : Yields P ops op (.slice A' n' c') a := by
  subst hI hJ hA' hn' hc'
  refine .inl ⟨hw, fun w => ?_⟩
  have hrun := run_slice_lh (P := P) (w := w) t A n c E.ty' k1 k2 (i : Int) (k : Int) (by omega) (by omega) (by omega)
  rw [E.sizeOf] at hrun
  unfold execOp
  simp [ho, hx, hlo, hhi, run_sliceAt_slice (P := P) (w := w) t _ _ _ _ E.ty', hrun, Result.andThen, sliced]
end Go.Proofs.YtgkeckfiacdpkaaDoor
