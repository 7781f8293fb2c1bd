/- What stays true of the world over a region that draws its order; lists of slices that have just been laid. No program is named here. -/
import Derived.Test.YtaedlaeflliibaaLists
import Derived.Test.YtaedlaeflliibaaArr
import Derived.Test.YtaedlaeflliibaaEqArr
import Derived.Deep.RegionHeld3
namespace Go.Proofs.Ytaedlaeflliibaa
open Go.RowKit

/-- what stays true of the world while calls make memory: nothing that was there has turned -/
theorem keep_call {w0 W W' : World} {g : Nat} {cs : List Value} (hS : Below w0.heap.size w0 W ∧ W.rangeAt g 0 cs) (hg : g < w0.heap.size) (hb : Below W.heap.size W W') : Below w0.heap.size w0 W' ∧ W'.rangeAt g 0 cs :=
  ⟨hS.1.trans (hb.mono hS.1.size), range_below hS.2 hb (Nat.lt_of_lt_of_le hg hS.1.size)⟩
theorem keep_alloc {w0 W : World} {g : Nat} {cs : List Value} (hS : Below w0.heap.size w0 W ∧ W.rangeAt g 0 cs) (o : Obj) : Below w0.heap.size w0 (W.alloc o) ∧ (W.alloc o).rangeAt g 0 cs :=
  ⟨hS.1.alloc hS.1.size o, World.rangeAt_alloc hS.2 o⟩
theorem keep_drew {w0 W : World} {g : Nat} {cs : List Value} (hS : Below w0.heap.size w0 W ∧ W.rangeAt g 0 cs) : Below w0.heap.size w0 W.drew ∧ W.drew.rangeAt g 0 cs := ⟨hS.1.drew, hS.2⟩

theorem ls_two (W : World) (t : TypeId) {A B : Option Addr} {n c m d : Nat} {la lb : List UInt8} (ha : Bs W W.heap.size A n c la) (hb : Bs W W.heap.size B m d lb) :
    Ls (W.alloc (.cells #[.slice A n c, .slice B m d] t)) (W.alloc (.cells #[.slice A n c, .slice B m d] t)).heap.size (some ⟨W.heap.size, 0, none⟩) 2 2 [la, lb] := (Ls.two t ha hb).more (by simp)
theorem ls_one (W : World) (t : TypeId) {A : Option Addr} {n c : Nat} {la : List UInt8} (ha : Bs W W.heap.size A n c la) :
    Ls (W.alloc (.cells #[.slice A n c] t)) (W.alloc (.cells #[.slice A n c] t)).heap.size (some ⟨W.heap.size, 0, none⟩) 1 1 [la] := (Ls.one t ha).more (by simp)
/-- x[i:] of bytes, in a region -/
theorem yieldsIf_cut_l {P : Program} {ops : Array Oper} {S : World → Prop} {op : Oper} {a : Act} {t e : TypeId} {z : Value} {bytes : Nat} (hw : Region.wanted op (yielded ops a.tmps) = true) (E : El P t e z bytes) (x lo : Operand) (ho : op.op = .slice t x (some lo) none none)
    {A : Option Addr} {n c : Nat} (hx : a.eval x = .slice A n c) {k : IntKind} {I : Int} (hlo : a.eval lo = .int k I) (i : Nat) (hI : I = i) (hi : i ≤ n) {A' : Option Addr} {n' c' : Nat} (hA' : (if c = i then A else A.map (·.add i)) = A') (hn' : n - i = n') (hc' : c - i = c') : YieldsIf P ops S op (.slice A' n' c') a := by
  subst hI hA' hn' hc'
  refine .inl ⟨hw, fun w _ => ?_⟩
  have hrun := run_slice_l (P := P) (w := w) t A n c E.ty' k (i : Int) (by omega) (by omega)
  rw [E.sizeOf] at hrun
  unfold execOp
  simp [ho, hx, hlo, run_sliceAt_slice (P := P) (w := w) t _ _ _ _ E.ty', hrun, Result.andThen, sliced]
/-- two arrays of bytes, held against each other, in a region -/
theorem yieldsIf_eql {P : Program} {ops : Array Oper} {S : World → Prop} {op : Oper} {a : Act} {t e t' : TypeId} {n : Nat} (hw : Region.wanted op (yielded ops a.tmps) = true) (E : EqB P t e n) (hG : P.eqGuardType P.depth t = false) (x y : Operand) (ho : op.op = .binOp .eql t x y t') (l m : List UInt8)
    (hx : a.eval x = .agg (cells8 l).toArray) (hy : a.eval y = .agg (cells8 m).toArray) (hl : l.length = n) (hm : m.length = n) {b : Bool} (hb : (l == m) = b) : YieldsIf P ops S op (.bool b) a :=
  .inl ⟨hw, fun w _ => by
    unfold execOp
    simp only [ho, hx, hy, Sem.run_bind, run_eqGuard_agg (w := w) _ _ _ _ _ _ hG, Result.andThen_ok, run_eql_bytes E w l m hl hm, hb, Sem.run_pure]⟩
theorem yieldsIf_neq {P : Program} {ops : Array Oper} {S : World → Prop} {op : Oper} {a : Act} {t e t' : TypeId} {n : Nat} (hw : Region.wanted op (yielded ops a.tmps) = true) (E : EqB P t e n) (hG : P.eqGuardType P.depth t = false) (x y : Operand) (ho : op.op = .binOp .neq t x y t') (l m : List UInt8)
    (hx : a.eval x = .agg (cells8 l).toArray) (hy : a.eval y = .agg (cells8 m).toArray) (hl : l.length = n) (hm : m.length = n) {b : Bool} (hb : (!(l == m)) = b) : YieldsIf P ops S op (.bool b) a :=
  .inl ⟨hw, fun w _ => by
    unfold execOp
    simp only [ho, hx, hy, Sem.run_bind, run_eqGuard_agg (w := w) _ _ _ _ _ _ hG, Result.andThen_ok, run_neq_bytes E w l m hl hm, hb, Sem.run_pure]⟩
end Go.Proofs.Ytaedlaeflliibaa
