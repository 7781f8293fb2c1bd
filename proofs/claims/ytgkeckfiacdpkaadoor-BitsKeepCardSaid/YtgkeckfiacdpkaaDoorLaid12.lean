/- The listed variable math/bits.deBruijn64tab: what its condition gives a walk, and a world that meets it. -/
import Derived.Test.YtgkeckfiacdpkaaDoorBtF
import Derived.Test.YtgkeckfiacdpkaaDoorRows
import Derived.Lib.LaidTab
import Derived.LaidLaws
import Derived.LaidHandle
import Derived.ChangeVars
import Derived.JoinedOf
import Derived.Stop.Joined
namespace Go.Proofs.YtgkeckfiacdpkaaDoor
open Go.RowKit

theorem laid_tab : Tryd.prog.globalNamed "math/bits.deBruijn64tab" = some 0 := by kernel_rfl
def tabInts : List Int := Lib.deBruijn64tab.map fun (n : Nat) => (n : Int)
theorem laid_row : [("math/bits.deBruijn64tab", Rows.laid_math_bits_deBruijn64tab)] = [("math/bits.deBruijn64tab", (Lib.tabData .u8 tabInts : DataW Unit))] := by kernel_rfl
theorem tab_of_laid {W : World} (h : laidMetH Tryd.prog [("math/bits.deBruijn64tab", Rows.laid_math_bits_deBruijn64tab)] W) : TabD W ∧ 0 < W.heap.size := by
  have h' : laidMet Tryd.prog [("math/bits.deBruijn64tab", Rows.laid_math_bits_deBruijn64tab)] W := h
  rw [laid_row] at h'
  have ht := Lib.tabIs_of_head laid_tab (show (Tryd.prog.globals[0]?).map (·.type) = some 66 by kernel_rfl) (show Tryd.prog.underlying 66 = some (.array 64 5) by kernel_rfl) (show Tryd.prog.underlying 5 = some (.int .u8) by kernel_rfl) (by kernel_rfl) (by kernel_rfl) h'
  have hc : TabD W := fun j hj => by
    have hl : tabInts.length = 64 := by kernel_rfl
    have h1 := ht.cell laid_tab j (by rw [hl]; exact hj)
    rw [h1]
    unfold tabInts
    rw [List.getD_eq_getElem?_getD, List.getElem?_map, List.getD_eq_getElem?_getD]
    cases Lib.deBruijn64tab[j]? <;> rfl
  refine ⟨hc, ?_⟩
  have h0 := hc 0 (by omega)
  cases hs : W.heap.size with
  | succ n => omega
  | zero =>
    exfalso
    rw [World.cell?] at h0
    rw [Array.getElem?_eq_none (by omega)] at h0
    cases h0
/-- A world that meets the condition: the settled one, the table's cells laid. -/
noncomputable def laidWorld (os : Os) : World :=
  let w0 := World.holding Tryd.prog os ⟨#[], #[], []⟩
  { w0 with heap := w0.heap.modify 0 fun
      | .cells _ t frozen => .cells (tabInts.map fun z => Value.int .u8 z).toArray t frozen
      | o => o }
theorem laidWorld_met (os : Os) (args : Array Value) : laidMetH Tryd.prog [("math/bits.deBruijn64tab", Rows.laid_math_bits_deBruijn64tab)] ((laidWorld os).forCall (fun _ _ => 0) ⟨#[], args, []⟩).memory :=
  laidMetH_of_parts (laidMet_of_run' 8 (by kernel_rfl) (by kernel_rfl)) (by kernel_rfl)
end Go.Proofs.YtgkeckfiacdpkaaDoor
