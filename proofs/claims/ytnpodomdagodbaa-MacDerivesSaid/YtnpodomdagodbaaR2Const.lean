/- The contracts of sacristanref02.constants. -/
import Derived.Test.YtnpodomdagodbaaR2
namespace Go.Proofs.Ytnpodomdagodbaa
open Go.RowKit

/-- a row that has just been laid -/
theorem own_laid (w : World) (base : Nat) (t : TypeId) (xs : List Value) (n : Nat) (hl : xs.length = n) (hm : n ≤ maxLen) (hb : base ≤ w.heap.size) :
    (w.alloc (.cells xs.toArray t)).ownsRow base t 1 (.slice (some ⟨w.heap.size, 0, none⟩) n n) n xs :=
  own_of_full (by show (w.heap.push _)[w.heap.size]? = _; simp) hb hm hl

set_option maxHeartbeats 400000 in
theorem constants_any (w : World) :
    Calls Try.prog 45 #[] w fun e w' => ∃ v, e = .returned v ∧ w'.ownsRow w.heap.size 50 1 v 64 (cells32 KL) ∧ Below w.heap.size w w' := by
  go_enter Try.func45, Try.ntmps45
  go_wp2
  go_ret
  exact ⟨_, rfl, own_laid w _ 50 (cells32 KL) 64 rfl (by decide) (Nat.le_refl _), (Below.refl _ _).alloc (Nat.le_refl _) _⟩

end Go.Proofs.Ytnpodomdagodbaa
