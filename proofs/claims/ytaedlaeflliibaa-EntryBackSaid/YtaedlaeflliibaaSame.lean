/- The contract of sacristanref00's Same. -/
import Derived.Test.YtaedlaeflliibaaEl
namespace Go.Proofs.Ytaedlaeflliibaa
open Go.RowKit

set_option maxHeartbeats 400000 in
theorem same_any (A B : Option Addr) (n c m d : Nat) (xs ys : List UInt8) (w : World) (L M : Nat) (ha : Bs w L A n c xs) (hb : Bs w M B m d ys) :
    Calls Try.prog 17 #[.slice A n c, .slice B m d] w fun e w' => e = .returned (.bool (xs == ys)) ∧ w = w' := by
  have e1 := ha.text Try.underlying23 Try.underlying5 Try.underlying9
  have e2 := hb.text Try.underlying23 Try.underlying5 Try.underlying9
  clear ha hb
  go_enter Try.func17, Try.ntmps17
  go_wp2
  go_ret
  exact ⟨rfl, rfl⟩

end Go.Proofs.Ytaedlaeflliibaa
