/- The contract of sacristanref00's Copy. -/
import Derived.Test.YtaedlaeflliibaaEl
namespace Go.Proofs.Ytaedlaeflliibaa
open Go.RowKit

set_option maxHeartbeats 400000 in
theorem cop_any (A : Option Addr) (n c : Nat) (xs : List UInt8) (w : World) (ha : Bs w w.heap.size A n c xs) (hn : n ≤ 4294967296) :
    Calls Try.prog 27 #[.slice A n c] w fun e w' => ∃ v, e = .returned v ∧ w'.ownsRow w.heap.size 5 1 v n (cells8 xs) ∧ Below w.heap.size w w' := by
  have HL := Lib.hid ha.len
  go_enter Try.func27, Try.ntmps27
  go_wp2_with (at_builtin; refine wpList_app el8 rfl _ _ rfl w.heap.size _ 0 [] rfl (own_nil _ _ _) A n c (cells8 xs) rfl ?_ ?_ ha.news (cells8_one _) ?_ ?_ (Nat.le_refl _) ?_)
  · rw [cells8_length, HL.out]
  · exact fun h => ⟨by have := ha.nil h; have := ha.cap; omega, ha.nil h⟩
  · simp only [maxLen]; omega
  · omega
  intro v1 w1 hown hg hb
  have hbel : Below w.heap.size w w1 := (Below.refl _ _).grown hg (Nat.le_refl _) (by simp [Value.ownBlock])
  have hown : w1.ownsRow w.heap.size 5 1 v1 n (cells8 xs) := by simpa using hown
  have H := Lib.hid hown
  clear hown hg hb
  go_wp2
  go_ret
  exact ⟨_, rfl, H.out, hbel⟩
end Go.Proofs.Ytaedlaeflliibaa
