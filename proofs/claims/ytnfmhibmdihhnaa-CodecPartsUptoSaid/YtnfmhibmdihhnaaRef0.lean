/- The contracts of sacristanref00's Same and Copy. -/
import Derived.Test.YtnfmhibmdihhnaaRows
import Derived.Test.YtnfmhibmdihhnaaLaws
namespace Go.Proofs.Ytnfmhibmdihhnaa
open Go.RowKit

theorem el8 : El Try.prog 23 5 (.int .u8 0) 1 := ⟨Try.underlying23, by kernel_rfl, rfl⟩

set_option maxHeartbeats 400000 in
theorem same_any (A B : Option Addr) (n c m d : Nat) (xs ys : List UInt8) (w : World) (L M : Nat) (ha : Bs w L A n c xs) (hb : Bs w M B m d ys) :
    Calls Try.prog 11 #[.slice A n c, .slice B m d] w fun e w' => e = .returned (.bool (xs == ys)) ∧ w = w' := by
  have e1 := ha.text Try.underlying23 Try.underlying5 Try.underlying9
  have e2 := hb.text Try.underlying23 Try.underlying5 Try.underlying9
  clear ha hb
  go_enter Try.func11, Try.ntmps11
  go_wp2
  go_ret
  exact ⟨rfl, rfl⟩

set_option maxHeartbeats 400000 in
theorem copy_any (A : Option Addr) (n c : Nat) (xs : List UInt8) (w : World) (ha : Bs w w.heap.size A n c xs) (hn : n ≤ 4294967296) :
    Calls Try.prog 24 #[.slice A n c] w fun e w' => ∃ v, e = .returned v ∧ w'.ownsRow w.heap.size 5 1 v n (cells8 xs) ∧ Below w.heap.size w w' := by
  have HL := Lib.hid ha.len
  go_enter Try.func24, Try.ntmps24
  go_wp2_with (at_builtin; refine wpList_app el8 rfl _ _ rfl w.heap.size _ 0 [] rfl (own_nil _ _ _) A n c (cells8 xs) rfl ?_ ?_ ha.news (cells8_one _) ?_ ?_ (Nat.le_refl _) ?_)
  · rw [cells8_length, HL.out]
  · exact fun h => ⟨by have := ha.nil h; have := ha.cap; omega, ha.nil h⟩
  · simp only [maxLen]; omega
  · omega
  intro v1 w1 hown hg hb
  have hbel : Below w.heap.size w w1 := (Below.refl _ _).grown hg (Nat.le_refl _) (by simp [Value.ownBlock])
  have hown : w1.ownsRow w.heap.size 5 1 v1 n (cells8 xs) := by simpa using hown
  have H := Lib.hid hown
  clear hown hg hb
  go_wp2
  go_ret
  exact ⟨_, rfl, H.out, hbel⟩
end Go.Proofs.Ytnfmhibmdihhnaa
