/- The contract of sacristanref06's SameTrace, of two that read alike. -/
import Derived.Test.YtalnbomnmmefgaaTrace
import Derived.StillTailTactics
namespace Go.Proofs.Ytalnbomnmmefgaa
open Go.RowKit

set_option maxRecDepth 100000 in
set_option maxHeartbeats 4000000 in
theorem sametrace_any (A : Option Addr) (n c : Nat) (B : Option Addr) (d : Nat) (tr : List Tr) (w : World) (ha : Ts w A n c tr) (hb : Ts w B n d tr) :
    Calls Try.prog 26 #[.slice A n c, .slice B n d] w fun e w' => e = .returned (.bool true) ∧ Below w.heap.size w w' := by
  have hn63 := ha.le
  have HA : Kp _ := ⟨ha⟩
  have HB : Kp _ := ⟨hb⟩
  clear ha hb
  go_enter Try.func26, Try.ntmps26
  go_wp2
  go_loopg [5] n (fun gk v5 wr => ∃ i : Nat, i + gk = n ∧ v5 = .int .i64 i ∧ Below w.heap.size w wr)
  case atStart => exact ⟨0, by omega, rfl, Below.refl _ _⟩
  case round =>
    obtain ⟨i, hi, rfl, hB⟩ := hrel
    cases gk with
    | zero =>
      have hlt : ¬ ((i : Int) < (n : Int)) := by omega
      go_wp2
      go_ret
      exact ⟨rfl, hB⟩
    | succ g2 =>
      have hlt : (i : Int) < (n : Int) := by omega
      have hin : i < n := by omega
      obtain ⟨ba, oa, A1, n1, c1, hAe, h1⟩ := (HA.out.below hB).at hin
      obtain ⟨bb, ob, A2, n2, c2, hBe, h2⟩ := (HB.out.below hB).at hin
      have hit : i < tr.length := by rw [HA.out.len]; exact hin
      obtain ⟨x, hx⟩ : ∃ x, x = tr[i]'hit := ⟨_, rfl⟩
      rw [← hx] at h1 h2
      have e1 := (h1.bytes.drew).text Try.underlying22 Try.underlying5 Try.underlying9
      have e2 := (h2.bytes.drew).text Try.underlying22 Try.underlying5 Try.underlying9
      have p0 := h1.kind
      have p1 := h1.pl
      have p2 := h1.slot
      have p3 := h1.sli
      have q0 := h2.kind
      have q1 := h2.pl
      have q2 := h2.slot
      have q3 := h2.sli
      subst hAe hBe
      clear h1 h2 hx
      go_wp2_with fail
      go_still (by kernel_rfl)
      change Exit.then _ _ _ _ wr.drew
      clear e1 e2 p0 p1 p2 p3 q0 q1 q2 q3
      have hBd := hB.drew
      clear hB
      go_wp2
      go_roundg g2
      case measure => omega
      case rel => exact ⟨i + 1, by omega, by go_num, hBd⟩
end Go.Proofs.Ytalnbomnmmefgaa
