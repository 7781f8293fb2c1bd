/- The contract of bytes.Clone, and of traced. -/
import Derived.Test.YtalnbomnmmefgaaWd
namespace Go.Proofs.Ytalnbomnmmefgaa
open Go.RowKit

set_option maxRecDepth 100000 in
set_option maxHeartbeats 400000 in
theorem clone_any (A : Option Addr) (n c : Nat) (l : List UInt8) (w : World) (ha : Bs w w.heap.size A n c l) (hn : n ≤ 4294967296) :
    Calls Try.prog 39 #[.slice A n c] w fun e w' => ∃ v, e = .returned v ∧ w'.ownsRow w.heap.size 5 1 v n (cells8 l) ∧ Below w.heap.size w w' := by
  have HA : Kp _ := ⟨ha⟩
  have HL : Kp _ := ⟨ha.len⟩
  have heq := fun w => Lib.run_eql_slice_nil (P := Try.prog) w 22 5 A n c 0 0 Try.underlying22
  cases hA : A with
  | none =>
    have h0 : n = 0 := by have := ha.nil hA; have := ha.cap; omega
    have hl : l = [] := List.eq_nil_of_length_eq_zero (by have := ha.len; omega)
    have hc : c = 0 := ha.nil hA
    rw [hA] at heq
    clear ha HA HL hA
    subst h0 hl hc
    go_enter Try.func39, Try.ntmps39
    go_wp2
    go_ret
    exact ⟨_, rfl, own_nil _ _ _, Below.refl _ _⟩
  | some ad =>
    subst hA
    clear ha
    have hb1 : Below w.heap.size w (w.alloc (.cells #[] 5)) := (Below.refl _ _).alloc (Nat.le_refl _) _
    have HO : Kp ((w.alloc (.cells #[] 5)).ownsRow w.heap.size 5 1 (.slice (some ⟨w.heap.size, 0, none⟩) 0 0) 0 []) :=
      ⟨rfl, .inr ⟨w.heap.size, 0, #[], rfl, Nat.le_refl _, by show (w.heap.push _)[w.heap.size]? = _; simp, Nat.le_refl _, Nat.zero_le _, rfl, rfl⟩⟩
    have HA1 : Kp _ := ⟨HA.out.below hb1⟩
    go_enter Try.func39, Try.ntmps39
    go_wp2_with (at_builtin; refine wpList_app el8 rfl _ _ rfl w.heap.size _ 0 [] rfl HO.out (some ad) n c (cells8 l) rfl (by rw [cells8_length, HL.out]) (fun h => by cases h) HA1.out.news (cells8_one _) (by simp only [maxLen]; omega) (by omega) (by simp) ?_)
    intro v2 w2 hown2 hg2 _
    have hb2 : Below w.heap.size w w2 := hb1.trans (below_of_grown HO.out (by simp) hg2)
    have H2 : Kp (w2.ownsRow w.heap.size 5 1 v2 n (cells8 l)) := ⟨by simpa using hown2⟩
    clear hown2 hg2
    go_wp2
    go_ret
    exact ⟨_, rfl, H2.out, hb2⟩
end Go.Proofs.Ytalnbomnmmefgaa
