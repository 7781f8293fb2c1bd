/- The walk of ShaSums. -/
import Derived.Test.YtnpodomdagodbaaKnown2
import Derived.Test.YtnpodomdagodbaaR2Sum
import Derived.Test.YtnpodomdagodbaaR1Join
namespace Go.Proofs.Ytnpodomdagodbaa
open Go.RowKit

set_option maxRecDepth 100000 in
set_option maxHeartbeats 1000000 in
theorem walk_shaSums (A : Option Addr) (n c : Nat) (ls : List (List UInt8)) (w : World) (ha : Ls w w.heap.size A n c ls) (hn : n ≤ 1048576) (hf : ls.flatten.length ≤ 1048576) :
    Calls Try.prog 3 #[.slice A n c] w fun e w' => e = .returned (.bool true) ∧ Below w.heap.size w w' := by
  have HA : Kp _ := ⟨ha⟩
  have HF : Kp _ := ⟨hf⟩
  clear ha hf
  go_enter Try.func3, Try.ntmps3
  go_wp2_with fail
  refine (refjoin_any A n c ls w HA.out (by have := HF.out; omega)).mono ?_
  rintro e w1 ⟨v1, rfl, hown1, hB1⟩
  obtain ⟨A1, c1, rfl, hbs1⟩ := Bs.of_own hown1
  have HJ : Kp _ := ⟨hbs1⟩
  have HA1 : Kp _ := ⟨HA.out.next hB1 (Nat.le_refl _)⟩
  obtain ⟨L, hL⟩ : ∃ L, L = ls.flatten.length := ⟨_, rfl⟩
  rw [← hL] at HJ ⊢
  have HL : Kp _ := ⟨hL⟩
  clear hown1 hbs1 HA HF hL
  by_cases h1 : (1500 : Int) < (L : Int)
  · go_wp2_with fail
    refine (known2_any _).mono ?_
    rintro e w2 ⟨rfl, hB2⟩
    go_wp2
    go_ret
    exact ⟨rfl, below_next hB1 hB2⟩
  · by_cases h2 : (100 : Int) < (n : Int)
    · go_wp2_with fail
      refine (known2_any _).mono ?_
      rintro e w2 ⟨rfl, hB2⟩
      go_wp2
      go_ret
      exact ⟨rfl, below_next hB1 hB2⟩
    · go_wp2_with fail
      refine (sumf_any A n c ls _ HA1.out (by have := HL.out; omega)).mono ?_
      rintro e w2 ⟨rfl, hB2⟩
      have HJ2 : Kp _ := ⟨HJ.out.next hB2 (Nat.le_refl _)⟩
      have hB12 := below_next hB1 hB2
      go_wp2_with fail
      refine (refsum_any A1 L c1 ls.flatten _ HJ2.out (by omega)).mono ?_
      rintro e w3 ⟨rfl, hB3⟩
      have hB13 := below_next hB12 hB3
      have heq := eql_self (shaL ls.flatten) (shaL_length _)
      generalize shaL ls.flatten = D at *
      clear hB1 hB2 hB3 hB12
      go_wp2_with fail
      refine (known2_any _).mono ?_
      rintro e w4 ⟨rfl, hB4⟩
      go_wp2
      go_ret
      exact ⟨rfl, below_next hB13 hB4⟩
theorem law_shaSums (A : Option Addr) (n c : Nat) (ls : List (List UInt8)) (w : World) (ha : Ls w w.heap.size A n c ls) (hn : n ≤ 1048576) (hf : ls.flatten.length ≤ 1048576) :
    Calls Try.prog 3 #[.slice A n c] w fun e w' => e = .returned (.bool true) ∧ Below w.heap.size w w' := walk_shaSums A n c ls w ha hn hf

end Go.Proofs.Ytnpodomdagodbaa
