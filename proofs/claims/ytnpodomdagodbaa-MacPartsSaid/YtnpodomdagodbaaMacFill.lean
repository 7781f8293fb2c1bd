/- The contract of mac's fill: a block that begins with a key, or with its digest. -/
import Derived.Test.YtnpodomdagodbaaR3Tag
import Derived.Test.YtnpodomdagodbaaShaGen
import Derived.Test.YtnpodomdagodbaaMacPad
namespace Go.Proofs.Ytnpodomdagodbaa
open Go.RowKit

theorem padL_one (key : List UInt8) (h : key.length ≤ 64) : (padL key 64).length = 64 := by
  rw [padL_length, show ((64 : Int).toNat) = 64 from rfl]; omega
theorem keyL_le (key : List UInt8) : (keyL key).length ≤ 64 := by
  unfold keyL
  split
  · rw [shaL_len]; omega
  · omega

set_option maxRecDepth 100000 in
set_option maxHeartbeats 2000000 in
theorem fill_any (A : Option Addr) (n c : Nat) (key : List UInt8) (w : World) (ha : Bs w w.heap.size A n c key) (hn : n ≤ 524288) :
    Calls Try.prog 38 #[.slice A n c] w fun e w' => ∃ A' c', e = .returned (.slice A' 64 c') ∧ Bs w' w'.heap.size A' 64 c' (padL (keyL key) 64) ∧ Below w.heap.size w w' := by
  have HA : Kp _ := ⟨ha⟩
  have HN : Kp _ := ⟨ha.len⟩
  have HLen : Kp _ := ⟨padL_one (keyL key) (keyL_le key)⟩
  clear ha
  go_enter Try.func38, Try.ntmps38
  by_cases h64 : (64 : Int) < (n : Int)
  · have HK : Kp (keyL key = shaL key) := ⟨by unfold keyL; rw [if_pos (by rw [HN.out]; omega)]⟩
    go_wp2_with fail
    refine (sumf1 A n c key w _ HA.out (by rw [HN.out]; exact hn)).mono ?_
    rintro e w1 ⟨rfl, hB1⟩
    go_wp2_with (with_reducible refine wpList_alloc (o := ⟨some 3, _, _, _, _, _⟩) tyDig rfl rfl ?_)
    intro w2 hk2 hb2 hs2
    have HK2 : Kp _ := ⟨hk2⟩
    have HZ : Kp (zero32.length = 32) := ⟨rfl⟩
    have HL : Kp ((cells8 (shaL key)).length = 32) := ⟨by rw [cells8_length, shaL_len]⟩
    clear hk2
    go_wp2_with (with_reducible refine wpList_storeAll (o := ⟨none, _, _, _, _, _⟩) (vs := cells8 (shaL key)) rwDig rfl (.tmp 3) (.tmp 9) rfl rfl HK2.out HZ.out HL.out (cells8_one _) rfl ?_)
    intro w3 hk3 ho3
    have hs3 := ho3.size
    have H3 : Kp (Bs w3 w3.heap.size (some ⟨w1.heap.size, 0, none⟩) 32 32 (keyL key)) := ⟨by
      rw [HK.out]
      exact hk3.bytes (by omega) (by rw [List.drop_zero, List.take_of_length_le (by rw [HL.out]; exact Nat.le_refl _)]) (shaL_len _) 32 (Nat.le_refl _) (by decide)⟩
    have hB3 : Below w.heap.size w w3 := (hB1.trans (hb2.mono (hB1.size))).trans (ho3.below hB1.size)
    clear HK2 hk3 ho3 hb2 hB1
    go_wp2_with fail
    refine (pad_any _ 32 32 64 _ _ H3.out (by omega) (by omega)).mono ?_
    rintro e w4 ⟨v4, rfl, hown4, hB4⟩
    rw [HLen.out] at hown4
    obtain ⟨A4, c4, rfl, hbs4⟩ := Bs.of_own hown4
    have H4 : Kp _ := ⟨hbs4⟩
    have hB := hB3.trans (hB4.mono hB3.size)
    clear hown4 hbs4 hB3 hB4
    go_wp2
    go_ret
    exact ⟨_, _, rfl, H4.out, hB⟩
  · have HK : Kp (keyL key = key) := ⟨by unfold keyL; rw [if_neg (by rw [HN.out]; omega)]⟩
    go_wp2_with fail
    refine (pad_any A n c 64 _ _ HA.out (by omega) (by omega)).mono ?_
    rintro e w4 ⟨v4, rfl, hown4, hB4⟩
    rw [← HK.out, HLen.out] at hown4
    obtain ⟨A4, c4, rfl, hbs4⟩ := Bs.of_own hown4
    have H4 : Kp _ := ⟨hbs4⟩
    clear hown4 hbs4
    go_wp2
    go_ret
    exact ⟨_, _, rfl, H4.out, hB4⟩
end Go.Proofs.Ytnpodomdagodbaa
