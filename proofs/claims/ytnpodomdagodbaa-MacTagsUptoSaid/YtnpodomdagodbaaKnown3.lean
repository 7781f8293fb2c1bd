/- The contract of the third chapter's known. -/
import Derived.Test.YtnpodomdagodbaaMacTags
import Derived.Test.YtnpodomdagodbaaR3Known
import Derived.Test.YtnpodomdagodbaaLit
namespace Go.Proofs.Ytnpodomdagodbaa
open Go.RowKit

theorem u8_int : (Try.prog).underlying 5 = some (.int .u8) := by kernel_rfl
def kJefe : List UInt8 := [74, 101, 102, 101]
def tWhat : List UInt8 := [119, 104, 97, 116, 32, 100, 111, 32, 121, 97, 32, 119, 97, 110, 116, 32]
def tNothing : List UInt8 := [102, 111, 114, 32, 110, 111, 116, 104, 105, 110, 103, 63]
def tBoth : List UInt8 := [119, 104, 97, 116, 32, 100, 111, 32, 121, 97, 32, 119, 97, 110, 116, 32, 102, 111, 114, 32, 110, 111, 116, 104, 105, 110, 103, 63]

set_option maxRecDepth 100000 in
set_option maxHeartbeats 2000000 in
theorem known3_any (w : World) :
    Calls Try.prog 23 #[] w fun e w' => e = .returned (.bool true) ∧ Below w.heap.size w w' := by
  go_enter Try.func23, Try.ntmps23
  go_wp2_with (with_reducible refine wpList_lit (o := ⟨some 3, _, _, _, _, _⟩) el8 u8_int (by kernel_rfl) (.tmp 2) rfl kJefe rfl 4 rfl (by decide) rfl ?_)
  intro w1 hk1 hB1
  have HK1 : Kp _ := ⟨hk1⟩
  clear hk1
  go_wp2_with (with_reducible refine wpList_lit (o := ⟨some 5, _, _, _, _, _⟩) el8 u8_int (by kernel_rfl) (.tmp 4) rfl tWhat rfl 16 rfl (by decide) rfl ?_)
  intro w2 hk2 hB2
  have HK2 : Kp _ := ⟨HK1.out.next hB2 (Nat.le_refl _)⟩
  have HA2 : Kp _ := ⟨hk2⟩
  clear hk2
  go_wp2_with (with_reducible refine wpList_lit (o := ⟨some 7, _, _, _, _, _⟩) el8 u8_int (by kernel_rfl) (.tmp 6) rfl tNothing rfl 12 rfl (by decide) rfl ?_)
  intro w3 hk3 hB3
  have HK3 : Kp _ := ⟨HK2.out.next hB3 (Nat.le_refl _)⟩
  have HA3 : Kp _ := ⟨HA2.out.next hB3 (Nat.le_refl _)⟩
  have HB3 : Kp _ := ⟨hk3⟩
  have hB13 := below_next hB1 (below_next hB2 hB3)
  clear hk3 hB1 hB2 hB3 HK1 HK2 HA2
  go_wp2_with fail
  refine (tag2 _ 4 4 kJefe _ 16 16 tWhat _ 12 12 tNothing w3 23 HK3.out HA3.out HB3.out (by decide) (by decide)).mono ?_
  rintro e w4 ⟨rfl, hB4⟩
  have e4 : tWhat ++ tNothing = tBoth := rfl
  rw [e4]
  have HJ : Kp ((cells8 (hmacL kJefe tBoth))[0]? = some (.int .u8 91) ∧ (cells8 (hmacL kJefe tBoth))[1]? = some (.int .u8 220) ∧ (cells8 (hmacL kJefe tBoth))[31]? = some (.int .u8 67)) := ⟨hmac_jefe _ rfl⟩
  have HDL : Kp _ := ⟨hmacL_length kJefe tBoth⟩
  have hB14 := below_next hB13 hB4
  clear HK3 HA3 HB3 hB13 hB4 e4
  generalize hD : hmacL kJefe tBoth = D at *
  have HD : Kp _ := ⟨hD⟩
  clear hD
  have HD32 : Kp ((cells8 D).length = 32) := ⟨by rw [cells8_length, HDL.out]⟩
  have HZ32 : Kp (zero32.length = 32) := ⟨rfl⟩
  go_wp2_with (with_reducible refine wpList_alloc (o := ⟨some 1, _, _, _, _, _⟩) tyDig rfl rfl ?_)
  intro w5 hk5 hb5 hs5
  have HK5 : Kp _ := ⟨hk5⟩
  clear hk5
  go_wp2_with (with_reducible refine wpList_storeAll (o := ⟨none, _, _, _, _, _⟩) (vs := cells8 D) rwDig rfl (.tmp 1) (.tmp 9) rfl rfl HK5.out HZ32.out HD32.out (cells8_one _) rfl ?_)
  intro w6 hk6 ho6
  have hs6 := ho6.size
  have hs4 := hB14.size
  have hc0 : w6.cell? ⟨w4.heap.size, 0, none⟩ = some (.int .u8 91) := by rw [hk6.cell? 0]; exact HJ.out.1
  have hc1 : w6.cell? ⟨w4.heap.size, 1, none⟩ = some (.int .u8 220) := by rw [hk6.cell? 1]; exact HJ.out.2.1
  have hc31 : w6.cell? ⟨w4.heap.size, 31, none⟩ = some (.int .u8 67) := by rw [hk6.cell? 31]; exact HJ.out.2.2
  have HT6 : Kp (Bs w6 w6.heap.size (some ⟨w4.heap.size, 0, none⟩) 32 32 D) := ⟨hk6.bytes (by omega) (by rw [List.drop_zero, List.take_of_length_le (by rw [HD32.out]; exact Nat.le_refl _)]) HDL.out 32 (Nat.le_refl _) (by decide)⟩
  have hB6 : Below w.heap.size w w6 := (hB14.trans (hb5.mono hs4)).trans (ho6.below hs4)
  clear hk6 ho6 HK5 hb5 hs5 hs6 HJ hB14
  go_wp2_with (with_reducible refine wpList_lit (o := ⟨some 25, _, _, _, _, _⟩) el8 u8_int (by kernel_rfl) (.tmp 24) rfl kJefe rfl 4 rfl (by decide) rfl ?_)
  intro w7 hk7 hB7
  have HK7 : Kp _ := ⟨hk7⟩
  have HT7 : Kp _ := ⟨HT6.out.next hB7 (Nat.le_refl _)⟩
  clear hk7 hc0 hc1 hc31
  go_wp2_with (with_reducible refine wpList_lit (o := ⟨some 28, _, _, _, _, _⟩) el8 u8_int (by kernel_rfl) (.tmp 27) rfl tBoth rfl 28 rfl (by decide) rfl ?_)
  intro w8 hk8 hB8
  have HM8 : Kp _ := ⟨hk8⟩
  have HK8 : Kp _ := ⟨HK7.out.next hB8 (Nat.le_refl _)⟩
  have HT8 : Kp _ := ⟨HT7.out.next hB8 (Nat.le_refl _)⟩
  have hB08 := below_next hB6 (below_next hB7 hB8)
  clear hk8 HK7 HT7 HT6 hB6 hB7 hB8
  go_wp2_with fail
  refine (check1 _ 4 4 kJefe _ 32 32 D _ 28 28 tBoth w8 23 HK8.out HT8.out HM8.out (by decide) (by decide)).mono ?_
  rintro e w9 ⟨rfl, hB9⟩
  have hB := below_next hB08 hB9
  rw [HD.out, beq_self_eq_true]
  go_wp2
  go_ret
  exact ⟨rfl, hB⟩
end Go.Proofs.Ytnpodomdagodbaa
