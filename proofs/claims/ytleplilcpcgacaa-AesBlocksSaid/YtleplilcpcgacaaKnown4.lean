/- The contract of sacristanlaw04's known: what the chapter's example fixes. -/
import Derived.Test.YtleplilcpcgacaaR4Xor
namespace Go.Proofs.Ytleplilcpcgacaa
open Go.RowKit

theorem mul_known (w : World) : Calls Try.prog 12 #[.int .u8 87, .int .u8 131] w fun e w' => e = .returned (.int .u8 193) ∧ w' = w := by
  have h := mul_any 87 131 w
  have e : mulU 87 131 = 193 := by decide +kernel
  rw [e] at h
  exact h
theorem boxR_zero : boxB.getD 0 0 = 99 ∧ boxB.getD 83 0 = 237 := by
  unfold boxB
  rw [map_getD _ _ _ _ (by decide), map_getD _ _ _ _ (by decide)]
  decide +kernel
theorem box_zero (w : World) : Calls Try.prog 14 #[.int .u8 0] w fun e w' => e = .returned (.int .u8 99) ∧ Below w.heap.size w w' := by
  have h := box_any 0 w
  rw [show (0 : UInt8).toNat = 0 from rfl, boxR_zero.1] at h
  exact h
theorem box_83 (w : World) : Calls Try.prog 14 #[.int .u8 83] w fun e w' => e = .returned (.int .u8 237) ∧ Below w.heap.size w w' := by
  have h := box_any 83 w
  rw [show (83 : UInt8).toNat = 83 from rfl, boxR_zero.2] at h
  exact h
set_option maxHeartbeats 1000000 in
theorem stream_none (at' : List Value) (n : Int) (w : World) : Calls Try.prog 24 #[.pointer none, .agg at'.toArray, .int .i64 n] w fun e w' => e = .returned (.slice none 0 0) ∧ Below w.heap.size w w' := by
  go_enter Try.func24, Try.ntmps24
  go_wp2_with (refine wpList_box (o := ⟨some 4, _, _, _, _, _⟩) rfl (.tmp 1) rfl rfl ?_)
  intro w1 hk1 hb1 hs1
  clear hk1 hs1
  go_wp2
  go_step3
  go_wp2
  try rw [Exit.noGoto_ret]
  go_ret
  exact ⟨rfl, hb1⟩
set_option maxRecDepth 100000 in
set_option maxHeartbeats 1000000 in
theorem known4_any (w : World) : Calls Try.prog 16 #[] w fun e w' => e = .returned (.bool true) ∧ Below w.heap.size w w' := by
  go_enter Try.func16, Try.ntmps16
  go_wp2_with fail
  refine (mul_known _).mono ?_
  rintro e w1 ⟨rfl, rfl⟩
  go_wp2_with fail
  refine (box_zero _).mono ?_
  rintro e w2 ⟨rfl, hb2⟩
  go_wp2_with fail
  refine (box_83 _).mono ?_
  rintro e w3 ⟨rfl, hb3⟩
  have hB3 := hb2.trans (hb3.mono hb2.size)
  clear hb2 hb3
  go_wp2_with fail
  refine (stream_none zero16 5 _).mono ?_
  rintro e w4 ⟨rfl, hb4⟩
  have hB4 := hB3.trans (hb4.mono hB3.size)
  clear hB3 hb4
  go_wp2
  try rw [Exit.noGoto_ret]
  go_ret
  exact ⟨rfl, hB4⟩
end Go.Proofs.Ytleplilcpcgacaa
