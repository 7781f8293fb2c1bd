/- The walks of AesFields and AesField. -/
import Derived.Test.YtleplilcpcgacaaKnown4
import Derived.Test.YtleplilcpcgacaaOpen
namespace Go.Proofs.Ytleplilcpcgacaa
open Go.RowKit

theorem box_same (a : UInt8) : boxB.getD a.toNat 0 = boxR a.toNat := map_getD _ _ _ _ a.toNat_lt
theorem box_r (a : UInt8) (w : World) : Calls Try.prog 14 #[.int .u8 a.toNat] w fun e w' => e = .returned (.int .u8 (boxR a.toNat).toNat) ∧ Below w.heap.size w w' := by
  have h := box_any a w
  rw [box_same] at h
  exact h
set_option maxRecDepth 100000 in
set_option maxHeartbeats 2000000 in
theorem walk_aesFields (a b : UInt8) (w : World) : Calls Try.prog 3 #[.int .u8 a.toNat, .int .u8 b.toNat] w fun e w' => e = .returned (.bool true) ∧ Below w.heap.size w w' := by
  have ha := a.toNat_lt
  have hb := b.toNat_lt
  have hm8 := (mulU a b).toNat_lt
  have hy8 := (boxR a.toNat).toNat_lt
  go_enter Try.func3, Try.ntmps3
  go_wp2_with fail
  refine (mul_any a b _).mono ?_
  rintro e w1 ⟨rfl, rfl⟩
  go_wp2_with fail
  refine (refmul_st a b _).mono ?_
  rintro e w2 ⟨rfl, rfl⟩
  go_wp2_with fail
  refine (box_r a _).mono ?_
  rintro e w3 ⟨rfl, hb3⟩
  go_wp2_with fail
  refine (refbox_any _).mono ?_
  rintro e w4 ⟨v, rfl, hown, hb4⟩
  have hB4 := hb3.trans (hb4.mono hb3.size)
  obtain ⟨A, c, rfl, his⟩ := Is.of_own hown
  rw [boxB_eq] at his
  have haI : (a.toNat : Int) < 256 := by omega
  obtain ⟨bb, o, rfl, _, hc⟩ := his.cell (i := a.toNat) ha
  have e1 : boxB[a.toNat]'(by rw [boxB_length]; exact ha) = boxB.getD a.toNat 0 := by simp [List.getD, List.getElem?_eq_getElem (show a.toNat < boxB.length by rw [boxB_length]; exact ha)]
  rw [e1, box_same] at hc
  clear his hown hb3 hb4 e1
  go_wp2_with fail
  refine (known4_any _).mono ?_
  rintro e w5 ⟨rfl, hb5⟩
  have hB5 := hB4.trans (hb5.mono hB4.size)
  clear hB4 hb5 hc
  go_wp2
  go_ret
  exact ⟨rfl, hB5⟩
theorem law_aesFields (x y : Int) (w : World) (hx : (Lit.int .u8 x).wf = true) (hy : (Lit.int .u8 y).wf = true) : Calls Try.prog 3 #[.int .u8 x, .int .u8 y] w fun e w' => e = .returned (.bool true) ∧ Below w.heap.size w w' := by
  have h := walk_aesFields (UInt8.ofNat x.toNat) (UInt8.ofNat y.toNat) w
  rw [byte_back hx, byte_back hy] at h
  exact h
end Go.Proofs.Ytleplilcpcgacaa
