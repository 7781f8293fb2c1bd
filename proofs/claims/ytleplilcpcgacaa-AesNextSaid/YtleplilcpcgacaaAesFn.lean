/- The contracts of package aes's small functions. -/
import Derived.Test.YtleplilcpcgacaaAesF
import Derived.Test.YtleplilcpcgacaaArr
import Derived.Test.YtleplilcpcgacaaRows
import Derived.StillTailTactics
namespace Go.Proofs.Ytleplilcpcgacaa
open Go.RowKit

theorem double_val (a : UInt8) : bits .xor .u8 ((a.toNat : Int) * 2 % 256) ((a.toNat : Int) / 2 ^ 7 * 27 % 256) = ((xt a).toNat : Int) := by
  have h : ∀ n : Nat, n < 256 → bits .xor .u8 ((n : Int) * 2 % 256) ((n : Int) / 2 ^ 7 * 27 % 256) = ((xt (UInt8.ofNat n)).toNat : Int) := by decide +kernel
  have := h a.toNat a.toNat_lt
  rwa [u8_val] at this
set_option maxHeartbeats 400000 in
theorem double_any (a : UInt8) (w : World) : Calls Try.prog 28 #[.int .u8 a.toNat] w fun e w' => e = .returned (.int .u8 (xt a).toNat) ∧ w' = w := by
  have HV : Kp _ := ⟨double_val a⟩
  go_enter Try.func28, Try.ntmps28
  go_wp2
  go_ret
  refine ⟨?_, rfl⟩
  show Ending.returned (.int .u8 _) = _
  rw [← HV.out]; rfl
set_option maxRecDepth 100000 in
set_option maxHeartbeats 400000 in
theorem len32_255 (w : World) : Calls Try.prog 45 #[.int .u32 255] w fun e w' => e = .returned (.int .i64 8) ∧ w' = w := by
  go_enter Try.func45, Try.ntmps45
  go_wp2
  go_ret
  refine ⟨?_, rfl⟩
  exact ret_eq (by kernel_rfl)
set_option maxRecDepth 100000 in
set_option maxHeartbeats 400000 in
theorem len32_max (w : World) : Calls Try.prog 45 #[.int .u32 4294967295] w fun e w' => e = .returned (.int .i64 32) ∧ w' = w := by
  go_enter Try.func45, Try.ntmps45
  go_wp2
  go_ret
  refine ⟨?_, rfl⟩
  exact ret_eq (by kernel_rfl)
theorem turn32_val (x n m : Nat) (h : m = 32 - n) : bits .or .u32 (IntKind.u32.wrap ((x : Int) * 2 ^ n)) ((x : Int) / 2 ^ m) = ((rotN x n : Nat) : Int) ∨ 4294967296 ≤ x := by
  by_cases hx : x < 4294967296
  · left
    have e1 : IntKind.u32.wrap ((x : Int) * 2 ^ n) = ((x * 2 ^ n % 4294967296 : Nat) : Int) := by rw [IntKind.wrap_u32]; simp
    have e2 : (x : Int) / 2 ^ m = ((x / 2 ^ m : Nat) : Int) := by simp
    rw [e1, e2, u32_or_nat _ _ (Nat.mod_lt _ (by decide)) (Nat.lt_of_le_of_lt (Nat.div_le_self _ _) hx), h]
    rfl
  · right; omega
theorem turn8_val (x n m : Nat) (h : m = 8 - n) (hx : x < 256) : bits .or .u8 (IntKind.u8.wrap ((x : Int) * 2 ^ n)) ((x : Int) / 2 ^ m) = ((x * 2 ^ n % 256 ||| x / 2 ^ (8 - n) : Nat) : Int) := by
  have e1 : IntKind.u8.wrap ((x : Int) * 2 ^ n) = ((x * 2 ^ n % 256 : Nat) : Int) := by rw [IntKind.wrap_u8]; simp
  have e2 : (x : Int) / 2 ^ m = ((x / 2 ^ m : Nat) : Int) := by simp
  rw [e1, e2, u8_or_nat _ _ (Nat.mod_lt _ (by decide)) (Nat.lt_of_le_of_lt (Nat.div_le_self _ _) hx), h]
set_option maxHeartbeats 400000 in
theorem turn32_any (x : UInt32) (n : Nat) (w : World) (h1 : 1 ≤ n) (h2 : n ≤ 31) :
    Calls Try.prog 39 #[.int .u32 x.toNat, .int .i64 (n : Int)] w fun e w' => e = .returned (.int .u32 (rotN x.toNat n : Nat)) ∧ ∃ q, w' = w.drewN q := by
  have hx := x.toNat_lt
  obtain ⟨m, hm⟩ : ∃ m : Nat, m = 32 - n := ⟨_, rfl⟩
  have hw : IntKind.i64.wrap (32 - (n : Int)) = (m : Int) := by rw [IntKind.wrap_i64]; omega
  have HV : Kp _ := ⟨(turn32_val x.toNat n m hm).resolve_right (by omega)⟩
  have hm2 : m ≤ 31 := by omega
  clear hm
  go_enter Try.func39, Try.ntmps39
  go_wp2_with fail
  refine wp_region_still_lit (by kernel_rfl) (by kernel_rfl) ?_
  repeat (first | still_step | still_call (len32_max _))
  try refine wpStill_nil ?_
  change Exit.then _ _ _ _ w.drew
  go_wp2
  go_ret
  refine ⟨?_, 1, rfl⟩
  show Ending.returned (.int .u32 _) = _
  rw [← HV.out]
set_option maxHeartbeats 400000 in
theorem turn8_any (x : UInt8) (n : Nat) (w : World) (h1 : 1 ≤ n) (h2 : n ≤ 7) :
    Calls Try.prog 44 #[.int .u8 x.toNat, .int .i64 (n : Int)] w fun e w' => e = .returned (.int .u8 ((x.toNat * 2 ^ n % 256 ||| x.toNat / 2 ^ (8 - n) : Nat) : Int)) ∧ ∃ q, w' = w.drewN q := by
  have hx := x.toNat_lt
  obtain ⟨m, hm⟩ : ∃ m : Nat, m = 8 - n := ⟨_, rfl⟩
  have hw : IntKind.i64.wrap (8 - (n : Int)) = (m : Int) := by rw [IntKind.wrap_i64]; omega
  have HV : Kp _ := ⟨turn8_val x.toNat n m hm hx⟩
  have hm2 : m ≤ 7 := by omega
  clear hm
  go_enter Try.func44, Try.ntmps44
  go_wp2_with fail
  refine wp_region_still_lit (by kernel_rfl) (by kernel_rfl) ?_
  repeat (first | still_step | still_call (len32_255 _))
  try refine wpStill_nil ?_
  change Exit.then _ _ _ _ w.drew
  go_wp2
  go_ret
  refine ⟨?_, 1, rfl⟩
  show Ending.returned (.int .u8 _) = _
  rw [← HV.out]
theorem row_val (x : UInt32) (r m : Nat) (h : m = 24 - 8 * r) : (x.toNat : Int) / 2 ^ m % 256 = ((by4 x r).toNat : Int) := by
  unfold by4
  rw [UInt8.toNat_ofNat', h]
  simp
set_option maxHeartbeats 400000 in
theorem row_any (x : UInt32) (r : Nat) (w : World) (h : r ≤ 3) : Calls Try.prog 43 #[.int .u32 x.toNat, .int .i64 (r : Int)] w fun e w' => e = .returned (.int .u8 (by4 x r).toNat) ∧ w' = w := by
  obtain ⟨m, hm⟩ : ∃ m : Nat, m = 24 - 8 * r := ⟨_, rfl⟩
  have HV : Kp ((x.toNat : Int) / 2 ^ (8 * (3 - r)) % 256 = ((by4 x r).toNat : Int)) := ⟨row_val x r _ (by omega)⟩
  have hw : wrap64 (8 * (3 - (r : Int))) = (m : Int) := by simp only [wrap64]; omega
  have hw2 : wrap64 (8 * wrap64 (3 - (r : Int))) = (m : Int) := by simp only [wrap64]; omega
  have hm2 : m ≤ 24 := by omega
  clear hm
  go_enter Try.func43, Try.ntmps43
  go_wp2
  go_ret
  refine ⟨?_, rfl⟩
  show Ending.returned (.int .u8 _) = _
  rw [← HV.out]
theorem dblAll_val (x : UInt32) : bits .xor .u32 (bits .and .u32 (x.toNat : Int) 2139062143 * 2 % 4294967296) (bits .and .u32 ((x.toNat : Int) / 128) 16843009 * 27 % 4294967296) = ((dblN x.toNat : Nat) : Int) := by
  have hx : x.toNat < 4294967296 := x.toNat_lt
  have e1 : (x.toNat : Int) / 128 = ((x.toNat / 2 ^ 7 : Nat) : Int) := by omega
  have e2 := u32_and_nat x.toNat 2139062143 hx (by decide)
  have e3 := u32_and_nat (x.toNat / 2 ^ 7) 16843009 (by omega) (by decide)
  rw [e1]
  rw [show ((2139062143 : Nat) : Int) = 2139062143 from rfl] at e2
  rw [show ((16843009 : Nat) : Int) = 16843009 from rfl] at e3
  rw [e2, e3]
  have e4 : ((x.toNat &&& 2139062143 : Nat) : Int) * 2 % 4294967296 = (((x.toNat &&& 2139062143) * 2 % 4294967296 : Nat) : Int) := by omega
  have e5 : ((x.toNat / 2 ^ 7 &&& 16843009 : Nat) : Int) * 27 % 4294967296 = (((x.toNat / 2 ^ 7 &&& 16843009) * 27 % 4294967296 : Nat) : Int) := by omega
  rw [e4, e5, u32_xor_nat _ _ (Nat.mod_lt _ (by decide)) (Nat.mod_lt _ (by decide))]
  rfl
set_option maxHeartbeats 400000 in
theorem dblAll_any (x : UInt32) (w : World) : Calls Try.prog 46 #[.int .u32 x.toNat] w fun e w' => e = .returned (.int .u32 (dblN x.toNat : Nat)) ∧ w' = w := by
  have HV : Kp _ := ⟨dblAll_val x⟩
  go_enter Try.func46, Try.ntmps46
  go_wp2
  go_ret
  refine ⟨?_, rfl⟩
  show Ending.returned (.int .u32 _) = _
  rw [← HV.out]
end Go.Proofs.Ytleplilcpcgacaa
