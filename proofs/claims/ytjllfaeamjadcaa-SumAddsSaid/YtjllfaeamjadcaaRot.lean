/- The contracts of package sha's small functions on words. -/
import Derived.Test.YtjllfaeamjadcaaEl
import Derived.Test.YtjllfaeamjadcaaShaPure
namespace Go.Proofs.Ytjllfaeamjadcaa
open Go.RowKit

theorem and31 (n : Nat) (h1 : 1 ≤ n) (h2 : n ≤ 31) : bits .and .u64 (IntKind.u64.wrap (-(n : Int))) 31 = ((32 - n : Nat) : Int) := by
  have e1 : IntKind.u64.wrap (-(n : Int)) = ((18446744073709551616 - n : Nat) : Int) := by
    rw [IntKind.wrap_u64]; omega
  rw [e1]
  have := u64_and_nat (18446744073709551616 - n) 31 (by omega) (by omega)
  rw [show ((31 : Nat) : Int) = (31 : Int) from rfl] at this
  rw [this]
  have e2 : (18446744073709551616 - n) &&& 31 = (18446744073709551616 - n) % 32 := Nat.and_two_pow_sub_one_eq_mod _ 5
  rw [e2]
  congr 1
  omega

theorem turnR_val' (x : UInt32) (n : Nat) : bits .or .u32 ((x.toNat : Int) * 2 ^ (32 - n) % 4294967296) ((x.toNat : Int) / 2 ^ n) = ((turnR x n).toNat : Int) := by
  rw [← turnR_val x n]
  have h1 : (x.toNat : Int) / 2 ^ n = ((x.toNat / 2 ^ n : Nat) : Int) := by simp
  have h2 : (x.toNat : Int) * 2 ^ (32 - n) % 4294967296 = ((x.toNat * 2 ^ (32 - n) % 4294967296 : Nat) : Int) := by simp
  rw [h1, h2]
  have l1 : x.toNat / 2 ^ n < 4294967296 := Nat.lt_of_le_of_lt (Nat.div_le_self _ _) x.toNat_lt
  have l2 : x.toNat * 2 ^ (32 - n) % 4294967296 < 4294967296 := Nat.mod_lt _ (by decide)
  rw [u32_or_nat _ _ l2 l1, u32_or_nat _ _ l1 l2, Nat.or_comm]

set_option maxHeartbeats 400000 in
theorem rot_any (x : UInt32) (n : Nat) (w : World) (h1 : 1 ≤ n) (h2 : n ≤ 31) :
    Calls Try.prog 65 #[.int .u32 x.toNat, .int .i64 (-(n : Int))] w fun e w' => e = .returned (.int .u32 (turnR x n).toNat) ∧ w' = w := by
  have hx : (x.toNat : Int) < 4294967296 := by have := x.toNat_lt; omega
  have HT := Lib.hid (turnR_val x n)
  have ha := and31 n h1 h2
  obtain ⟨m, hm⟩ : ∃ m : Nat, m = 32 - n := ⟨_, rfl⟩
  rw [← hm] at ha
  have hm1 : 1 ≤ m := by omega
  have hm2 : m ≤ 31 := by omega
  have HM := Lib.hid hm
  clear hm
  go_enter Try.func65, Try.ntmps65
  go_wp2
  go_ret
  refine ⟨?_, rfl⟩
  show Ending.returned (.int .u32 _) = _
  rw [HM.out, show 32 - (32 - n) = n by omega, turnR_val' x n]

set_option maxHeartbeats 400000 in
theorem turnp_any (x : UInt32) (n : Nat) (w : World) (h1 : 1 ≤ n) (h2 : n ≤ 31) :
    Calls Try.prog 64 #[.int .u32 x.toNat, .int .i64 (n : Int)] w fun e w' => e = .returned (.int .u32 (turnR x n).toNat) ∧ w' = w := by
  go_enter Try.func64, Try.ntmps64
  go_wp2_with fail
  refine (rot_any x n _ h1 h2).mono ?_
  rintro e w' ⟨rfl, rfl⟩
  go_wp2
  go_ret
  exact ⟨rfl, rfl⟩

theorem xor3u (p q r : UInt32) (z : Int) (hz : z = (r.toNat : Int)) : bits .xor .u32 (bits .xor .u32 (p.toNat : Int) (q.toNat : Int)) z = ((p ^^^ q ^^^ r).toNat : Int) := by
  rw [hz, u32_xor', u32_xor']
theorem ch_bits (x y z : UInt32) : (x &&& y) ^^^ ((4294967295 ^^^ x) &&& z) = chR x y z := by
  unfold chR
  apply UInt32.eq_of_toBitVec_eq
  apply BitVec.eq_of_getLsbD_eq
  intro i hi
  simp only [UInt32.toBitVec_xor, UInt32.toBitVec_and, UInt32.toBitVec_or, BitVec.getLsbD_xor, BitVec.getLsbD_and, BitVec.getLsbD_or]
  generalize x.toBitVec.getLsbD i = a
  generalize y.toBitVec.getLsbD i = b
  generalize z.toBitVec.getLsbD i = c
  have : (4294967295 : UInt32).toBitVec.getLsbD i = true := by
    show (BitVec.allOnes 32).getLsbD i = true
    rw [BitVec.getLsbD_allOnes]; simpa using hi
  rw [this]
  cases a <;> cases b <;> cases c <;> rfl
theorem mj_bits (x y z : UInt32) : (x &&& y) ^^^ (x &&& z) ^^^ (y &&& z) = mjR x y z := by
  unfold mjR
  apply UInt32.eq_of_toBitVec_eq
  apply BitVec.eq_of_getLsbD_eq
  intro i hi
  simp only [UInt32.toBitVec_xor, UInt32.toBitVec_and, UInt32.toBitVec_or, BitVec.getLsbD_xor, BitVec.getLsbD_and, BitVec.getLsbD_or]
  generalize x.toBitVec.getLsbD i = a
  generalize y.toBitVec.getLsbD i = b
  generalize z.toBitVec.getLsbD i = c
  cases a <;> cases b <;> cases c <;> rfl
theorem ch_val (x y z : UInt32) : bits .xor .u32 (bits .and .u32 (x.toNat : Int) (y.toNat : Int)) (bits .and .u32 (bits .xor .u32 IntKind.u32.max (x.toNat : Int)) (z.toNat : Int)) = ((chR x y z).toNat : Int) := by
  have e0 : IntKind.u32.max = (((4294967295 : UInt32).toNat : Nat) : Int) := rfl
  rw [e0, u32_xor', u32_and', u32_and', u32_xor', ch_bits]
theorem mj_val (x y z : UInt32) : bits .xor .u32 (bits .xor .u32 (bits .and .u32 (x.toNat : Int) (y.toNat : Int)) (bits .and .u32 (x.toNat : Int) (z.toNat : Int))) (bits .and .u32 (y.toNat : Int) (z.toNat : Int)) = ((mjR x y z).toNat : Int) := by
  rw [u32_and', u32_and', u32_and', u32_xor', u32_xor', mj_bits]

section
set_option maxHeartbeats 400000
theorem big1_any (x : UInt32) (w : World) : Calls Try.prog 57 #[.int .u32 x.toNat] w fun e w' => e = .returned (.int .u32 (big1 x).toNat) ∧ w' = w := by
  go_enter Try.func57, Try.ntmps57
  go_wp2_with (go_at_call 64; refine (turnp_any _ _ _ (by decide) (by decide)).mono ?_; rintro e w' ⟨rfl, rfl⟩)
  go_ret
  refine ⟨?_, rfl⟩
  show Ending.returned (.int .u32 _) = _
  rw [xor3u _ _ _ _ rfl]
  rfl
theorem big0_any (x : UInt32) (w : World) : Calls Try.prog 59 #[.int .u32 x.toNat] w fun e w' => e = .returned (.int .u32 (big0 x).toNat) ∧ w' = w := by
  go_enter Try.func59, Try.ntmps59
  go_wp2_with (go_at_call 64; refine (turnp_any _ _ _ (by decide) (by decide)).mono ?_; rintro e w' ⟨rfl, rfl⟩)
  go_ret
  refine ⟨?_, rfl⟩
  show Ending.returned (.int .u32 _) = _
  rw [xor3u _ _ _ _ rfl]
  rfl
theorem sig0_any (x : UInt32) (w : World) : Calls Try.prog 63 #[.int .u32 x.toNat] w fun e w' => e = .returned (.int .u32 (sig0 x).toNat) ∧ w' = w := by
  go_enter Try.func63, Try.ntmps63
  go_wp2_with (go_at_call 64; refine (turnp_any _ _ _ (by decide) (by decide)).mono ?_; rintro e w' ⟨rfl, rfl⟩)
  go_ret
  refine ⟨?_, rfl⟩
  show Ending.returned (.int .u32 _) = _
  rw [xor3u _ _ _ _ (u32_shr3 x)]
  rfl
theorem sig1_any (x : UInt32) (w : World) : Calls Try.prog 62 #[.int .u32 x.toNat] w fun e w' => e = .returned (.int .u32 (sig1 x).toNat) ∧ w' = w := by
  go_enter Try.func62, Try.ntmps62
  go_wp2_with (go_at_call 64; refine (turnp_any _ _ _ (by decide) (by decide)).mono ?_; rintro e w' ⟨rfl, rfl⟩)
  go_ret
  refine ⟨?_, rfl⟩
  show Ending.returned (.int .u32 _) = _
  rw [xor3u _ _ _ _ (u32_shr10 x)]
  rfl
theorem choose_any (x y z : UInt32) (w : World) : Calls Try.prog 58 #[.int .u32 x.toNat, .int .u32 y.toNat, .int .u32 z.toNat] w fun e w' => e = .returned (.int .u32 (chR x y z).toNat) ∧ w' = w := by
  go_enter Try.func58, Try.ntmps58
  go_wp2
  go_ret
  refine ⟨?_, rfl⟩
  show Ending.returned (.int .u32 _) = _
  rw [ch_val]
theorem most_any (x y z : UInt32) (w : World) : Calls Try.prog 60 #[.int .u32 x.toNat, .int .u32 y.toNat, .int .u32 z.toNat] w fun e w' => e = .returned (.int .u32 (mjR x y z).toNat) ∧ w' = w := by
  go_enter Try.func60, Try.ntmps60
  go_wp2
  go_ret
  refine ⟨?_, rfl⟩
  show Ending.returned (.int .u32 _) = _
  rw [mj_val]
end
end Go.Proofs.Ytjllfaeamjadcaa
