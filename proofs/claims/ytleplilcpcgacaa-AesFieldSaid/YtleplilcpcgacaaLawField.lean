/- The walk of AesField. -/
import Derived.Test.YtleplilcpcgacaaKnown4
import Derived.Test.YtleplilcpcgacaaOpen
namespace Go.Proofs.Ytleplilcpcgacaa
open Go.RowKit

theorem mul_c1 (a : UInt8) (w : World) : Calls Try.prog 12 #[.int .u8 a.toNat, .int .u8 1] w fun e w' => e = .returned (.int .u8 a.toNat) ∧ w' = w := by
  have h := mul_any a 1 w
  rw [mulU_one] at h
  exact h
theorem mul_c0 (a : UInt8) (w : World) : Calls Try.prog 12 #[.int .u8 a.toNat, .int .u8 0] w fun e w' => e = .returned (.int .u8 0) ∧ w' = w := by
  have h := mul_any a 0 w
  rw [(mulU_zero_iff a 0).2 (.inr rfl)] at h
  exact h
theorem mul_0b (b : UInt8) (w : World) : Calls Try.prog 12 #[.int .u8 0, .int .u8 b.toNat] w fun e w' => e = .returned (.int .u8 0) ∧ w' = w := by
  have h := mul_any 0 b w
  rw [(mulU_zero_iff 0 b).2 (.inl rfl)] at h
  exact h
theorem u8_eq0 (x : UInt8) : ((x.toNat : Int) == 0) = (x == 0) := by
  rw [Bool.eq_iff_iff, beq_iff_eq, beq_iff_eq]
  constructor
  · intro h; exact UInt8.toNat_inj.1 (by rw [show (0 : UInt8).toNat = 0 from rfl]; omega)
  · intro h; rw [h]; rfl
set_option maxRecDepth 100000 in
set_option maxHeartbeats 4000000 in
theorem walk_aesField (a b c : UInt8) (w : World) : Calls Try.prog 9 #[.int .u8 a.toNat, .int .u8 b.toNat, .int .u8 c.toNat] w fun e w' => e = .returned (.bool true) ∧ Below w.heap.size w w' := by
  have HX : Kp _ := ⟨u8_xor' b c⟩
  have HX2 : Kp _ := ⟨u8_xor' (mulU a b) (mulU a c)⟩
  have HD : Kp _ := ⟨mulU_xor_right a b c⟩
  go_enter Try.func9, Try.ntmps9
  go_wp2_with fail
  refine (mul_any a b _).mono ?_
  rintro e w1 ⟨rfl, rfl⟩
  go_wp2_with fail
  refine (mul_any b a _).mono ?_
  rintro e w1 ⟨rfl, rfl⟩
  rw [mulU_comm b a]
  go_wp2_with fail
  refine (mul_any b c _).mono ?_
  rintro e w1 ⟨rfl, rfl⟩
  go_wp2_with fail
  refine (mul_any a (mulU b c) _).mono ?_
  rintro e w1 ⟨rfl, rfl⟩
  rw [mulU_assoc a b c]
  go_wp2_with fail
  refine (mul_any a b _).mono ?_
  rintro e w1 ⟨rfl, rfl⟩
  go_wp2_with fail
  refine (mul_any (mulU a b) c _).mono ?_
  rintro e w1 ⟨rfl, rfl⟩
  go_wp2_with fail
  rw [HX.out]
  refine (mul_any a (b ^^^ c) _).mono ?_
  rintro e w1 ⟨rfl, rfl⟩
  rw [HD.out]
  go_wp2_with fail
  refine (mul_any a b _).mono ?_
  rintro e w1 ⟨rfl, rfl⟩
  go_wp2_with fail
  refine (mul_any a c _).mono ?_
  rintro e w1 ⟨rfl, rfl⟩
  have hx2 := HX2.out
  go_wp2_with fail
  refine (mul_c1 a _).mono ?_
  rintro e w1 ⟨rfl, rfl⟩
  go_wp2_with fail
  refine (mul_c0 a _).mono ?_
  rintro e w1 ⟨rfl, rfl⟩
  clear hx2
  by_cases h0 : a = 0
  · have ha : ((a.toNat : Int) == 0) = true := by rw [u8_eq0, h0]; rfl
    go_wp2_with fail

    refine (mul_0b b _).mono ?_
    rintro e w1 ⟨rfl, rfl⟩
    go_wp2_with fail
    refine (known4_any _).mono ?_
    rintro e w5 ⟨rfl, hb5⟩
    go_wp2
    go_ret
    exact ⟨rfl, hb5⟩
  · have ha : ((a.toNat : Int) == 0) = false := by rw [u8_eq0]; simpa using h0
    by_cases h1 : b = 0
    · have hb : ((b.toNat : Int) == 0) = true := by rw [u8_eq0, h1]; rfl
      go_wp2_with fail
      refine (mul_c0 a _).mono ?_
      rintro e w1 ⟨rfl, rfl⟩
      go_wp2_with fail
      refine (known4_any _).mono ?_
      rintro e w5 ⟨rfl, hb5⟩
      go_wp2
      go_ret
      exact ⟨rfl, hb5⟩
    · have hb : ((b.toNat : Int) == 0) = false := by rw [u8_eq0]; simpa using h1
      have hm : (((mulU a b).toNat : Int) == 0) = false := by
        rw [u8_eq0]
        have := mt (mulU_zero_iff a b).1 (by simp [h0, h1])
        simpa using this
      go_wp2_with fail
      refine (mul_any a b _).mono ?_
      rintro e w1 ⟨rfl, rfl⟩
      go_wp2_with fail
      refine (known4_any _).mono ?_
      rintro e w5 ⟨rfl, hb5⟩
      go_wp2
      go_ret
      exact ⟨rfl, hb5⟩
theorem law_aesField (x y z : Int) (w : World) (hx : (Lit.int .u8 x).wf = true) (hy : (Lit.int .u8 y).wf = true) (hz : (Lit.int .u8 z).wf = true) : Calls Try.prog 9 #[.int .u8 x, .int .u8 y, .int .u8 z] w fun e w' => e = .returned (.bool true) ∧ Below w.heap.size w w' := by
  have h := walk_aesField (UInt8.ofNat x.toNat) (UInt8.ofNat y.toNat) (UInt8.ofNat z.toNat) w
  rw [byte_back hx, byte_back hy, byte_back hz] at h
  exact h
end Go.Proofs.Ytleplilcpcgacaa
