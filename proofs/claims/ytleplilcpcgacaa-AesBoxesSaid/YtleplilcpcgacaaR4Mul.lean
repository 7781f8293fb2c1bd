/- The contract of sacristanref04's Mul. -/
import Derived.Test.YtleplilcpcgacaaAesPure
import Derived.Test.YtleplilcpcgacaaI64
import Derived.Test.YtleplilcpcgacaaRows
namespace Go.Proofs.Ytleplilcpcgacaa
open Go.RowKit

section
attribute [local go_sem] i64_xor8
set_option maxHeartbeats 1000000 in
theorem refmul_any (x y : UInt8) (w : World) :
    Calls Try.prog 13 #[.int .i64 x.toNat, .int .i64 y.toNat] w fun e w' => e = .returned (.int .i64 (mulU x y).toNat) ∧ w = w' := by
  go_enter Try.func13, Try.ntmps13
  go_wp2
  go_loopw [0, 1, 5, 6] (fun va vb vn vi wr => ∃ (k : Nat) (a b n : UInt8), k ≤ 8 ∧ vi = .int .i64 k ∧ va = .int .i64 a.toNat ∧ vb = .int .i64 b.toNat ∧ vn = .int .i64 n.toNat ∧ Kp (mulIt x y k = ⟨n, a, b⟩) ∧ w = wr) (fun _ _ _ vi _ => 8 - (intOf vi).toNat)
  case atStart => exact ⟨0, x, y, 0, by omega, rfl, rfl, rfl, rfl, ⟨rfl⟩, rfl⟩
  case round =>
    obtain ⟨k, a, b, n, hk, rfl, rfl, rfl, rfl, HM, rfl⟩ := hrel
    by_cases hlt : k < 8
    · have ha8 := a.toNat_lt
      have hb8 := b.toNat_lt
      have hn8 := n.toNat_lt
      have hv2 := half_val b
      have HS : Kp (mulIt x y (k + 1) = ⟨if b.toNat % 2 = 1 then n ^^^ a else n, xt a, half b⟩) := ⟨by show mulStep (mulIt x y k) = _; rw [HM.out]; rfl⟩
      by_cases hodd : b.toNat % 2 = 1
      · have ho : ((b.toNat : Int) % 2 == 1) = true := by rw [beq_iff_eq]; omega
        have HS2 : Kp (mulIt x y (k + 1) = ⟨n ^^^ a, xt a, half b⟩) := ⟨by rw [HS.out, if_pos hodd]⟩
        by_cases hhi : 128 ≤ a.toNat
        · have hge : (256 : Int) ≤ 2 * (a.toNat : Int) := by omega
          have hxv : bits .xor .i64 (2 * (a.toNat : Int)) 283 = ((xt a).toNat : Int) := by
            have h := i64_xor_nat (2 * a.toNat) 283 (by omega) (by omega)
            rw [xt_high a hhi] at h
            exact h
          clear hodd HS HM hhi
          generalize xt a = z at *
          generalize half b = z2 at *
          go_wp2
          go_roundw
          case rel => exact ⟨k + 1, z, z2, n ^^^ a, by omega, by go_num, rfl, rfl, rfl, HS2, by first | trivial | rfl⟩
          case measure => simp [intOf]; omega
        · have hge : ¬ (256 : Int) ≤ 2 * (a.toNat : Int) := by omega
          have hxv := xt_low a (by omega)
          have hge2 : ¬ (256 : Int) ≤ ((xt a).toNat : Int) := by have := (xt a).toNat_lt; omega
          clear hge
          clear hodd HS HM hhi
          generalize xt a = z at *
          generalize half b = z2 at *
          go_wp2
          go_roundw
          case rel => exact ⟨k + 1, z, z2, n ^^^ a, by omega, by go_num, rfl, rfl, rfl, HS2, by first | trivial | rfl⟩
          case measure => simp [intOf]; omega
      · have ho : ((b.toNat : Int) % 2 == 1) = false := by rw [beq_eq_false_iff_ne]; omega
        have HS2 : Kp (mulIt x y (k + 1) = ⟨n, xt a, half b⟩) := ⟨by rw [HS.out, if_neg hodd]⟩
        by_cases hhi : 128 ≤ a.toNat
        · have hge : (256 : Int) ≤ 2 * (a.toNat : Int) := by omega
          have hxv : bits .xor .i64 (2 * (a.toNat : Int)) 283 = ((xt a).toNat : Int) := by
            have h := i64_xor_nat (2 * a.toNat) 283 (by omega) (by omega)
            rw [xt_high a hhi] at h
            exact h
          clear hodd HS HM hhi
          generalize xt a = z at *
          generalize half b = z2 at *
          go_wp2
          go_roundw
          case rel => exact ⟨k + 1, z, z2, n, by omega, by go_num, rfl, rfl, rfl, HS2, by first | trivial | rfl⟩
          case measure => simp [intOf]; omega
        · have hge : ¬ (256 : Int) ≤ 2 * (a.toNat : Int) := by omega
          have hxv := xt_low a (by omega)
          have hge2 : ¬ (256 : Int) ≤ ((xt a).toNat : Int) := by have := (xt a).toNat_lt; omega
          clear hge
          clear hodd HS HM hhi
          generalize xt a = z at *
          generalize half b = z2 at *
          go_wp2
          go_roundw
          case rel => exact ⟨k + 1, z, z2, n, by omega, by go_num, rfl, rfl, rfl, HS2, by first | trivial | rfl⟩
          case measure => simp [intOf]; omega
    · obtain rfl : k = 8 := by omega
      have HR : Kp (mulU x y = n) := ⟨by unfold mulU; rw [HM.out]⟩
      go_wp2
      go_ret
      exact ⟨by rw [HR.out]; rfl, rfl⟩
end
theorem refmul_st (x y : UInt8) (w : World) : Calls Try.prog 13 #[.int .i64 x.toNat, .int .i64 y.toNat] w fun e w' => e = .returned (.int .i64 (mulU x y).toNat) ∧ w' = w :=
  (refmul_any x y w).mono fun _ _ h => ⟨h.1, h.2.symm⟩
end Go.Proofs.Ytleplilcpcgacaa
