/- The contract of package aes's Mul, and the box as a list. -/
import Derived.Test.YtleplilcpcgacaaAesFn
import Derived.Test.YtleplilcpcgacaaR4Box
import Derived.Deep.LoopGhost
import Derived.WalkMore
namespace Go.Proofs.Ytleplilcpcgacaa
open Go.RowKit

theorem Only.drewN {g : Nat} {w w' : World} (h : Only g w w') (n : Nat) : Only g w (w'.drewN n) := ⟨h.os, h.tape, h.output, h.size, h.block⟩
theorem below_drewN' {B : Nat} {w w' : World} (h : Below B w w') (n : Nat) : Below B w (w'.drewN n) := ⟨h.os, h.tape, h.output, h.size, h.block⟩

theorem u8_xor' (a b : UInt8) : bits .xor .u8 (a.toNat : Int) (b.toNat : Int) = ((a ^^^ b).toNat : Int) := by
  rw [u8_xor_nat _ _ a.toNat_lt b.toNat_lt, UInt8.toNat_xor]
section
attribute [local go_sem] u8_xor'
set_option maxHeartbeats 1000000 in
theorem mul_any (x y : UInt8) (w : World) :
    Calls Try.prog 12 #[.int .u8 x.toNat, .int .u8 y.toNat] w fun e w' => e = .returned (.int .u8 (mulU x y).toNat) ∧ w' = w := by
  go_enter Try.func12, Try.ntmps12
  go_wp2
  go_loopw [0, 5, 7] (fun va vn vi wr => ∃ (k : Nat) (a n : UInt8), k ≤ 8 ∧ vi = .int .i64 k ∧ va = .int .u8 a.toNat ∧ vn = .int .u8 n.toNat ∧ Kp ((mulIt x y k).n = n ∧ (mulIt x y k).a = a) ∧ wr = w) (fun _ _ vi _ => 8 - (intOf vi).toNat)
  case atStart => exact ⟨0, x, 0, by omega, rfl, rfl, rfl, ⟨rfl, rfl⟩, rfl⟩
  case round =>
    obtain ⟨k, a, n, hk, rfl, rfl, rfl, HM, rfl⟩ := hrel
    by_cases hlt : k < 8
    · have hkI : (k : Int) < 8 := by omega
      have hk8 : (8 : Int) ≤ (k : Int) → False := by omega
      have hbit : bits .and .u8 ((y.toNat : Int) / 2 ^ k) 1 = ((y.toNat / 2 ^ k % 2 : Nat) : Int) := by
        have e1 : (y.toNat : Int) / 2 ^ k = ((y.toNat / 2 ^ k : Nat) : Int) := by simp
        have h := u8_and_nat (y.toNat / 2 ^ k) 1 (Nat.lt_of_le_of_lt (Nat.div_le_self _ _) y.toNat_lt) (by decide)
        rw [Nat.and_one_is_mod] at h
        rw [e1]; exact h
      have HS : Kp ((mulIt x y (k + 1)).n = (if y.toNat / 2 ^ k % 2 = 1 then n ^^^ a else n) ∧ (mulIt x y (k + 1)).a = xt a) := ⟨by
        have e : mulIt x y (k + 1) = mulStep (mulIt x y k) := rfl
        rw [e]
        simp only [mulStep, HM.out.1, HM.out.2, mulIt_b, and_self]⟩
      by_cases hodd : y.toNat / 2 ^ k % 2 = 1
      · rw [hodd] at hbit
        rw [if_pos hodd] at HS
        clear hodd HM
        generalize hz : xt a = z at HS
        have HZ : Kp _ := ⟨hz⟩
        clear hz
        go_wp2_with (go_at_call 28; refine (double_any _ _).mono ?_; rintro e w' ⟨rfl, rfl⟩)
        rw [HZ.out]
        go_wp2
        go_roundw
        case rel => exact ⟨k + 1, z, n ^^^ a, by omega, by go_num, rfl, rfl, HS, by first | trivial | rfl⟩
        case measure => simp [intOf]; omega
      · have hz0 : y.toNat / 2 ^ k % 2 = 0 := by omega
        rw [hz0] at hbit
        rw [if_neg hodd] at HS
        clear hodd HM hz0
        generalize hz : xt a = z at HS
        have HZ : Kp _ := ⟨hz⟩
        clear hz
        go_wp2_with (go_at_call 28; refine (double_any _ _).mono ?_; rintro e w' ⟨rfl, rfl⟩)
        rw [HZ.out]
        go_wp2
        go_roundw
        case rel => exact ⟨k + 1, z, n, by omega, by go_num, rfl, rfl, HS, by first | trivial | rfl⟩
        case measure => simp [intOf]; omega
    · obtain rfl : k = 8 := by omega
      have HR : Kp (mulU x y = n) := ⟨HM.out.1⟩
      go_wp2
      go_ret
      exact ⟨by rw [HR.out]; rfl, rfl⟩
end
def invIt (c : UInt8) : Nat → UInt8 × UInt8
  | 0 => (c, 1)
  | k + 1 => (mulU (invIt c k).1 (invIt c k).1, mulU (invIt c k).2 (mulU (invIt c k).1 (invIt c k).1))
/-- a row that is being filled -/
def fillU (f : Nat → UInt8) (n k : Nat) : List UInt8 := (List.range n).map fun j => if j < k then f j else 0
theorem fillU_length (f : Nat → UInt8) (n k : Nat) : (fillU f n k).length = n := by simp [fillU]
theorem fillU_set (f : Nat → UInt8) (n k : Nat) : (cells8 (fillU f n k)).set k (.int .u8 ((f k).toNat : Int)) = cells8 (fillU f n (k + 1)) := by
  have e : (fillU f n k).set k (f k) = fillU f n (k + 1) := by
    refine List.ext_getElem (by rw [List.length_set, fillU_length, fillU_length]) fun i h1 h2 => ?_
    rw [List.getElem_set]
    simp only [fillU, List.getElem_map, List.getElem_range]
    by_cases hi : k = i
    · subst hi; simp
    · rw [if_neg hi]
      by_cases h3 : i < k
      · rw [if_pos h3, if_pos (by omega)]
      · rw [if_neg h3, if_neg (by omega)]
  rw [← e]
  unfold cells8
  rw [List.map_set]
theorem fillU_done (f : Nat → UInt8) (n : Nat) : fillU f n n = (List.range n).map f := by
  unfold fillU
  refine List.map_congr_left fun j hj => ?_
  rw [if_pos (List.mem_range.1 hj)]
theorem fillU_none (f : Nat → UInt8) (n : Nat) : cells8 (fillU f n 0) = List.replicate n (.int .u8 0) := by
  unfold fillU cells8
  rw [List.map_map]
  rw [List.eq_replicate_iff]
  refine ⟨by simp, fun b hb => ?_⟩
  obtain ⟨j, _, rfl⟩ := List.mem_map.1 hb
  simp
def t8 (v : UInt8) (n : Nat) : UInt8 := UInt8.ofNat (v.toNat * 2 ^ n % 256 ||| v.toNat / 2 ^ (8 - n))
theorem t8_val (v : UInt8) (n : Nat) : (v.toNat * 2 ^ n % 256 ||| v.toNat / 2 ^ (8 - n)) = (t8 v n).toNat := by
  unfold t8
  rw [UInt8.toNat_ofNat_of_lt']
  exact Nat.or_lt_two_pow (n := 8) (Nat.mod_lt _ (by decide)) (Nat.lt_of_le_of_lt (Nat.div_le_self _ _) v.toNat_lt)
def mixIt (v : UInt8) : Nat → UInt8
  | 0 => v ^^^ 99
  | k + 1 => mixIt v k ^^^ t8 v (k + 1)
def boxR (i : Nat) : UInt8 := mixIt (invIt (UInt8.ofNat i) 7).2 4
/-- the box -/
def boxB : List UInt8 := (List.range 256).map boxR
theorem box_check : allB (fun i => boxR i == boxU ((invT 256).getD i 0)) 256 = true := by decide +kernel
theorem boxB_eq : boxT 256 = boxB := by
  unfold boxT boxB
  refine List.map_congr_left fun i hi => ?_
  have := allB_at box_check i (List.mem_range.1 hi)
  exact (eq_of_beq this).symm
theorem boxB_length : boxB.length = 256 := by simp [boxB]
end Go.Proofs.Ytleplilcpcgacaa
