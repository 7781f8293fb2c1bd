/- The field of 256: products by powers of 3, and what follows. No program is named here. -/
import Derived.Test.YtleplilcpcgacaaAesW
namespace Go.Proofs.Ytleplilcpcgacaa

theorem mulIt_b (x y : UInt8) (k : Nat) : (mulIt x y k).b.toNat = y.toNat / 2 ^ k := by
  induction k with
  | zero => simp [mulIt]
  | succ k ih =>
    have h : (mulIt x y (k + 1)).b = half (mulIt x y k).b := rfl
    have h2 : ∀ b : UInt8, (half b).toNat = b.toNat / 2 := fun b => by
      unfold half
      rw [UInt8.toNat_ofNat']
      have := b.toNat_lt
      omega
    rw [h, h2, ih, Nat.div_div_eq_div_mul, Nat.pow_succ]
def xtN (a : Nat) : Nat := if Nat.ble 128 a then Nat.xor (2 * a - 256) 27 else 2 * a
theorem xt_xtN (a : UInt8) : (xt a).toNat = xtN a.toNat := by
  have h : ∀ n < 256, (xt (UInt8.ofNat n)).toNat = xtN n := by decide +kernel
  have := h a.toNat a.toNat_lt
  rwa [show UInt8.ofNat a.toNat = a by simp] at this
def mulRun : Nat → Nat → Nat → Nat → Nat
  | 0, n, _, _ => n
  | k + 1, n, a, b => mulRun k (if Nat.beq (b % 2) 1 then Nat.xor n a else n) (xtN a) (b / 2)
theorem mulIt_run (x y : UInt8) : ∀ (k j : Nat), (mulIt x y (j + k)).n.toNat = mulRun k (mulIt x y j).n.toNat (mulIt x y j).a.toNat (mulIt x y j).b.toNat
  | 0, j => rfl
  | k + 1, j => by
    rw [show j + (k + 1) = (j + 1) + k by omega, mulIt_run x y k (j + 1)]
    have e : mulIt x y (j + 1) = mulStep (mulIt x y j) := rfl
    rw [e]
    generalize mulIt x y j = s
    obtain ⟨n, a, b⟩ := s
    simp only [mulStep, mulRun]
    have e1 : (half b).toNat = b.toNat / 2 := by
      have := half_val b
      omega
    rw [xt_xtN, e1]
    congr 1
    by_cases h : b.toNat % 2 = 1
    · rw [if_pos h, if_pos (by rw [h]; rfl), UInt8.toNat_xor]; rfl
    · rw [if_neg h, if_neg (by simpa using h)]
theorem mulU_nat (x y : UInt8) : (mulU x y).toNat = mulRun 8 0 x.toNat y.toNat := by
  have := mulIt_run x y 8 0
  simpa [mulU, mulIt] using this
theorem mulU_ofNat (a b : Nat) (ha : a < 256) (hb : b < 256) : mulU (UInt8.ofNat a) (UInt8.ofNat b) = UInt8.ofNat (mulRun 8 0 a b) := by
  apply UInt8.toNat_inj.1
  have h := mulU_nat (UInt8.ofNat a) (UInt8.ofNat b)
  rw [UInt8.toNat_ofNat_of_lt' ha, UInt8.toNat_ofNat_of_lt' hb] at h
  have := (mulU (UInt8.ofNat a) (UInt8.ofNat b)).toNat_lt
  rw [h, UInt8.toNat_ofNat_of_lt']
  rw [← h]; exact this
/-- whether all numbers below n are so -/
def allB (p : Nat → Bool) : Nat → Bool
  | 0 => true
  | k + 1 => p k && allB p k
theorem allB_at {p : Nat → Bool} {n : Nat} (h : allB p n = true) : ∀ k, k < n → p k = true := by
  induction n with
  | zero => intro k hk; omega
  | succ n ih =>
    intro k hk
    simp only [allB, Bool.and_eq_true] at h
    rcases Nat.lt_succ_iff_lt_or_eq.1 hk with h1 | rfl
    · exact ih h.2 k h1
    · exact h.1
theorem mul_check : allB (fun a => allB (fun b => Nat.beq (mulRun 8 0 a b) (mulRun 8 0 b a) && (Nat.beq (mulRun 8 0 a b) 0 == (Nat.beq a 0 || Nat.beq b 0))) 256) 256 = true := by decide +kernel
/-- how many of the first so many make 1 with a -/
def onesN (a : Nat) : Nat → Nat
  | 0 => 0
  | k + 1 => onesN a k + (if Nat.beq (mulRun 8 0 a k) 1 then 1 else 0)
theorem ones_check : allB (fun a => Nat.beq (onesN a 256) (if Nat.beq a 0 then 0 else 1)) 256 = true := by decide +kernel

theorem u8_val (a : UInt8) : UInt8.ofNat a.toNat = a := by simp
theorem mulU_eq (a b : UInt8) : mulU a b = UInt8.ofNat (mulRun 8 0 a.toNat b.toNat) := by
  have := mulU_ofNat a.toNat b.toNat a.toNat_lt b.toNat_lt
  rwa [u8_val, u8_val] at this
theorem mulU_comm (a b : UInt8) : mulU a b = mulU b a := by
  have h := allB_at (allB_at mul_check a.toNat a.toNat_lt) b.toNat b.toNat_lt
  simp only [Bool.and_eq_true] at h
  rw [mulU_eq, mulU_eq, Nat.eq_of_beq_eq_true h.1]
theorem mulU_zero_iff (a b : UInt8) : mulU a b = 0 ↔ a = 0 ∨ b = 0 := by
  have h := allB_at (allB_at mul_check a.toNat a.toNat_lt) b.toNat b.toNat_lt
  simp only [Bool.and_eq_true] at h
  have h2 := h.2
  rw [← mulU_nat] at h2
  have z : ∀ x : UInt8, Nat.beq x.toNat 0 = true ↔ x = 0 := fun x => by
    rw [Nat.beq_eq, ← UInt8.toNat_inj]; rfl
  have z2 := z (mulU a b)
  have z3 := z a
  have z4 := z b
  rw [← z2, ← z3, ← z4]
  cases h5 : Nat.beq (mulU a b).toNat 0 <;> cases h6 : Nat.beq a.toNat 0 <;> cases h7 : Nat.beq b.toNat 0 <;> simp_all
theorem mulIt_bb (x x' y : UInt8) (k : Nat) : (mulIt x y k).b = (mulIt x' y k).b := by
  apply UInt8.toNat_inj.1; rw [mulIt_b, mulIt_b]
theorem mulIt_xor (x x' y : UInt8) (k : Nat) : (mulIt (x ^^^ x') y k).n = (mulIt x y k).n ^^^ (mulIt x' y k).n ∧ (mulIt (x ^^^ x') y k).a = (mulIt x y k).a ^^^ (mulIt x' y k).a := by
  induction k with
  | zero => simp [mulIt]
  | succ k ih =>
    have h1 := mulIt_bb (x ^^^ x') x y k
    have h2 := mulIt_bb x' x y k
    have e : ∀ z, mulIt z y (k + 1) = mulStep (mulIt z y k) := fun _ => rfl
    rw [e, e, e]
    simp only [mulStep, h1, h2, ih.1, ih.2, xt_xor, and_true]
    split
    · ac_rfl
    · rfl
theorem mulU_xor_left (x x' y : UInt8) : mulU (x ^^^ x') y = mulU x y ^^^ mulU x' y := (mulIt_xor x x' y 8).1
theorem mulU_xor_right (x y y' : UInt8) : mulU x (y ^^^ y') = mulU x y ^^^ mulU x y' := by rw [mulU_comm, mulU_xor_left, mulU_comm y, mulU_comm y']
theorem mulIt_xt (x y : UInt8) (k : Nat) : (mulIt (xt x) y k).n = xt (mulIt x y k).n ∧ (mulIt (xt x) y k).a = xt (mulIt x y k).a := by
  induction k with
  | zero => simp only [mulIt, and_true]; rfl
  | succ k ih =>
    have h1 := mulIt_bb (xt x) x y k
    have e : ∀ z, mulIt z y (k + 1) = mulStep (mulIt z y k) := fun _ => rfl
    rw [e, e]
    simp only [mulStep, h1, ih.1, ih.2, and_true]
    split
    · rw [xt_xor]
    · rfl
theorem mulU_xt_left (x y : UInt8) : mulU (xt x) y = xt (mulU x y) := (mulIt_xt x y 8).1
theorem mulU_xt_right (x y : UInt8) : mulU x (xt y) = xt (mulU x y) := by rw [mulU_comm, mulU_xt_left, mulU_comm]
theorem mulIt_mul (a b c : UInt8) (k : Nat) : mulU a (mulIt b c k).n = (mulIt (mulU a b) c k).n ∧ mulU a (mulIt b c k).a = (mulIt (mulU a b) c k).a := by
  induction k with
  | zero => exact ⟨(mulU_zero_iff a 0).2 (.inr rfl), rfl⟩
  | succ k ih =>
    have h1 := mulIt_bb (mulU a b) b c k
    have e : ∀ z, mulIt z c (k + 1) = mulStep (mulIt z c k) := fun _ => rfl
    rw [e, e]
    simp only [mulStep, h1, ← ih.1, ← ih.2, mulU_xt_right, and_true]
    split
    · rw [mulU_xor_right]
    · rfl
theorem mulU_assoc (a b c : UInt8) : mulU a (mulU b c) = mulU (mulU a b) c := (mulIt_mul a b c 8).1
theorem mulU_one (a : UInt8) : mulU a 1 = a := by
  have h : ∀ n < 256, mulRun 8 0 n 1 = n := by decide +kernel
  rw [mulU_eq, show (1 : UInt8).toNat = 1 from rfl, h _ a.toNat_lt, u8_val]
theorem mulU_two (a : UInt8) : mulU a 2 = xt a := by
  rw [show (2 : UInt8) = xt 1 by decide, mulU_xt_right, mulU_one]
theorem mulU_three (a : UInt8) : mulU a 3 = xt a ^^^ a := by
  rw [show (3 : UInt8) = 2 ^^^ 1 by decide, mulU_xor_right, mulU_two, mulU_one]
end Go.Proofs.Ytleplilcpcgacaa
