/- Bits of a row of bytes, as pure lists and numbers. No program is named here. -/
import Derived.Test.YtgkeckfiacdpkaaDoorFlip
import Derived.Lib.TrailingZeros
namespace Go.Proofs.YtgkeckfiacdpkaaDoor
open Go.RowKit

/-- is bit i taken -/
def gb (b : List UInt8) (i : Nat) : Bool := (b.getD (i / 8) 0).toNat.testBit (i % 8)
/-- a byte with bit j as told -/
def sb8 (x : UInt8) (j : Nat) (t : Bool) : UInt8 := if x.toNat.testBit j = t then x else x ^^^ UInt8.ofNat (2 ^ j)
/-- a row with bit i as told -/
def setb (b : List UInt8) (i : Nat) (t : Bool) : List UInt8 := b.set (i / 8) (sb8 (b.getD (i / 8) 0) (i % 8) t)
theorem sb8_all : ∀ x : Fin 256, ∀ j : Fin 8, (sb8 (UInt8.ofNat x.val) j.val true).toNat = x.val ||| 2 ^ j.val ∧ (sb8 (UInt8.ofNat x.val) j.val false).toNat = x.val &&& (255 - 2 ^ j.val) ∧
    ∀ k : Fin 8, ∀ t : Bool, (sb8 (UInt8.ofNat x.val) j.val t).toNat.testBit k.val = if j.val = k.val then t else x.val.testBit k.val := by decide +kernel
theorem u8_fin (x : UInt8) : x = UInt8.ofNat (⟨x.toNat, x.toNat_lt⟩ : Fin 256).val := by simp
theorem sb8_or (x : UInt8) (j : Nat) (hj : j < 8) : (sb8 x j true).toNat = x.toNat ||| 2 ^ j := by
  have := (sb8_all ⟨x.toNat, x.toNat_lt⟩ ⟨j, hj⟩).1
  rwa [← u8_fin] at this
theorem sb8_andNot (x : UInt8) (j : Nat) (hj : j < 8) : (sb8 x j false).toNat = x.toNat &&& (255 - 2 ^ j) := by
  have := (sb8_all ⟨x.toNat, x.toNat_lt⟩ ⟨j, hj⟩).2.1
  rwa [← u8_fin] at this
theorem sb8_bit (x : UInt8) (j k : Nat) (hj : j < 8) (hk : k < 8) (t : Bool) : (sb8 x j t).toNat.testBit k = if j = k then t else x.toNat.testBit k := by
  have := (sb8_all ⟨x.toNat, x.toNat_lt⟩ ⟨j, hj⟩).2.2 ⟨k, hk⟩ t
  rwa [← u8_fin] at this
theorem setb_length (b : List UInt8) (i : Nat) (t : Bool) : (setb b i t).length = b.length := by simp [setb]
theorem gb_none {b : List UInt8} {i : Nat} (h : 8 * b.length ≤ i) : gb b i = false := by
  unfold gb
  rw [List.getD_eq_getElem?_getD, List.getElem?_eq_none (by omega)]
  simp
theorem gb_setb (b : List UInt8) (i k : Nat) (t : Bool) (hi : i < 8 * b.length) : gb (setb b i t) k = if i = k then t else gb b k := by
  unfold gb setb
  have hl : i / 8 < b.length := by omega
  by_cases hq : i / 8 = k / 8
  · rw [← hq, List.getD_eq_getElem?_getD, List.getElem?_set_self hl, Option.getD_some, sb8_bit _ _ _ (Nat.mod_lt _ (by decide)) (Nat.mod_lt _ (by decide))]
    by_cases hr : i % 8 = k % 8
    · rw [if_pos hr, if_pos (by omega)]
    · rw [if_neg hr, if_neg (by omega)]
  · rw [List.getD_eq_getElem?_getD, List.getElem?_set_ne hq, ← List.getD_eq_getElem?_getD, if_neg (by intro e; subst e; exact hq rfl)]
theorem setb_out {b : List UInt8} {i : Nat} (t : Bool) (h : 8 * b.length ≤ i) : setb b i t = b := by
  unfold setb
  rw [List.set_eq_of_length_le (by omega)]
theorem byte_ext {x y : UInt8} (h : ∀ k, k < 8 → x.toNat.testBit k = y.toNat.testBit k) : x = y := by
  apply UInt8.toNat_inj.1
  apply Nat.eq_of_testBit_eq
  intro k
  by_cases hk : k < 8
  · exact h k hk
  · rw [Nat.testBit_lt_two_pow (Nat.lt_of_lt_of_le x.toNat_lt (Nat.pow_le_pow_right (by decide) (by omega))), Nat.testBit_lt_two_pow (Nat.lt_of_lt_of_le y.toNat_lt (Nat.pow_le_pow_right (by decide) (by omega)))]
/-- rows of one length with the same bits are the same -/
theorem bits_ext {b c : List UInt8} (hl : b.length = c.length) (h : ∀ i, i < 8 * b.length → gb b i = gb c i) : b = c := by
  apply List.ext_getElem hl
  intro j h1 h2
  apply byte_ext
  intro k hk
  have := h (8 * j + k) (by omega)
  unfold gb at this
  rw [show (8 * j + k) / 8 = j by omega, show (8 * j + k) % 8 = k by omega] at this
  simpa [List.getD_eq_getElem?_getD, List.getElem?_eq_getElem h1, List.getElem?_eq_getElem h2] using this
theorem gb_dec (b : List UInt8) (i : Nat) : (((b.getD (i / 8) 0).toNat / 2 ^ (i % 8)) % 2 = 1) ↔ gb b i = true := by
  unfold gb
  rw [Nat.testBit_eq_decide_div_mod_eq]; simp

/-- which of the bits from f on, below t, have p -/
def pickL (p : Nat → Bool) (f t : Nat) : List Nat := (List.range t).filter fun i => decide (f ≤ i) && p i
def freeL (b : List UInt8) (f t : Nat) : List Nat := pickL (fun i => !gb b i) f t
def fullL (b : List UInt8) (f t : Nat) : List Nat := pickL (fun i => gb b i) f t
/-- the bits of a word -/
def bitsL (x : Nat) : List Nat := (List.range 64).filter fun j => x.testBit j
theorem bitsL_lt (x : Nat) : ∀ j ∈ bitsL x, j < 64 := fun _ hj => List.mem_range.1 (List.mem_filter.1 hj).1
theorem bitsL_zero : bitsL 0 = [] := by simp [bitsL]
theorem filter_first {p : Nat → Bool} {n c : Nat} (hc : c < n) (hp : p c = true) (hlow : ∀ j, j < c → p j = false) :
    (List.range n).filter p = c :: (List.range n).filter fun j => p j && decide (j ≠ c) := by
  have e : List.range n = List.range c ++ (c :: (List.range' (c + 1) (n - c - 1))) := by
    rw [show n = c + (n - c) by omega, List.range_add]
    congr 1
    rw [show c + (n - c) - c - 1 = n - c - 1 by omega, show n - c = (n - c - 1) + 1 by omega, List.range_succ_eq_map, List.map_cons]
    simp [List.range'_eq_map_range, Function.comp_def]
    intro a _
    omega
  have h1 : (List.range c).filter p = [] := List.filter_eq_nil_iff.2 fun j hj => by rw [hlow j (List.mem_range.1 hj)]; decide
  have h2 : (List.range c).filter (fun j => p j && decide (j ≠ c)) = [] := List.filter_eq_nil_iff.2 fun j hj => by rw [hlow j (List.mem_range.1 hj)]; simp
  rw [e, List.filter_append, List.filter_append, h1, h2, List.nil_append, List.nil_append, List.filter_cons, if_pos hp, List.filter_cons]
  simp only [ne_eq, not_true_eq_false, decide_false, Bool.and_false, Bool.false_eq_true, if_false]
  congr 1
  apply List.filter_congr
  intro j hj
  have := (List.mem_range'_1.1 hj).1
  rw [decide_eq_true (by omega)]; simp
/-- the lowest bit cut off -/
theorem low_bit (x : Nat) (h0 : x ≠ 0) (h : x < 2 ^ 64) : x.testBit (Lib.ctz 64 x) = true ∧ Lib.ctz 64 x < 64 ∧ (∀ j, j < Lib.ctz 64 x → x.testBit j = false) ∧ ∀ j, (x &&& (x - 1)).testBit j = (x.testBit j && decide (j ≠ Lib.ctz 64 x)) := by
  unfold Lib.ctz
  rw [if_neg h0]
  obtain ⟨m, hm, hc⟩ := Lib.ctzFrom_spec 64 x (by omega) h
  generalize Lib.ctzFrom 64 x = c at hm hc ⊢
  have e1 : x - 1 = 2 ^ c * (2 * m) + (2 ^ c - 1) := by
    have := Nat.two_pow_pos c
    rw [hm, Nat.mul_add]
    omega
  have hx : ∀ j, x.testBit j = (decide (c ≤ j) && (2 * m + 1).testBit (j - c)) := fun j => by rw [hm, Nat.testBit_two_pow_mul]
  have hy : ∀ j, (x - 1).testBit j = if j < c then (2 ^ c - 1).testBit j else (2 * m).testBit (j - c) := fun j => by
    rw [e1, Nat.testBit_two_pow_mul_add _ (by have := Nat.two_pow_pos c; omega)]
  refine ⟨by rw [hx]; simp, hc, fun j hj => by rw [hx, decide_eq_false (by omega)]; simp, fun j => ?_⟩
  rw [Nat.testBit_and, hy, hx]
  by_cases h1 : j < c
  · rw [decide_eq_false (by omega)]; simp
  · rw [if_neg h1]
    by_cases h2 : j = c
    · subst h2; simp
    · obtain ⟨s, hs⟩ : ∃ s, j - c = s + 1 := ⟨j - c - 1, by omega⟩
      rw [hs, decide_eq_true h2, decide_eq_true (show c ≤ j by omega)]
      rw [Nat.testBit_succ, Nat.testBit_succ, show (2 * m + 1) / 2 = m by omega, show 2 * m / 2 = m by omega]
      simp
theorem bitsL_step (x : Nat) (h0 : x ≠ 0) (h : x < 2 ^ 64) : bitsL x = Lib.ctz 64 x :: bitsL (x &&& (x - 1)) := by
  obtain ⟨h1, h2, h3, h4⟩ := low_bit x h0 h
  unfold bitsL
  rw [filter_first h2 h1 h3]
  congr 1
  apply List.filter_congr
  intro j _
  rw [h4]
theorem and_pred_lt (x : Nat) (h : x < 2 ^ 64) : x &&& (x - 1) < 2 ^ 64 := Nat.lt_of_le_of_lt Nat.and_le_left h

/-- the words that have any of f to t - 1 -/
def ksL (f t : Nat) : List Nat := List.range' (f / 64) (if f < t then (t - 1) / 64 + 1 - f / 64 else 0)
/-- a row, told word by word -/
theorem pick_words (p : Nat → Bool) (f t : Nat) (g : Nat → Nat) (hg : ∀ k j, j < 64 → (g k).testBit j = (decide (f ≤ 64 * k + j) && decide (64 * k + j < t) && p (64 * k + j))) :
    pickL p f t = (ksL f t).flatMap fun k => (bitsL (g k)).map (64 * k + ·) := by
  have hw : ∀ K, (List.range (64 * K)).filter (fun i => decide (f ≤ i) && decide (i < t) && p i) = (List.range K).flatMap fun k => (bitsL (g k)).map (64 * k + ·) := by
    intro K
    induction K with
    | zero => rfl
    | succ K ih =>
      rw [show 64 * (K + 1) = 64 * K + 64 by omega, List.range_add, List.filter_append, ih, List.range_succ (n := K), List.flatMap_append, List.flatMap_singleton]
      congr 1
      rw [List.filter_map]
      congr 1
      unfold bitsL
      apply List.filter_congr
      intro j hj
      rw [hg K j (List.mem_range.1 hj)]
      rfl
  have hempty : ∀ k, (64 * k + 63 < f ∨ t ≤ 64 * k) → (bitsL (g k)).map (64 * k + ·) = [] := by
    intro k hk
    have : bitsL (g k) = [] := List.filter_eq_nil_iff.2 fun j hj => by
      have := List.mem_range.1 hj
      rw [hg k j this]
      simp
      intro h1 h2; omega
    rw [this]; rfl
  have hflat : ∀ (l : List Nat), (∀ k ∈ l, 64 * k + 63 < f ∨ t ≤ 64 * k) → (l.flatMap fun k => (bitsL (g k)).map (64 * k + ·)) = [] := by
    intro l hl
    rw [List.flatMap_eq_nil_iff]
    exact fun k hk => hempty k (hl k hk)
  have hp : pickL p f t = (List.range t).filter (fun i => decide (f ≤ i) && decide (i < t) && p i) := by
    unfold pickL
    apply List.filter_congr
    intro i hi
    rw [decide_eq_true (List.mem_range.1 hi)]; simp
  rw [hp]
  by_cases hft : f < t
  · have e1 : (List.range t).filter (fun i => decide (f ≤ i) && decide (i < t) && p i) = (List.range (64 * ((t - 1) / 64 + 1))).filter (fun i => decide (f ≤ i) && decide (i < t) && p i) := by
      rw [show 64 * ((t - 1) / 64 + 1) = t + (64 * ((t - 1) / 64 + 1) - t) by omega, List.range_add, List.filter_append]
      rw [show List.filter _ (List.map _ _) = [] from List.filter_eq_nil_iff.2 fun i hi => by
        obtain ⟨a, _, rfl⟩ := List.mem_map.1 hi
        simp
        intro h1 h2; omega, List.append_nil]
    rw [e1, hw]
    unfold ksL
    rw [if_pos hft]
    have e2 : List.range ((t - 1) / 64 + 1) = List.range (f / 64) ++ List.range' (f / 64) ((t - 1) / 64 + 1 - f / 64) := by
      rw [show (t - 1) / 64 + 1 = f / 64 + ((t - 1) / 64 + 1 - f / 64) by omega, List.range_add, List.range'_eq_map_range]
      rw [show f / 64 + ((t - 1) / 64 + 1 - f / 64) - f / 64 = (t - 1) / 64 + 1 - f / 64 by omega]
    rw [e2, List.flatMap_append, hflat (List.range (f / 64)) (fun k hk => by have := List.mem_range.1 hk; omega), List.nil_append]
  · unfold ksL
    rw [if_neg hft, List.range'_zero, List.flatMap_nil]
    exact List.filter_eq_nil_iff.2 fun i hi => by
      simp
      intro h1 h2; omega
theorem pick_mem {p : Nat → Bool} {f t i : Nat} : i ∈ pickL p f t ↔ i < t ∧ f ≤ i ∧ p i = true := by
  unfold pickL
  rw [List.mem_filter, List.mem_range]
  simp
theorem pick_empty {p : Nat → Bool} {f t : Nat} (h : t ≤ f) : pickL p f t = [] := List.filter_eq_nil_iff.2 fun i hi => by
  have := List.mem_range.1 hi
  simp
  intro h1; omega
theorem pick_length_le (p : Nat → Bool) (f t : Nat) : (pickL p f t).length ≤ t := Nat.le_trans (List.length_filter_le _ _) (by simp)
/-- free ones and taken ones together are all -/
theorem free_full (b : List UInt8) (f t : Nat) : (freeL b f t).length + (fullL b f t).length = t - f := by
  unfold freeL fullL
  induction t with
  | zero => simp [pickL]
  | succ t ih =>
    have hs : ∀ p : Nat → Bool, (pickL p f (t + 1)).length = (pickL p f t).length + if decide (f ≤ t) && p t then 1 else 0 := fun p => by
      unfold pickL
      rw [List.range_succ, List.filter_append, List.length_append]
      congr 1
      by_cases h : (decide (f ≤ t) && p t) = true
      · rw [if_pos h, List.filter_cons, if_pos h]; rfl
      · rw [if_neg h, List.filter_cons, if_neg h]; rfl
    rw [hs, hs]
    by_cases hf : f ≤ t
    · rw [decide_eq_true hf]
      cases hg : gb b t <;> simp <;> omega
    · rw [decide_eq_false hf]
      simp
      omega
end Go.Proofs.YtgkeckfiacdpkaaDoor
