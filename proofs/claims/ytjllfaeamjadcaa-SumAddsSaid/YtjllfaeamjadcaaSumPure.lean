/- Numbers of 256 bits, as bytes and as four words of 64 bits. No program is named here. -/
import Derived.Test.YtjllfaeamjadcaaPure
import Derived.Test.YtjllfaeamjadcaaArr
namespace Go.Proofs.Ytjllfaeamjadcaa
open Go.RowKit

def M256 : Nat := 256 ^ 32
def addL (a b : List UInt8) : List UInt8 := putN (getN a + getN b) 32
def subL (a b : List UInt8) : List UInt8 := putN (getN a + 256 ^ 32 - getN b) 32
/-- a number less another one, modulo 2^256 -/
def subN (m n : Nat) : Nat := m + 256 ^ 32 - n
def lessL (a b : List UInt8) : Bool := decide (getN a < getN b)
theorem addL_length (a b : List UInt8) : (addL a b).length = 32 := putN_length _ _
theorem subL_length (a b : List UInt8) : (subL a b).length = 32 := putN_length _ _
theorem getN_inj {a b : List UInt8} (h : a.length = b.length) (e : getN a = getN b) : a = b := by
  rw [← putN_getN a, ← putN_getN b, e, h]
theorem getN_lt32 {a : List UInt8} (h : a.length = 32) : getN a < 256 ^ 32 := by have := getN_lt a; rwa [h] at this
theorem putN_mod (n k : Nat) : putN (n % 256 ^ k) k = putN n k := by
  refine getN_inj (by rw [putN_length, putN_length]) ?_
  rw [getN_putN, getN_putN, Nat.mod_mod]
theorem addL_val (a b : List UInt8) : getN (addL a b) = (getN a + getN b) % 256 ^ 32 := getN_putN _ _
theorem subL_val (a b : List UInt8) : getN (subL a b) = (getN a + 256 ^ 32 - getN b) % 256 ^ 32 := getN_putN _ _
theorem eq32 {a b : List UInt8} (ha : a.length = 32) (hb : b.length = 32) (e : getN a = getN b) : a = b := getN_inj (ha.trans hb.symm) e
theorem addL_comm (a b : List UInt8) : addL b a = addL a b := by unfold addL; rw [Nat.add_comm]
theorem addL_assoc {a b c : List UInt8} : addL (addL a b) c = addL a (addL b c) := by
  refine eq32 (addL_length _ _) (addL_length _ _) ?_
  rw [addL_val, addL_val, addL_val, addL_val]
  generalize getN a = x; generalize getN b = y; generalize getN c = z
  rw [Nat.mod_add_mod, Nat.add_mod_mod, Nat.add_assoc]
theorem sub_add {a b : List UInt8} (ha : a.length = 32) (hb : b.length = 32) : subL (addL a b) b = a := by
  refine eq32 (subL_length _ _) ha ?_
  rw [subL_val, addL_val]
  have h1 := getN_lt32 ha
  have h2 := getN_lt32 hb
  generalize getN a = x at *; generalize getN b = y at *; generalize 256 ^ 32 = m at *
  by_cases h : x + y < m
  · rw [Nat.mod_eq_of_lt h, show x + y + m - y = x + m by omega, Nat.add_mod_right, Nat.mod_eq_of_lt h1]
  · rw [show (x + y) % m = x + y - m by rw [Nat.mod_eq_sub_mod (by omega), Nat.mod_eq_of_lt (by omega)], show x + y - m + m - y = x by omega, Nat.mod_eq_of_lt h1]
theorem add_sub {a b : List UInt8} (ha : a.length = 32) (hb : b.length = 32) : addL (subL a b) b = a := by
  refine eq32 (addL_length _ _) ha ?_
  rw [addL_val, subL_val]
  have h1 := getN_lt32 ha
  have h2 := getN_lt32 hb
  generalize getN a = x at *; generalize getN b = y at *; generalize 256 ^ 32 = m at *
  rw [Nat.mod_add_mod, show x + m - y + y = x + m by omega, Nat.add_mod_right, Nat.mod_eq_of_lt h1]
def z32 : List UInt8 := List.replicate 32 0
theorem z32_val : getN z32 = 0 := by decide +kernel
theorem z32_length : z32.length = 32 := by decide
theorem sub_self {a : List UInt8} (ha : a.length = 32) : subL a a = z32 := by
  refine eq32 (subL_length _ _) z32_length ?_
  rw [subL_val, z32_val]
  have h1 := getN_lt32 ha
  generalize getN a = x at *; generalize 256 ^ 32 = m at *
  rw [show x + m - x = m by omega, Nat.mod_self]
theorem add_zero {a : List UInt8} (ha : a.length = 32) : addL a z32 = a := by
  refine eq32 (addL_length _ _) ha ?_
  rw [addL_val, z32_val, Nat.add_zero, Nat.mod_eq_of_lt (getN_lt32 ha)]
theorem zero_add {a : List UInt8} (ha : a.length = 32) : addL z32 a = a := by rw [addL_comm, add_zero ha]
theorem sub_zero {a : List UInt8} (ha : a.length = 32) : subL a z32 = a := by
  refine eq32 (subL_length _ _) ha ?_
  rw [subL_val, z32_val, Nat.sub_zero, Nat.add_mod_right, Nat.mod_eq_of_lt (getN_lt32 ha)]
/-- who adds c to both ends has what was between -/
theorem sub_of_add {a b c : List UInt8} (hb : b.length = 32) (hc : c.length = 32) (e : a = addL b c) : subL a c = b := by rw [e]; exact sub_add hb hc

/-! words of 64 bits, the least one first -/
def B64 : Nat := 18446744073709551616
def numCells (l : List Nat) : List Value := l.map fun (n : Nat) => Value.int .u64 (n : Int)
theorem numCells_length (l : List Nat) : (numCells l).length = l.length := by simp [numCells]
theorem numCells_one (l : List Nat) : ∀ u ∈ numCells l, u.oneCell' = true := by
  intro u hu
  obtain ⟨_, _, rfl⟩ := List.mem_map.1 hu
  rfl
def dg (n i : Nat) : Nat := n / 2 ^ (64 * i) % 2 ^ 64
theorem dg_lt (n i : Nat) : dg n i < 18446744073709551616 := Nat.mod_lt _ (by decide)
def W4 (n : Nat) : List Nat := (List.range 4).map (dg n)
theorem W4_length (n : Nat) : (W4 n).length = 4 := by simp [W4]
/-- a row of which the first k are new -/
def part4 (f g : Nat → Nat) (k : Nat) : List Nat := (List.range 4).map fun i => if i < k then f i else g i
theorem part4_length (f g : Nat → Nat) (k : Nat) : (part4 f g k).length = 4 := by simp [part4]
theorem part4_none (f : Nat → Nat) (n : Nat) : part4 f (dg n) 0 = W4 n := by
  unfold part4 W4
  exact List.map_congr_left fun i _ => by rw [if_neg (by omega)]
theorem part4_all (n : Nat) (g : Nat → Nat) : part4 (dg n) g 4 = W4 n := by
  unfold part4 W4
  exact List.map_congr_left fun i hi => by rw [if_pos (List.mem_range.1 hi)]
theorem part4_zero (f : Nat → Nat) : numCells (part4 f (fun _ => 0) 0) = List.replicate 4 (.int .u64 0) := by
  rw [List.eq_replicate_iff]
  refine ⟨by rw [numCells_length, part4_length], fun b hb => ?_⟩
  unfold numCells part4 at hb
  rw [List.map_map] at hb
  obtain ⟨j, _, rfl⟩ := List.mem_map.1 hb
  simp
theorem part4_set (f g : Nat → Nat) (k : Nat) : (numCells (part4 f g k)).set k (.int .u64 ((f k : Nat) : Int)) = numCells (part4 f g (k + 1)) := by
  unfold numCells
  rw [show (Value.int .u64 ((f k : Nat) : Int)) = (fun n : Nat => Value.int .u64 (n : Int)) (f k) from rfl, ← List.map_set]
  congr 1
  refine List.ext_getElem (by rw [List.length_set, part4_length, part4_length]) fun i h1 h2 => ?_
  rw [List.getElem_set]
  simp only [part4, List.getElem_map, List.getElem_range]
  by_cases hi : k = i
  · subst hi; simp
  · rw [if_neg hi]
    by_cases h3 : i < k
    · rw [if_pos h3, if_pos (by omega)]
    · rw [if_neg h3, if_neg (by omega)]
theorem part4_at (f g : Nat → Nat) (k i : Nat) (hi : i < 4) (hk : k ≤ i) : (numCells (part4 f g k))[i]? = some (.int .u64 ((g i : Nat) : Int)) := by
  unfold numCells part4
  rw [List.map_map, List.getElem?_map, List.getElem?_range hi]
  simp only [Option.map_some, Function.comp, if_neg (show ¬ i < k by omega)]
theorem W4_at (n i : Nat) (hi : i < 4) : (numCells (W4 n))[i]? = some (.int .u64 ((dg n i : Nat) : Int)) := by
  unfold numCells W4
  rw [List.map_map, List.getElem?_map, List.getElem?_range hi]
  rfl

/-- what is carried past the first k words -/
def carryN (m n k : Nat) : Nat := (m % 2 ^ (64 * k) + n % 2 ^ (64 * k)) / 2 ^ (64 * k)
def borrowN (m n k : Nat) : Nat := if m % 2 ^ (64 * k) < n % 2 ^ (64 * k) then 1 else 0
theorem carryN_le (m n k : Nat) : carryN m n k ≤ 1 := by
  unfold carryN
  have hp : 0 < 2 ^ (64 * k) := Nat.two_pow_pos _
  have h1 := Nat.mod_lt m hp
  have h2 := Nat.mod_lt n hp
  generalize 2 ^ (64 * k) = P at *
  have : (m % P + n % P) / P < 2 := Nat.div_lt_of_lt_mul (by omega)
  omega
theorem borrowN_le (m n k : Nat) : borrowN m n k ≤ 1 := by unfold borrowN; split <;> omega
theorem carryN_zero (m n : Nat) : carryN m n 0 = 0 := by unfold carryN; simp [Nat.mod_one]
theorem borrowN_zero (m n : Nat) : borrowN m n 0 = 0 := by unfold borrowN; simp [Nat.mod_one]
theorem pow_succ64 (k : Nat) : 2 ^ (64 * (k + 1)) = 2 ^ (64 * k) * 2 ^ 64 := by rw [Nat.mul_succ, Nat.pow_add]
theorem add_parts (m n P B : Nat) (hP : 0 < P) :
    (m + n) / P % B = (m / P % B + n / P % B + (m % P + n % P) / P) % B ∧ (m % (P * B) + n % (P * B)) / (P * B) = (m / P % B + n / P % B + (m % P + n % P) / P) / B := by
  constructor
  · have h : (m + n) / P = m / P + n / P + (m % P + n % P) / P := by
      have e1 := Nat.div_add_mod m P
      have e2 := Nat.div_add_mod n P
      have e3 : m + n = (m % P + n % P) + P * (m / P + n / P) := by rw [Nat.mul_add]; omega
      rw [e3, Nat.add_mul_div_left _ _ hP]; omega
    rw [h]
    generalize (m % P + n % P) / P = c
    rw [Nat.add_mod (m / P + n / P) c, Nat.add_mod (m / P) (n / P), Nat.add_mod (m / P % B + n / P % B) c]
  · rw [Nat.mod_mul, Nat.mod_mul, ← Nat.div_div_eq_div_mul]
    have e3 : m % P + P * (m / P % B) + (n % P + P * (n / P % B)) = (m % P + n % P) + P * (m / P % B + n / P % B) := by rw [Nat.mul_add]; omega
    rw [e3, Nat.add_mul_div_left _ _ hP, Nat.add_comm]
theorem plus_digit (m n k : Nat) : dg (m + n) k = (dg m k + dg n k + carryN m n k) % 18446744073709551616 ∧ carryN m n (k + 1) = (dg m k + dg n k + carryN m n k) / 18446744073709551616 := by
  have h := add_parts m n (2 ^ (64 * k)) (2 ^ 64) (Nat.two_pow_pos _)
  unfold dg carryN
  rw [pow_succ64]
  exact h
theorem plus_all (m n : Nat) : W4 (m + n) = W4 ((m + n) % 256 ^ 32) := by
  unfold W4
  refine List.map_congr_left fun i hi => ?_
  have hi4 := List.mem_range.1 hi
  unfold dg
  rw [show (256 : Nat) ^ 32 = 2 ^ (64 * i) * 2 ^ (64 * (4 - i)) by rw [← Nat.pow_add, show 64 * i + 64 * (4 - i) = 256 by omega], Nat.mod_mul_right_div_self]
  rw [show 2 ^ (64 * (4 - i)) = 2 ^ 64 * 2 ^ (64 * (3 - i)) by rw [← Nat.pow_add]; congr 1; omega, Nat.mod_mul_right_mod]
/-- x less y less b, as Nat: what is left, and whether it is too little -/
theorem sub_parts (m n P B : Nat) (hP : 0 < P) (hB : 0 < B) (r : Nat) (hn : n ≤ P * B * r) :
    (m + P * B * r - n) / P % B = (m / P % B + B - n / P % B + B - (if m % P < n % P then 1 else 0)) % B ∧
    (if m % (P * B) < n % (P * B) then 1 else 0) = (if m / P % B < n / P % B + (if m % P < n % P then 1 else 0) then 1 else 0) := by
  obtain ⟨m0, hm0⟩ : ∃ x, x = m % P := ⟨_, rfl⟩
  obtain ⟨n0, hn0⟩ : ∃ x, x = n % P := ⟨_, rfl⟩
  obtain ⟨m1, hm1⟩ : ∃ x, x = m / P := ⟨_, rfl⟩
  obtain ⟨n1, hn1⟩ : ∃ x, x = n / P := ⟨_, rfl⟩
  have e1 : P * m1 + m0 = m := by rw [hm0, hm1]; exact Nat.div_add_mod m P
  have e2 : P * n1 + n0 = n := by rw [hn0, hn1]; exact Nat.div_add_mod n P
  have l1 : m0 < P := by rw [hm0]; exact Nat.mod_lt _ hP
  have l2 : n0 < P := by rw [hn0]; exact Nat.mod_lt _ hP
  rw [← hm0, ← hn0, ← hm1, ← hn1]
  constructor
  · obtain ⟨b, hb⟩ : ∃ b, b = (if m0 < n0 then 1 else 0) := ⟨_, rfl⟩
    rw [← hb]
    have hR : n1 + b ≤ m1 + B * r := by
      have h1 : P * n1 + n0 ≤ P * (B * r) := by rw [e2, ← Nat.mul_assoc]; exact hn
      rcases Nat.lt_or_ge n1 (B * r) with h | h
      · have : b ≤ 1 := by rw [hb]; split <;> omega
        omega
      · have h2 : P * (B * r) ≤ P * n1 := Nat.mul_le_mul_left _ h
        have h3 : n0 = 0 := by omega
        have h4 : n1 = B * r := Nat.eq_of_mul_eq_mul_left hP (by omega)
        have h5 : b = 0 := by rw [hb, h3]; simp
        omega
    have hdiv : (m + P * B * r - n) / P = m1 + B * r - n1 - b := by
      have h1 : m + P * B * r - n = P * (m1 + B * r - n1 - b) + (m0 + P * b - n0) := by
        have hq : P * (m1 + B * r - n1 - b) = P * m1 + P * (B * r) - P * n1 - P * b := by rw [Nat.mul_sub, Nat.mul_sub, Nat.mul_add]
        have hR2 : P * n1 + P * b ≤ P * m1 + P * (B * r) := by rw [← Nat.mul_add, ← Nat.mul_add]; exact Nat.mul_le_mul_left _ hR
        have hb2 : n0 ≤ m0 + P * b := by
          rw [hb]; split
          · rw [Nat.mul_one]; omega
          · rw [Nat.mul_zero]; omega
        rw [hq, ← e1, ← e2, Nat.mul_assoc]
        omega
      rw [h1, Nat.mul_comm P, Nat.add_comm, Nat.add_mul_div_right _ _ hP]
      have : (m0 + P * b - n0) / P = 0 := by
        refine Nat.div_eq_of_lt ?_
        rw [hb]; split
        · rw [Nat.mul_one]; omega
        · rw [Nat.mul_zero]; omega
      omega
    rw [hdiv]
    have hb1 : b ≤ 1 := by rw [hb]; split <;> omega
    have h1 := Nat.div_add_mod m1 B
    have h2 := Nat.div_add_mod n1 B
    have h3 := Nat.mod_lt m1 hB
    have h4 := Nat.mod_lt n1 hB
    generalize m1 % B = x at *
    generalize n1 % B = y at *
    have e : (m1 + B * r - n1 - b) + B * (n1 / B) + B * 2 = (x + B - y + B - b) + B * (m1 / B) + B * r := by omega
    have e5 : ((m1 + B * r - n1 - b) + B * (n1 / B) + B * 2) % B = (m1 + B * r - n1 - b) % B := by rw [Nat.add_mul_mod_self_left, Nat.add_mul_mod_self_left]
    have e6 : ((x + B - y + B - b) + B * (m1 / B) + B * r) % B = (x + B - y + B - b) % B := by rw [Nat.add_mul_mod_self_left, Nat.add_mul_mod_self_left]
    rw [← e5, e, e6]
  · rw [Nat.mod_mul, Nat.mod_mul, ← hm0, ← hn0, ← hm1, ← hn1]
    generalize m1 % B = x
    generalize n1 % B = y
    have key : m0 + P * x < n0 + P * y ↔ x < y + (if m0 < n0 then 1 else 0) := by
      rcases Nat.lt_trichotomy x y with h | h | h
      · have : P * x + P ≤ P * y := by rw [← Nat.mul_succ]; exact Nat.mul_le_mul_left _ h
        constructor
        · intro _; omega
        · intro _; omega
      · subst h
        split <;> omega
      · have : P * y + P ≤ P * x := by rw [← Nat.mul_succ]; exact Nat.mul_le_mul_left _ h
        constructor
        · intro _; omega
        · intro h2; split at h2 <;> omega
    by_cases hk : m0 + P * x < n0 + P * y
    · rw [if_pos hk, if_pos (key.1 hk)]
    · rw [if_neg hk, if_neg (fun h => hk (key.2 h))]
theorem minus_digit (m n k : Nat) (hk : k < 4) (hn : n < 256 ^ 32) :
    dg (m + 256 ^ 32 - n) k = (dg m k + 18446744073709551616 - dg n k + 18446744073709551616 - borrowN m n k) % 18446744073709551616 ∧
    borrowN m n (k + 1) = (if dg m k < dg n k + borrowN m n k then 1 else 0) := by
  have h := sub_parts m n (2 ^ (64 * k)) (2 ^ 64) (Nat.two_pow_pos _) (Nat.two_pow_pos _) (2 ^ (64 * (3 - k)))
  have e : 2 ^ (64 * k) * 2 ^ 64 * 2 ^ (64 * (3 - k)) = 256 ^ 32 := by
    rw [← Nat.pow_add, ← Nat.pow_add, show 64 * k + 64 + 64 * (3 - k) = 256 by omega]
  rw [e] at h
  obtain ⟨h1, h2⟩ := h (by omega)
  unfold dg borrowN
  rw [pow_succ64]
  exact ⟨h1, h2⟩
theorem borrow_end (m n : Nat) (hm : m < 256 ^ 32) (hn : n < 256 ^ 32) : borrowN m n 4 = if m < n then 1 else 0 := by
  unfold borrowN
  rw [show 2 ^ (64 * 4) = 256 ^ 32 by decide, Nat.mod_eq_of_lt hm, Nat.mod_eq_of_lt hn]
/-- the words of bytes -/
theorem word_at (l : List UInt8) (hl : l.length = 32) (i : Nat) (hi : i < 4) : getN ((l.take (24 - 8 * i + 8)).drop (24 - 8 * i)) = dg (getN l) i := by
  have e1 : l = l.take (24 - 8 * i) ++ (l.take (24 - 8 * i + 8)).drop (24 - 8 * i) ++ l.drop (24 - 8 * i + 8) := by
    conv => lhs; rw [← List.take_append_drop (24 - 8 * i + 8) l]
    congr 1
    conv => lhs; rw [← List.take_append_drop (24 - 8 * i) (l.take (24 - 8 * i + 8))]
    rw [List.take_take, Nat.min_eq_left (by omega)]
  have hx : ((l.take (24 - 8 * i + 8)).drop (24 - 8 * i)).length = 8 := by simp; omega
  have hz : (l.drop (24 - 8 * i + 8)).length = 8 * i := by simp; omega
  generalize (l.take (24 - 8 * i + 8)).drop (24 - 8 * i) = x at *
  generalize l.take (24 - 8 * i) = y at *
  generalize l.drop (24 - 8 * i + 8) = z at *
  rw [e1, getN_append, getN_append, hx, hz]
  have h1 := getN_lt x
  have h2 := getN_lt z
  rw [hx] at h1
  rw [hz] at h2
  unfold dg
  rw [show 2 ^ (64 * i) = 256 ^ (8 * i) by rw [show (256 : Nat) = 2 ^ 8 from rfl, ← Nat.pow_mul]; congr 1; omega]
  generalize getN x = gx at *
  generalize getN y = gy at *
  generalize getN z = gz at *
  rw [show (gy * 256 ^ 8 + gx) * 256 ^ (8 * i) + gz = gz + 256 ^ (8 * i) * (gy * 256 ^ 8 + gx) by rw [Nat.mul_comm (256 ^ (8 * i))]; omega, Nat.add_mul_div_left _ _ (Nat.pow_pos (by decide)), Nat.div_eq_of_lt h2, Nat.zero_add]
  have e8 : (256 : Nat) ^ 8 = 18446744073709551616 := by decide
  rw [e8] at h1
  rw [e8, Nat.mul_comm, Nat.add_comm, Nat.add_mul_mod_self_left, Nat.mod_eq_of_lt h1]
/-- the bytes of words: the last 8 k are there -/
def tailL (n k : Nat) : List UInt8 := List.replicate (32 - 8 * k) 0 ++ putN n (8 * k)
theorem tailL_length (n k : Nat) (hk : k ≤ 4) : (tailL n k).length = 32 := by simp [tailL, putN_length]; omega
theorem putN_split (n a b : Nat) : putN n (a + b) = putN (n / 256 ^ b) a ++ putN n b := by
  refine getN_inj (by simp [putN_length]) ?_
  rw [getN_putN, getN_append, getN_putN, getN_putN, putN_length, Nat.pow_add]
  rw [Nat.mul_comm (256 ^ a), Nat.mod_mul, Nat.mul_comm (256 ^ b), Nat.add_comm]
theorem dg_put (n k : Nat) : putN (dg n k) 8 = putN (n / 256 ^ (8 * k)) 8 := by
  unfold dg
  rw [show 2 ^ (64 * k) = 256 ^ (8 * k) by rw [show (256 : Nat) = 2 ^ 8 from rfl, ← Nat.pow_mul]; congr 1; omega, show 2 ^ 64 = 256 ^ 8 from rfl, putN_mod]
theorem tail_next (n k : Nat) (hk : k < 4) : (tailL n k).take (24 - 8 * k) ++ (putN (dg n k) 8 ++ (tailL n k).drop (24 - 8 * k + 8)) = tailL n (k + 1) := by
  unfold tailL
  rw [List.take_append_of_le_length (by simp; omega), List.take_replicate, Nat.min_eq_left (by omega), List.drop_append_of_le_length (by simp; omega), List.drop_replicate]
  rw [show 32 - 8 * k - (24 - 8 * k + 8) = 0 by omega, List.replicate_zero, List.nil_append, show 32 - 8 * (k + 1) = 24 - 8 * k by omega, show 8 * (k + 1) = 8 + 8 * k by omega, putN_split, dg_put]
theorem tail_none (n : Nat) : cells8 (tailL n 0) = List.replicate 32 (.int .u8 0) := by
  unfold tailL cells8
  rw [show putN n (8 * 0) = [] from rfl, List.append_nil, List.map_replicate]; rfl
theorem tail_all (n : Nat) : tailL n 4 = putN n 32 := by
  unfold tailL
  rw [show 32 - 8 * 4 = 0 from rfl, List.replicate_zero, List.nil_append]
end Go.Proofs.Ytjllfaeamjadcaa
