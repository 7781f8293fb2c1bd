/- Numbers of 256 bits, as bytes and as four words of 64 bits. No program is named here.
   An array by value, indexed. No program is named here.
   The calls of math/bits that add and subtract words; the types of package sum.
   The contract of package sum's plus.
   The contract of package sum's minus.
   Words of 32 bits: rows of them, and the walk's arithmetic on them. No program is named here.
   SHA-256's rounds on words, as the document has them: plain definitions and lemmas. No program is named here.
   A digest as an array, byte by byte.
   The contract of codec's Put.
   A slice of a slice, in a region that draws its order. No program is named here. -/
import Derived.Test.YthpfiieaanioeaaG02
import Derived.Test.YthpfiieaanioeaaG01
import Derived.ChangeKeysEq
import Derived.Laws.Externs
import Derived.Shelf.Spec.BitsCarry
import Derived.Deep.LoopGhost
namespace Go.Proofs.Ythpfiieaanioeaa
open Go.RowKit

def M256 : Nat := 256 ^ 32
def addL (a b : List UInt8) : List UInt8 := putN (getN a + getN b) 32
def subL (a b : List UInt8) : List UInt8 := putN (getN a + 256 ^ 32 - getN b) 32
/-- a number less another one, modulo 2^256 -/
def subN (m n : Nat) : Nat := m + 256 ^ 32 - n
def lessL (a b : List UInt8) : Bool := decide (getN a < getN b)
theorem addL_length (a b : List UInt8) : (addL a b).length = 32 := putN_length _ _
theorem subL_length (a b : List UInt8) : (subL a b).length = 32 := putN_length _ _
theorem getN_inj {a b : List UInt8} (h : a.length = b.length) (e : getN a = getN b) : a = b := by
  rw [← putN_getN a, ← putN_getN b, e, h]
theorem getN_lt32 {a : List UInt8} (h : a.length = 32) : getN a < 256 ^ 32 := by have := getN_lt a; rwa [h] at this
theorem putN_mod (n k : Nat) : putN (n % 256 ^ k) k = putN n k := by
  refine getN_inj (by rw [putN_length, putN_length]) ?_
  rw [getN_putN, getN_putN, Nat.mod_mod]
theorem addL_val (a b : List UInt8) : getN (addL a b) = (getN a + getN b) % 256 ^ 32 := getN_putN _ _
theorem subL_val (a b : List UInt8) : getN (subL a b) = (getN a + 256 ^ 32 - getN b) % 256 ^ 32 := getN_putN _ _
theorem eq32 {a b : List UInt8} (ha : a.length = 32) (hb : b.length = 32) (e : getN a = getN b) : a = b := getN_inj (ha.trans hb.symm) e
theorem addL_comm (a b : List UInt8) : addL b a = addL a b := by unfold addL; rw [Nat.add_comm]
theorem addL_assoc {a b c : List UInt8} : addL (addL a b) c = addL a (addL b c) := by
  refine eq32 (addL_length _ _) (addL_length _ _) ?_
  rw [addL_val, addL_val, addL_val, addL_val]
  generalize getN a = x; generalize getN b = y; generalize getN c = z
  rw [Nat.mod_add_mod, Nat.add_mod_mod, Nat.add_assoc]
theorem sub_add {a b : List UInt8} (ha : a.length = 32) (hb : b.length = 32) : subL (addL a b) b = a := by
  refine eq32 (subL_length _ _) ha ?_
  rw [subL_val, addL_val]
  have h1 := getN_lt32 ha
  have h2 := getN_lt32 hb
  generalize getN a = x at *; generalize getN b = y at *; generalize 256 ^ 32 = m at *
  by_cases h : x + y < m
  · rw [Nat.mod_eq_of_lt h, show x + y + m - y = x + m by omega, Nat.add_mod_right, Nat.mod_eq_of_lt h1]
  · rw [show (x + y) % m = x + y - m by rw [Nat.mod_eq_sub_mod (by omega), Nat.mod_eq_of_lt (by omega)], show x + y - m + m - y = x by omega, Nat.mod_eq_of_lt h1]
theorem add_sub {a b : List UInt8} (ha : a.length = 32) (hb : b.length = 32) : addL (subL a b) b = a := by
  refine eq32 (addL_length _ _) ha ?_
  rw [addL_val, subL_val]
  have h1 := getN_lt32 ha
  have h2 := getN_lt32 hb
  generalize getN a = x at *; generalize getN b = y at *; generalize 256 ^ 32 = m at *
  rw [Nat.mod_add_mod, show x + m - y + y = x + m by omega, Nat.add_mod_right, Nat.mod_eq_of_lt h1]
def z32 : List UInt8 := List.replicate 32 0
theorem z32_val : getN z32 = 0 := by decide +kernel
theorem z32_length : z32.length = 32 := by decide
theorem sub_self {a : List UInt8} (ha : a.length = 32) : subL a a = z32 := by
  refine eq32 (subL_length _ _) z32_length ?_
  rw [subL_val, z32_val]
  have h1 := getN_lt32 ha
  generalize getN a = x at *; generalize 256 ^ 32 = m at *
  rw [show x + m - x = m by omega, Nat.mod_self]
theorem add_zero {a : List UInt8} (ha : a.length = 32) : addL a z32 = a := by
  refine eq32 (addL_length _ _) ha ?_
  rw [addL_val, z32_val, Nat.add_zero, Nat.mod_eq_of_lt (getN_lt32 ha)]
theorem zero_add {a : List UInt8} (ha : a.length = 32) : addL z32 a = a := by rw [addL_comm, add_zero ha]
theorem sub_zero {a : List UInt8} (ha : a.length = 32) : subL a z32 = a := by
  refine eq32 (subL_length _ _) ha ?_
  rw [subL_val, z32_val, Nat.sub_zero, Nat.add_mod_right, Nat.mod_eq_of_lt (getN_lt32 ha)]
/-- who adds c to both ends has what was between -/
theorem sub_of_add {a b c : List UInt8} (hb : b.length = 32) (hc : c.length = 32) (e : a = addL b c) : subL a c = b := by rw [e]; exact sub_add hb hc

/-! words of 64 bits, the least one first -/
def B64 : Nat := 18446744073709551616
def numCells (l : List Nat) : List Value := l.map fun (n : Nat) => Value.int .u64 (n : Int)
theorem numCells_length (l : List Nat) : (numCells l).length = l.length := by simp [numCells]
theorem numCells_one (l : List Nat) : ∀ u ∈ numCells l, u.oneCell' = true := by
  intro u hu
  obtain ⟨_, _, rfl⟩ := List.mem_map.1 hu
  rfl
def dg (n i : Nat) : Nat := n / 2 ^ (64 * i) % 2 ^ 64
theorem dg_lt (n i : Nat) : dg n i < 18446744073709551616 := Nat.mod_lt _ (by decide)
def W4 (n : Nat) : List Nat := (List.range 4).map (dg n)
theorem W4_length (n : Nat) : (W4 n).length = 4 := by simp [W4]
/-- a row of which the first k are new -/
def part4 (f g : Nat → Nat) (k : Nat) : List Nat := (List.range 4).map fun i => if i < k then f i else g i
theorem part4_length (f g : Nat → Nat) (k : Nat) : (part4 f g k).length = 4 := by simp [part4]
theorem part4_none (f : Nat → Nat) (n : Nat) : part4 f (dg n) 0 = W4 n := by
  unfold part4 W4
  exact List.map_congr_left fun i _ => by rw [if_neg (by omega)]
theorem part4_all (n : Nat) (g : Nat → Nat) : part4 (dg n) g 4 = W4 n := by
  unfold part4 W4
  exact List.map_congr_left fun i hi => by rw [if_pos (List.mem_range.1 hi)]
theorem part4_zero (f : Nat → Nat) : numCells (part4 f (fun _ => 0) 0) = List.replicate 4 (.int .u64 0) := by
  rw [List.eq_replicate_iff]
  refine ⟨by rw [numCells_length, part4_length], fun b hb => ?_⟩
  unfold numCells part4 at hb
  rw [List.map_map] at hb
  obtain ⟨j, _, rfl⟩ := List.mem_map.1 hb
  simp
theorem part4_set (f g : Nat → Nat) (k : Nat) : (numCells (part4 f g k)).set k (.int .u64 ((f k : Nat) : Int)) = numCells (part4 f g (k + 1)) := by
  unfold numCells
  rw [show (Value.int .u64 ((f k : Nat) : Int)) = (fun n : Nat => Value.int .u64 (n : Int)) (f k) from rfl, ← List.map_set]
  congr 1
  refine List.ext_getElem (by rw [List.length_set, part4_length, part4_length]) fun i h1 h2 => ?_
  rw [List.getElem_set]
  simp only [part4, List.getElem_map, List.getElem_range]
  by_cases hi : k = i
  · subst hi; simp
  · rw [if_neg hi]
    by_cases h3 : i < k
    · rw [if_pos h3, if_pos (by omega)]
    · rw [if_neg h3, if_neg (by omega)]
theorem part4_at (f g : Nat → Nat) (k i : Nat) (hi : i < 4) (hk : k ≤ i) : (numCells (part4 f g k))[i]? = some (.int .u64 ((g i : Nat) : Int)) := by
  unfold numCells part4
  rw [List.map_map, List.getElem?_map, List.getElem?_range hi]
  simp only [Option.map_some, Function.comp, if_neg (show ¬ i < k by omega)]
theorem W4_at (n i : Nat) (hi : i < 4) : (numCells (W4 n))[i]? = some (.int .u64 ((dg n i : Nat) : Int)) := by
  unfold numCells W4
  rw [List.map_map, List.getElem?_map, List.getElem?_range hi]
  rfl

/-- what is carried past the first k words -/
def carryN (m n k : Nat) : Nat := (m % 2 ^ (64 * k) + n % 2 ^ (64 * k)) / 2 ^ (64 * k)
def borrowN (m n k : Nat) : Nat := if m % 2 ^ (64 * k) < n % 2 ^ (64 * k) then 1 else 0
theorem carryN_le (m n k : Nat) : carryN m n k ≤ 1 := by
  unfold carryN
  have hp : 0 < 2 ^ (64 * k) := Nat.two_pow_pos _
  have h1 := Nat.mod_lt m hp
  have h2 := Nat.mod_lt n hp
  generalize 2 ^ (64 * k) = P at *
  have : (m % P + n % P) / P < 2 := Nat.div_lt_of_lt_mul (by omega)
  omega
theorem borrowN_le (m n k : Nat) : borrowN m n k ≤ 1 := by unfold borrowN; split <;> omega
theorem carryN_zero (m n : Nat) : carryN m n 0 = 0 := by unfold carryN; simp [Nat.mod_one]
theorem borrowN_zero (m n : Nat) : borrowN m n 0 = 0 := by unfold borrowN; simp [Nat.mod_one]
theorem pow_succ64 (k : Nat) : 2 ^ (64 * (k + 1)) = 2 ^ (64 * k) * 2 ^ 64 := by rw [Nat.mul_succ, Nat.pow_add]
theorem add_parts (m n P B : Nat) (hP : 0 < P) :
    (m + n) / P % B = (m / P % B + n / P % B + (m % P + n % P) / P) % B ∧ (m % (P * B) + n % (P * B)) / (P * B) = (m / P % B + n / P % B + (m % P + n % P) / P) / B := by
  constructor
  · have h : (m + n) / P = m / P + n / P + (m % P + n % P) / P := by
      have e1 := Nat.div_add_mod m P
      have e2 := Nat.div_add_mod n P
      have e3 : m + n = (m % P + n % P) + P * (m / P + n / P) := by rw [Nat.mul_add]; omega
      rw [e3, Nat.add_mul_div_left _ _ hP]; omega
    rw [h]
    generalize (m % P + n % P) / P = c
    rw [Nat.add_mod (m / P + n / P) c, Nat.add_mod (m / P) (n / P), Nat.add_mod (m / P % B + n / P % B) c]
  · rw [Nat.mod_mul, Nat.mod_mul, ← Nat.div_div_eq_div_mul]
    have e3 : m % P + P * (m / P % B) + (n % P + P * (n / P % B)) = (m % P + n % P) + P * (m / P % B + n / P % B) := by rw [Nat.mul_add]; omega
    rw [e3, Nat.add_mul_div_left _ _ hP, Nat.add_comm]
theorem plus_digit (m n k : Nat) : dg (m + n) k = (dg m k + dg n k + carryN m n k) % 18446744073709551616 ∧ carryN m n (k + 1) = (dg m k + dg n k + carryN m n k) / 18446744073709551616 := by
  have h := add_parts m n (2 ^ (64 * k)) (2 ^ 64) (Nat.two_pow_pos _)
  unfold dg carryN
  rw [pow_succ64]
  exact h
theorem plus_all (m n : Nat) : W4 (m + n) = W4 ((m + n) % 256 ^ 32) := by
  unfold W4
  refine List.map_congr_left fun i hi => ?_
  have hi4 := List.mem_range.1 hi
  unfold dg
  rw [show (256 : Nat) ^ 32 = 2 ^ (64 * i) * 2 ^ (64 * (4 - i)) by rw [← Nat.pow_add, show 64 * i + 64 * (4 - i) = 256 by omega], Nat.mod_mul_right_div_self]
  rw [show 2 ^ (64 * (4 - i)) = 2 ^ 64 * 2 ^ (64 * (3 - i)) by rw [← Nat.pow_add]; congr 1; omega, Nat.mod_mul_right_mod]
/-- x less y less b, as Nat: what is left, and whether it is too little -/
theorem sub_parts (m n P B : Nat) (hP : 0 < P) (hB : 0 < B) (r : Nat) (hn : n ≤ P * B * r) :
    (m + P * B * r - n) / P % B = (m / P % B + B - n / P % B + B - (if m % P < n % P then 1 else 0)) % B ∧
    (if m % (P * B) < n % (P * B) then 1 else 0) = (if m / P % B < n / P % B + (if m % P < n % P then 1 else 0) then 1 else 0) := by
  obtain ⟨m0, hm0⟩ : ∃ x, x = m % P := ⟨_, rfl⟩
  obtain ⟨n0, hn0⟩ : ∃ x, x = n % P := ⟨_, rfl⟩
  obtain ⟨m1, hm1⟩ : ∃ x, x = m / P := ⟨_, rfl⟩
  obtain ⟨n1, hn1⟩ : ∃ x, x = n / P := ⟨_, rfl⟩
  have e1 : P * m1 + m0 = m := by rw [hm0, hm1]; exact Nat.div_add_mod m P
  have e2 : P * n1 + n0 = n := by rw [hn0, hn1]; exact Nat.div_add_mod n P
  have l1 : m0 < P := by rw [hm0]; exact Nat.mod_lt _ hP
  have l2 : n0 < P := by rw [hn0]; exact Nat.mod_lt _ hP
  rw [← hm0, ← hn0, ← hm1, ← hn1]
  constructor
  · obtain ⟨b, hb⟩ : ∃ b, b = (if m0 < n0 then 1 else 0) := ⟨_, rfl⟩
    rw [← hb]
    have hR : n1 + b ≤ m1 + B * r := by
      have h1 : P * n1 + n0 ≤ P * (B * r) := by rw [e2, ← Nat.mul_assoc]; exact hn
      rcases Nat.lt_or_ge n1 (B * r) with h | h
      · have : b ≤ 1 := by rw [hb]; split <;> omega
        omega
      · have h2 : P * (B * r) ≤ P * n1 := Nat.mul_le_mul_left _ h
        have h3 : n0 = 0 := by omega
        have h4 : n1 = B * r := Nat.eq_of_mul_eq_mul_left hP (by omega)
        have h5 : b = 0 := by rw [hb, h3]; simp
        omega
    have hdiv : (m + P * B * r - n) / P = m1 + B * r - n1 - b := by
      have h1 : m + P * B * r - n = P * (m1 + B * r - n1 - b) + (m0 + P * b - n0) := by
        have hq : P * (m1 + B * r - n1 - b) = P * m1 + P * (B * r) - P * n1 - P * b := by rw [Nat.mul_sub, Nat.mul_sub, Nat.mul_add]
        have hR2 : P * n1 + P * b ≤ P * m1 + P * (B * r) := by rw [← Nat.mul_add, ← Nat.mul_add]; exact Nat.mul_le_mul_left _ hR
        have hb2 : n0 ≤ m0 + P * b := by
          rw [hb]; split
          · rw [Nat.mul_one]; omega
          · rw [Nat.mul_zero]; omega
        rw [hq, ← e1, ← e2, Nat.mul_assoc]
        omega
      rw [h1, Nat.mul_comm P, Nat.add_comm, Nat.add_mul_div_right _ _ hP]
      have : (m0 + P * b - n0) / P = 0 := by
        refine Nat.div_eq_of_lt ?_
        rw [hb]; split
        · rw [Nat.mul_one]; omega
        · rw [Nat.mul_zero]; omega
      omega
    rw [hdiv]
    have hb1 : b ≤ 1 := by rw [hb]; split <;> omega
    have h1 := Nat.div_add_mod m1 B
    have h2 := Nat.div_add_mod n1 B
    have h3 := Nat.mod_lt m1 hB
    have h4 := Nat.mod_lt n1 hB
    generalize m1 % B = x at *
    generalize n1 % B = y at *
    have e : (m1 + B * r - n1 - b) + B * (n1 / B) + B * 2 = (x + B - y + B - b) + B * (m1 / B) + B * r := by omega
    have e5 : ((m1 + B * r - n1 - b) + B * (n1 / B) + B * 2) % B = (m1 + B * r - n1 - b) % B := by rw [Nat.add_mul_mod_self_left, Nat.add_mul_mod_self_left]
    have e6 : ((x + B - y + B - b) + B * (m1 / B) + B * r) % B = (x + B - y + B - b) % B := by rw [Nat.add_mul_mod_self_left, Nat.add_mul_mod_self_left]
    rw [← e5, e, e6]
  · rw [Nat.mod_mul, Nat.mod_mul, ← hm0, ← hn0, ← hm1, ← hn1]
    generalize m1 % B = x
    generalize n1 % B = y
    have key : m0 + P * x < n0 + P * y ↔ x < y + (if m0 < n0 then 1 else 0) := by
      rcases Nat.lt_trichotomy x y with h | h | h
      · have : P * x + P ≤ P * y := by rw [← Nat.mul_succ]; exact Nat.mul_le_mul_left _ h
        constructor
        · intro _; omega
        · intro _; omega
      · subst h
        split <;> omega
      · have : P * y + P ≤ P * x := by rw [← Nat.mul_succ]; exact Nat.mul_le_mul_left _ h
        constructor
        · intro _; omega
        · intro h2; split at h2 <;> omega
    by_cases hk : m0 + P * x < n0 + P * y
    · rw [if_pos hk, if_pos (key.1 hk)]
    · rw [if_neg hk, if_neg (fun h => hk (key.2 h))]
theorem minus_digit (m n k : Nat) (hk : k < 4) (hn : n < 256 ^ 32) :
    dg (m + 256 ^ 32 - n) k = (dg m k + 18446744073709551616 - dg n k + 18446744073709551616 - borrowN m n k) % 18446744073709551616 ∧
    borrowN m n (k + 1) = (if dg m k < dg n k + borrowN m n k then 1 else 0) := by
  have h := sub_parts m n (2 ^ (64 * k)) (2 ^ 64) (Nat.two_pow_pos _) (Nat.two_pow_pos _) (2 ^ (64 * (3 - k)))
  have e : 2 ^ (64 * k) * 2 ^ 64 * 2 ^ (64 * (3 - k)) = 256 ^ 32 := by
    rw [← Nat.pow_add, ← Nat.pow_add, show 64 * k + 64 + 64 * (3 - k) = 256 by omega]
  rw [e] at h
  obtain ⟨h1, h2⟩ := h (by omega)
  unfold dg borrowN
  rw [pow_succ64]
  exact ⟨h1, h2⟩
theorem borrow_end (m n : Nat) (hm : m < 256 ^ 32) (hn : n < 256 ^ 32) : borrowN m n 4 = if m < n then 1 else 0 := by
  unfold borrowN
  rw [show 2 ^ (64 * 4) = 256 ^ 32 by decide, Nat.mod_eq_of_lt hm, Nat.mod_eq_of_lt hn]
/-- the words of bytes -/
theorem word_at (l : List UInt8) (hl : l.length = 32) (i : Nat) (hi : i < 4) : getN ((l.take (24 - 8 * i + 8)).drop (24 - 8 * i)) = dg (getN l) i := by
  have e1 : l = l.take (24 - 8 * i) ++ (l.take (24 - 8 * i + 8)).drop (24 - 8 * i) ++ l.drop (24 - 8 * i + 8) := by
    conv => lhs; rw [← List.take_append_drop (24 - 8 * i + 8) l]
    congr 1
    conv => lhs; rw [← List.take_append_drop (24 - 8 * i) (l.take (24 - 8 * i + 8))]
    rw [List.take_take, Nat.min_eq_left (by omega)]
  have hx : ((l.take (24 - 8 * i + 8)).drop (24 - 8 * i)).length = 8 := by simp; omega
  have hz : (l.drop (24 - 8 * i + 8)).length = 8 * i := by simp; omega
  generalize (l.take (24 - 8 * i + 8)).drop (24 - 8 * i) = x at *
  generalize l.take (24 - 8 * i) = y at *
  generalize l.drop (24 - 8 * i + 8) = z at *
  rw [e1, getN_append, getN_append, hx, hz]
  have h1 := getN_lt x
  have h2 := getN_lt z
  rw [hx] at h1
  rw [hz] at h2
  unfold dg
  rw [show 2 ^ (64 * i) = 256 ^ (8 * i) by rw [show (256 : Nat) = 2 ^ 8 from rfl, ← Nat.pow_mul]; congr 1; omega]
  generalize getN x = gx at *
  generalize getN y = gy at *
  generalize getN z = gz at *
  rw [show (gy * 256 ^ 8 + gx) * 256 ^ (8 * i) + gz = gz + 256 ^ (8 * i) * (gy * 256 ^ 8 + gx) by rw [Nat.mul_comm (256 ^ (8 * i))]; omega, Nat.add_mul_div_left _ _ (Nat.pow_pos (by decide)), Nat.div_eq_of_lt h2, Nat.zero_add]
  have e8 : (256 : Nat) ^ 8 = 18446744073709551616 := by decide
  rw [e8] at h1
  rw [e8, Nat.mul_comm, Nat.add_comm, Nat.add_mul_mod_self_left, Nat.mod_eq_of_lt h1]
/-- the bytes of words: the last 8 k are there -/
def tailL (n k : Nat) : List UInt8 := List.replicate (32 - 8 * k) 0 ++ putN n (8 * k)
theorem tailL_length (n k : Nat) (hk : k ≤ 4) : (tailL n k).length = 32 := by simp [tailL, putN_length]; omega
theorem putN_split (n a b : Nat) : putN n (a + b) = putN (n / 256 ^ b) a ++ putN n b := by
  refine getN_inj (by simp [putN_length]) ?_
  rw [getN_putN, getN_append, getN_putN, getN_putN, putN_length, Nat.pow_add]
  rw [Nat.mul_comm (256 ^ a), Nat.mod_mul, Nat.mul_comm (256 ^ b), Nat.add_comm]
theorem dg_put (n k : Nat) : putN (dg n k) 8 = putN (n / 256 ^ (8 * k)) 8 := by
  unfold dg
  rw [show 2 ^ (64 * k) = 256 ^ (8 * k) by rw [show (256 : Nat) = 2 ^ 8 from rfl, ← Nat.pow_mul]; congr 1; omega, show 2 ^ 64 = 256 ^ 8 from rfl, putN_mod]
theorem tail_next (n k : Nat) (hk : k < 4) : (tailL n k).take (24 - 8 * k) ++ (putN (dg n k) 8 ++ (tailL n k).drop (24 - 8 * k + 8)) = tailL n (k + 1) := by
  unfold tailL
  rw [List.take_append_of_le_length (by simp; omega), List.take_replicate, Nat.min_eq_left (by omega), List.drop_append_of_le_length (by simp; omega), List.drop_replicate]
  rw [show 32 - 8 * k - (24 - 8 * k + 8) = 0 by omega, List.replicate_zero, List.nil_append, show 32 - 8 * (k + 1) = 24 - 8 * k by omega, show 8 * (k + 1) = 8 + 8 * k by omega, putN_split, dg_put]
theorem tail_none (n : Nat) : cells8 (tailL n 0) = List.replicate 32 (.int .u8 0) := by
  unfold tailL cells8
  rw [show putN n (8 * 0) = [] from rfl, List.append_nil, List.map_replicate]; rfl
theorem tail_all (n : Nat) : tailL n 4 = putN n 32 := by
  unfold tailL
  rw [show 32 - 8 * 4 = 0 from rfl, List.replicate_zero, List.nil_append]
end Go.Proofs.Ythpfiieaanioeaa

namespace Go.Proofs.Ythpfiieaanioeaa
open Go.RowKit

/-- an element's type: of one cell, and no array or struct -/
structure Plain1 (P : Program) (e : TypeId) : Prop where
  size : (P.info? e).map (·.size) = some 1
  plain : (match P.underlying e with | some (.int _) => true | some .bool => true | some .string => true | some (.slice _) => true | some (.pointer _) => true | _ => false) = true
theorem run_index_agg {P : Program} {t e : TypeId} {n : Nat} (ht : P.underlying t = some (.array n e)) (E : Plain1 P e) (cs : List Value) (k : IntKind) (i : Nat) (hi : i < n) (v : Value) (hv : cs[i]? = some v) (w : World) :
    (Instr.index t (.agg cs.toArray) (.int k (i : Int))).run P w = .ok v w := by
  have hin : (0 : Int) ≤ (i : Int) ∧ (i : Int) < (n : Int) := by omega
  obtain ⟨inf, hinf, hsz⟩ : ∃ inf, P.info? e = some inf ∧ inf.size = 1 := by
    have h := E.size
    cases hq : P.info? e with
    | none => simp [hq] at h
    | some x => exact ⟨x, rfl, by simpa [hq] using h⟩
  have hs : (Go.sizeOf e).run P w = .ok 1 w := by simp [Go.sizeOf, typeInfo, hinf, hsz]
  have hp : (part e cs.toArray i).run P w = .ok v w := by
    have hpl := E.plain
    unfold part
    cases hu : P.underlying e with
    | none => rw [hu] at hpl; simp at hpl
    | some d =>
      rw [hu] at hpl
      cases d <;> simp at hpl <;> simp [isAgg, run_underlying hu, hv]
  simp only [Instr.index, asIntOf, Sem.run_bind, Sem.run_pure, Result.andThen_ok, run_underlying ht, if_pos hin, hs, Int.toNat_natCast, Nat.mul_one, hp]

section
variable {P : Program} {w : World} {ops : Array Oper} {rest : List Oper} {o : Oper} {a : Act} {Q : Exit → Act → World → Prop} {t e : TypeId}
theorem wpList_index {n : Nat} (ht : P.underlying t = some (.array n e)) (E : Plain1 P e) (hg : o.guard = none) (x j : Operand) (hop : o.op = .index t x j) {cs : List Value} (hx : a.eval x = .agg cs.toArray) {k : IntKind} {I : Int} (hj : a.eval j = .int k I) (i : Nat) (hI : I = (i : Int)) (hi : i < n) {v : Value} (hv : cs[i]? = some v)
    (h : wpList P ops Q rest (a.put o.dst v) w) : wpList P ops Q (o :: rest) a w := by
  subst hI
  refine wpList_plain hg fun K hK => ?_
  unfold Oper.wp
  simp only [execOp, hop, hx, hj, Sem.run_bind, run_index_agg ht E cs k i hi v hv, Result.andThen_ok, Sem.run_pure]
  exact hK _ _ h
end
end Go.Proofs.Ythpfiieaanioeaa

namespace Go.Proofs.Ythpfiieaanioeaa
open Go.RowKit

theorem add64_run (x y c s d : Nat) (hc : c ≤ 1) (hs : s = (x + y + c) % 18446744073709551616) (hd : d = (x + y + c) / 18446744073709551616) (w : World) :
    (callFunc 44 #[.int .u64 (x : Int), .int .u64 (y : Int), .int .u64 (c : Int)]).run Try.prog w = .ok (.value (.tuple #[.int .u64 (s : Int), .int .u64 (d : Int)])) w := by
  subst hs hd
  rw [run_callFunc_extern Try.func44 (by kernel_rfl) (by kernel_rfl) (by kernel_rfl) (e := add64Entry) (by kernel_rfl), run_add64 x y c (by omega) (by omega) (by omega) (by omega)]
  simp only [Result.andThen]
  congr 5 <;> omega
def zeroW4 : List Value := List.replicate 4 (.int .u64 0)
theorem tyWords : Ty Try.prog 66 zeroW4 := ⟨by kernel_rfl⟩
theorem rwWords : Rw Try.prog 66 (.array 4 64) 4 := ⟨by kernel_rfl, rfl, by kernel_rfl⟩
theorem plain64 : Plain1 Try.prog 64 := ⟨by kernel_rfl, by kernel_rfl⟩
theorem plus_parts (m n k : Nat) : ∃ x y c s d : Nat, c ≤ 1 ∧ Kp (dg m k = x) ∧ Kp (dg n k = y) ∧ Kp (carryN m n k = c) ∧ Kp (dg (m + n) k = s) ∧ Kp (carryN m n (k + 1) = d) ∧
    ∀ w, (callFunc 44 #[.int .u64 (x : Int), .int .u64 (y : Int), .int .u64 (c : Int)]).run Try.prog w = .ok (.value (.tuple #[.int .u64 (s : Int), .int .u64 (d : Int)])) w :=
  ⟨_, _, _, _, _, carryN_le m n k, ⟨rfl⟩, ⟨rfl⟩, ⟨rfl⟩, ⟨rfl⟩, ⟨rfl⟩, fun w => add64_run _ _ _ _ _ (carryN_le m n k) (plus_digit m n k).1 (plus_digit m n k).2 w⟩
/-- the results of many cells and of one -/
theorem ret_arr_tmp {P : Program} {w : World} {a : Act} {t : TypeId} {fn : Func} {R : Ending → World → Prop} {p q : Tmp} {d : TypeDesc} {n : Nat} (hr : fn.results = #[.cell p t, .tmp q]) (E : Rw P t d n) {g : Nat} {t' : TypeId} {cs : List Value} {v2 : Value} (hx : a.tmps.getD p undef = .pointer (some ⟨g, 0, none⟩)) (hq : a.tmps.getD q undef = v2) (hb : Blk w g t' cs) (hn : cs.length = n) (hd : a.defers = [])
    (h : R (.returned (.tuple #[.agg cs.toArray, v2])) w) : bodyPost P fn R .ret a w := by
  have hl := run_load_rw (w := w) E hb (off := 0) (by omega)
  simp only [Instr.loadAt, Instr.sureAddr, Sem.run_bind, Sem.run_pure, Result.andThen_ok] at hl
  have e : (cs.drop 0).take n = cs := by rw [List.drop_zero, List.take_of_length_le (by omega)]
  rw [e] at hl
  have hx' : a.tmps[p]?.getD undef = .pointer (some ⟨g, 0, none⟩) := by simpa using hx
  have hq' : a.tmps[q]?.getD undef = v2 := by simpa using hq
  exact bodyPost_ret (v := .tuple #[.agg cs.toArray, v2]) (by simp only [results, hr]; simp [hx', hq', asAddr, hl]) hd h
end Go.Proofs.Ythpfiieaanioeaa

namespace Go.Proofs.Ythpfiieaanioeaa
open Go.RowKit

set_option maxRecDepth 100000 in
set_option maxHeartbeats 4000000 in
theorem plus_any (m n : Nat) (w : World) : Calls Try.prog 35 #[.agg (numCells (W4 m)).toArray, .agg (numCells (W4 n)).toArray] w fun e w' => e = .returned (.agg (numCells (W4 (m + n))).toArray) ∧ Below w.heap.size w w' := by
  have HLm : Kp ((numCells (W4 m)).length = 4) := ⟨by rw [numCells_length, W4_length]⟩
  go_enter Try.func35, Try.ntmps35
  go_wp2_with (with_reducible refine wpList_box (o := ⟨some 2, _, _, _, _, _⟩) rfl (.tmp 0) rfl rfl ?_)
  intro w1 hk1 hb1 hs1
  have HK1 : Kp _ := ⟨hk1⟩
  clear hk1 hs1
  go_wp2_with (with_reducible refine wpList_box (o := ⟨some 3, _, _, _, _, _⟩) rfl (.tmp 1) rfl rfl ?_)
  intro w2 hk2 hb2 hs2
  have HN2 : Kp _ := ⟨hk2⟩
  have HA2 : Kp _ := ⟨HK1.out.below hb2 HK1.out.lt⟩
  have hB2 : Below w.heap.size w w2 := hb1.trans (hb2.mono hb1.size)
  have n1 : w.heap.size < w1.heap.size := HK1.out.lt
  clear hk2 hb1 hb2 hs2 HK1
  go_wp2_with (with_reducible refine wpList_alloc (o := ⟨some 4, _, _, _, _, _⟩) tyWords rfl rfl ?_)
  intro w3 hk3 hb3 hs3
  have HR3 : Kp _ := ⟨hk3⟩
  have HN3 : Kp _ := ⟨HN2.out.below hb3 HN2.out.lt⟩
  have HA3 : Kp (Blk w3 w.heap.size 66 (numCells (part4 (dg (m + n)) (dg m) 0))) := ⟨by rw [part4_none]; exact HA2.out.below hb3 HA2.out.lt⟩
  have hB3 : Below w.heap.size w w3 := hB2.trans (hb3.mono hB2.size)
  have n2 : w1.heap.size < w2.heap.size := HN2.out.lt
  obtain ⟨gn, hgn⟩ : ∃ g, g = w1.heap.size := ⟨_, rfl⟩
  obtain ⟨gr, hgr⟩ : ∃ g, g = w2.heap.size := ⟨_, rfl⟩
  rw [← hgn] at HN3 n1 n2
  rw [← hgr] at HR3 n2
  rw [← hgn, ← hgr]
  have HC0 : Kp _ := ⟨carryN_zero m n⟩
  clear hk3 hb3 hs3 HN2 HA2 hB2 hgn hgr
  go_wp2
  go_loopg [5, 7] 4 (fun gk vc vi wr => ∃ k : Nat, k + gk = 4 ∧ vi = .int .i64 k ∧ vc = .int .u64 ((carryN m n k : Nat) : Int) ∧ Kp (Blk wr w.heap.size 66 (numCells (part4 (dg (m + n)) (dg m) k))) ∧ Kp (Blk wr gn 66 (numCells (W4 n))) ∧ Kp (Blk wr gr 66 zeroW4) ∧ Below w.heap.size w wr)
  case atStart => exact ⟨0, by omega, rfl, by rw [HC0.out]; rfl, HA3, HN3, HR3, hB3⟩
  case round =>
    clear HA3 HN3 HR3 hB3 HC0
    obtain ⟨k, hk, rfl, rfl, HA, HN, HR, hB⟩ := hrel
    cases gk with
    | zero =>
      obtain rfl : k = 4 := by omega
      have HD : Kp (Blk wr w.heap.size 66 (numCells (W4 (m + n)))) := ⟨by rw [← part4_all (m + n) (dg m)]; exact HA.out⟩
      have HLen : Kp ((numCells (W4 (m + n))).length = 4) := ⟨by rw [numCells_length, W4_length]⟩
      have HZ : Kp (zeroW4.length = 4) := ⟨rfl⟩

      generalize hL : W4 (m + n) = L at *
      have HL : Kp _ := ⟨hL⟩
      clear HA HN hL
      go_wp2_with (first
        | (with_reducible refine wpList_loadAll (o := ⟨some 24, _, _, _, _, _⟩) rwWords rfl (.tmp 2) rfl rfl HD.out HLen.out ?_)
        | (with_reducible refine wpList_storeAll (o := ⟨none, _, _, _, _, _⟩) (vs := numCells L) rwWords rfl (.tmp 4) (.tmp 24) rfl rfl HR.out HZ.out HLen.out (numCells_one _) rfl ?_))
      intro w5 hk5 ho5
      have HK5 : Kp _ := ⟨hk5⟩
      clear hk5
      go_wp2
      exact ret_arr rfl rwWords rfl HK5.out HLen.out rfl ⟨by rw [HL.out], hB.trans (ho5.below (by omega))⟩
    | succ g2 =>
      have hkI : (k : Int) < 4 := by omega
      have hk4 : k < 4 := by omega
      obtain ⟨x, y, c, s, d, hc1, HX, HY, HCx, HS, HD, hrun⟩ := plus_parts m n k
      have hca : wr.cell? ⟨w.heap.size, k, none⟩ = some (.int .u64 (x : Int)) := by rw [HA.out.cell?, part4_at _ _ _ _ hk4 (Nat.le_refl _), HX.out]
      have hcn : wr.cell? ⟨gn, k, none⟩ = some (.int .u64 (y : Int)) := by rw [HN.out.cell?, W4_at _ _ hk4, HY.out]
      have hfa := HA.out.frozen k
      have HSet : Kp _ := ⟨part4_set (dg (m + n)) (dg m) k⟩
      rw [HS.out] at HSet
      rw [HCx.out]
      obtain ⟨wa, rfl⟩ : ∃ x, x = wr := ⟨wr, rfl⟩
      go_wp2_with fail
      replace hca : wa.drew.cell? ⟨w.heap.size, k, none⟩ = some (.int .u64 (x : Int)) := hca
      replace hcn : wa.drew.cell? ⟨gn, k, none⟩ = some (.int .u64 (y : Int)) := hcn
      replace hfa : wa.drew.frozen? ⟨w.heap.size, k, none⟩ = false := hfa
      refine wp_region_any (by kernel_rfl) ?_
      change wpAny _ _ _ _ _ _ _ wa.drew
      replace HA : Kp _ := ⟨HA.out.drew⟩
      replace HN : Kp _ := ⟨HN.out.drew⟩
      replace HR : Kp _ := ⟨HR.out.drew⟩
      replace hB := hB.drew
      generalize wa.drew = wS at *
      refine wpAny_take (i := 0) (oi := ⟨some 11, _, _, _, _, _⟩) (v := ?_) rfl (by kernel_rfl) (by kernel_rfl) (by kernel_rfl) (fun _ _ _ h => h) (Or.inl ⟨by rfl, by intro w; go_simp; try rfl⟩) ?_
      try simp only [Act.put, List.setIfInBounds_toArray, List.set_cons_zero, List.set_cons_succ]
      refine wpAny_take (i := 1) (oi := ⟨some 12, _, _, _, _, _⟩) (v := ?_) rfl (by kernel_rfl) (by kernel_rfl) (by kernel_rfl) (fun _ _ _ h => h) (Or.inl ⟨by rfl, by intro w; go_simp; try rfl⟩) ?_
      try simp only [Act.put, List.setIfInBounds_toArray, List.set_cons_zero, List.set_cons_succ]
      refine wpAny_take (i := 2) (oi := ⟨some 13, _, _, _, _, _⟩) (v := ?_) rfl (by kernel_rfl) (by kernel_rfl) (by kernel_rfl) (fun _ _ _ h => h) (Or.inl ⟨by rfl, by intro w; go_simp; try rfl⟩) ?_
      try simp only [Act.put, List.setIfInBounds_toArray, List.set_cons_zero, List.set_cons_succ]
      refine wpAny_take (i := 4) (oi := ⟨some 15, _, _, _, _, _⟩) (v := ?_) rfl (by kernel_rfl) (by kernel_rfl) (by kernel_rfl) (fun _ _ _ h => h) (Or.inl ⟨by rfl, by intro w; go_simp; try rfl⟩) ?_
      try simp only [Act.put, List.setIfInBounds_toArray, List.set_cons_zero, List.set_cons_succ]
      refine wpAny_take (i := 5) (oi := ⟨some 16, _, _, _, _, _⟩) (v := ?_) rfl (by kernel_rfl) (by kernel_rfl) (by kernel_rfl) (fun _ _ _ h => h) (Or.inl ⟨by rfl, by intro w; go_simp; try rfl⟩) ?_
      try simp only [Act.put, List.setIfInBounds_toArray, List.set_cons_zero, List.set_cons_succ]
      refine wpAny_take (i := 7) (oi := ⟨some 18, _, _, _, _, _⟩) (v := ?_) rfl (by kernel_rfl) (by kernel_rfl) (by kernel_rfl) (fun _ _ _ h => h) (Or.inl ⟨by rfl, by intro w; go_simp; try rfl⟩) ?_
      try simp only [Act.put, List.setIfInBounds_toArray, List.set_cons_zero, List.set_cons_succ]
      refine wpAny_ready (rs := [3, 6]) (by kernel_rfl) (by simp) ?_
      refine AllReady.cons (o := ⟨some 14, _, _, _, _, _⟩) rfl (fun K hK => ?_) (AllReady.cons (o := ⟨some 17, _, _, _, _, _⟩) rfl (fun K hK => ?_) AllReady.nil)
      · go_simp
        refine hK _ _ ?_
        clear hK K
        try simp only [Act.put, List.setIfInBounds_toArray, List.set_cons_zero, List.set_cons_succ]
        refine wpAny_ready (rs := [6]) (by kernel_rfl) (by simp) ?_
        refine AllReady.cons (o := ⟨some 17, _, _, _, _, _⟩) rfl (fun K hK => ?_) AllReady.nil
        go_simp
        refine hK _ _ ?_
        clear hK K
        try simp only [Act.put, List.setIfInBounds_toArray, List.set_cons_zero, List.set_cons_succ]
        refine wpAny_take (i := 8) (oi := ⟨some 19, _, _, _, _, _⟩) (v := _) rfl (by kernel_rfl) (by kernel_rfl) (by kernel_rfl) (fun _ _ _ h => h) (Or.inl ⟨by rfl, by intro w; go_simp; try rfl⟩) ?_
        try simp only [Act.put, List.setIfInBounds_toArray, List.set_cons_zero, List.set_cons_succ]
        refine wpAny_take (i := 9) (oi := ⟨some 10, _, _, _, _, _⟩) (v := ?_) rfl (by kernel_rfl) (by kernel_rfl) (by kernel_rfl) (fun _ _ _ h => h) (Or.inl ⟨by rfl, by intro w; go_simp; try rfl⟩) ?_
        try simp only [Act.put, List.setIfInBounds_toArray, List.set_cons_zero, List.set_cons_succ]
        refine wpAny_take (i := 10) (oi := ⟨some 20, _, _, _, _, _⟩) (v := ?_) rfl (by kernel_rfl) (by kernel_rfl) (by kernel_rfl) (fun _ _ _ h => h) (Or.inl ⟨by rfl, by intro w; go_simp; try rfl⟩) ?_
        try simp only [Act.put, List.setIfInBounds_toArray, List.set_cons_zero, List.set_cons_succ]
        refine wpAny_take (i := 11) (oi := ⟨some 21, _, _, _, _, _⟩) (v := ?_) rfl (by kernel_rfl) (by kernel_rfl) (by kernel_rfl) (fun _ _ _ h => h) (Or.inl ⟨by rfl, by intro w; go_simp; try rfl⟩) ?_
        try simp only [Act.put, List.setIfInBounds_toArray, List.set_cons_zero, List.set_cons_succ]
        refine wpAny_take (i := 12) (oi := ⟨some 22, _, _, _, _, _⟩) (v := ?_) rfl (by kernel_rfl) (by kernel_rfl) (by kernel_rfl) (fun _ _ _ h => h) (Or.inl ⟨by rfl, by intro w; go_simp; try rfl⟩) ?_
        try simp only [Act.put, List.setIfInBounds_toArray, List.set_cons_zero, List.set_cons_succ]
        refine wpAny_ready (rs := [13]) (by kernel_rfl) (by simp) ?_
        refine AllReady.cons (o := ⟨none, _, _, _, _, _⟩) rfl (fun K hK => ?_) AllReady.nil
        go_simp
        refine hK _ _ ?_
        clear hK K
        try simp only [Act.put, List.setIfInBounds_toArray, List.set_cons_zero, List.set_cons_succ]
        refine wpAny_take (i := 14) (oi := ⟨some 5, _, _, _, _, _⟩) (v := ?_) rfl (by kernel_rfl) (by kernel_rfl) (by kernel_rfl) (fun _ _ _ h => h) (Or.inl ⟨by rfl, by intro w; go_simp; try rfl⟩) ?_
        try simp only [Act.put, List.setIfInBounds_toArray, List.set_cons_zero, List.set_cons_succ]
        refine wpAny_done (by kernel_rfl) ?_ _
        go_wp2
        go_roundg g2
        case rel => exact ⟨k + 1, by omega, by go_num, by rw [HD.out], ⟨by have h3 := HA.out.set k (.int .u64 (s : Int)); rw [HSet.out] at h3; exact h3⟩, ⟨HN.out.other (by show _ ≠ w.heap.size; omega) _⟩, ⟨HR.out.other (by show _ ≠ w.heap.size; omega) _⟩, hB.setCell (by show w.heap.size ≤ w.heap.size; omega) _⟩
        case measure => omega
      · go_simp
        refine hK _ _ ?_
        clear hK K
        try simp only [Act.put, List.setIfInBounds_toArray, List.set_cons_zero, List.set_cons_succ]
        refine wpAny_ready (rs := [3]) (by kernel_rfl) (by simp) ?_
        refine AllReady.cons (o := ⟨some 14, _, _, _, _, _⟩) rfl (fun K hK => ?_) AllReady.nil
        go_simp
        refine hK _ _ ?_
        clear hK K
        try simp only [Act.put, List.setIfInBounds_toArray, List.set_cons_zero, List.set_cons_succ]
        refine wpAny_take (i := 8) (oi := ⟨some 19, _, _, _, _, _⟩) (v := _) rfl (by kernel_rfl) (by kernel_rfl) (by kernel_rfl) (fun _ _ _ h => h) (Or.inl ⟨by rfl, by intro w; go_simp; try rfl⟩) ?_
        try simp only [Act.put, List.setIfInBounds_toArray, List.set_cons_zero, List.set_cons_succ]
        refine wpAny_take (i := 9) (oi := ⟨some 10, _, _, _, _, _⟩) (v := ?_) rfl (by kernel_rfl) (by kernel_rfl) (by kernel_rfl) (fun _ _ _ h => h) (Or.inl ⟨by rfl, by intro w; go_simp; try rfl⟩) ?_
        try simp only [Act.put, List.setIfInBounds_toArray, List.set_cons_zero, List.set_cons_succ]
        refine wpAny_take (i := 10) (oi := ⟨some 20, _, _, _, _, _⟩) (v := ?_) rfl (by kernel_rfl) (by kernel_rfl) (by kernel_rfl) (fun _ _ _ h => h) (Or.inl ⟨by rfl, by intro w; go_simp; try rfl⟩) ?_
        try simp only [Act.put, List.setIfInBounds_toArray, List.set_cons_zero, List.set_cons_succ]
        refine wpAny_take (i := 11) (oi := ⟨some 21, _, _, _, _, _⟩) (v := ?_) rfl (by kernel_rfl) (by kernel_rfl) (by kernel_rfl) (fun _ _ _ h => h) (Or.inl ⟨by rfl, by intro w; go_simp; try rfl⟩) ?_
        try simp only [Act.put, List.setIfInBounds_toArray, List.set_cons_zero, List.set_cons_succ]
        refine wpAny_take (i := 12) (oi := ⟨some 22, _, _, _, _, _⟩) (v := ?_) rfl (by kernel_rfl) (by kernel_rfl) (by kernel_rfl) (fun _ _ _ h => h) (Or.inl ⟨by rfl, by intro w; go_simp; try rfl⟩) ?_
        try simp only [Act.put, List.setIfInBounds_toArray, List.set_cons_zero, List.set_cons_succ]
        refine wpAny_ready (rs := [13]) (by kernel_rfl) (by simp) ?_
        refine AllReady.cons (o := ⟨none, _, _, _, _, _⟩) rfl (fun K hK => ?_) AllReady.nil
        go_simp
        refine hK _ _ ?_
        clear hK K
        try simp only [Act.put, List.setIfInBounds_toArray, List.set_cons_zero, List.set_cons_succ]
        refine wpAny_take (i := 14) (oi := ⟨some 5, _, _, _, _, _⟩) (v := ?_) rfl (by kernel_rfl) (by kernel_rfl) (by kernel_rfl) (fun _ _ _ h => h) (Or.inl ⟨by rfl, by intro w; go_simp; try rfl⟩) ?_
        try simp only [Act.put, List.setIfInBounds_toArray, List.set_cons_zero, List.set_cons_succ]
        refine wpAny_done (by kernel_rfl) ?_ _
        go_wp2
        go_roundg g2
        case rel => exact ⟨k + 1, by omega, by go_num, by rw [HD.out], ⟨by have h3 := HA.out.set k (.int .u64 (s : Int)); rw [HSet.out] at h3; exact h3⟩, ⟨HN.out.other (by show _ ≠ w.heap.size; omega) _⟩, ⟨HR.out.other (by show _ ≠ w.heap.size; omega) _⟩, hB.setCell (by show w.heap.size ≤ w.heap.size; omega) _⟩
        case measure => omega
end Go.Proofs.Ythpfiieaanioeaa

namespace Go.Proofs.Ythpfiieaanioeaa
open Go.RowKit

end Go.Proofs.Ythpfiieaanioeaa

namespace Go.Proofs.Ythpfiieaanioeaa
open Go.RowKit

def cells32 (l : List UInt32) : List Value := l.map fun b => Value.int .u32 (b.toNat : Int)
theorem cells32_length (l : List UInt32) : (cells32 l).length = l.length := by simp [cells32]
theorem cells32_append (l m : List UInt32) : cells32 (l ++ m) = cells32 l ++ cells32 m := by simp [cells32]
theorem cells32_one (l : List UInt32) : ∀ u ∈ cells32 l, u.oneCell' = true := by
  intro u hu
  obtain ⟨_, _, rfl⟩ := List.mem_map.1 hu
  rfl
theorem cells32_at (l : List UInt32) (j : Nat) (h : j < l.length) : (cells32 l)[j]? = some (.int .u32 (l[j].toNat : Int)) := by
  simp [cells32, List.getElem?_eq_getElem h]
theorem cells32_some {l : List UInt32} {j : Nat} {u : Value} (h : (cells32 l)[j]? = some u) : ∃ hj : j < l.length, u = .int .u32 (l[j].toNat : Int) := by
  have hj : j < l.length := by
    have := (List.getElem?_eq_some_iff.1 h).1
    simpa [cells32] using this
  refine ⟨hj, ?_⟩
  rw [cells32_at l j hj] at h
  exact (Option.some.inj h).symm

/-- A slice of n of room c at A reads as the words l; its cells lie below block B. -/
structure Us (w : World) (B : Nat) (A : Option Addr) (n c : Nat) (l : List UInt32) : Prop where
  len : l.length = n
  cap : n ≤ c
  max : c ≤ maxLen
  nil : A = none → c = 0
  cells : 0 < n → ∃ b o, A = some ⟨b, o, none⟩ ∧ b < B ∧ ∀ j (h : j < l.length), w.cell? ⟨b, o + j, none⟩ = some (.int .u32 (l[j].toNat : Int))
section
variable {w w' : World} {B B' : Nat} {A : Option Addr} {n c : Nat} {l : List UInt32}
theorem Us.keep (h : Us w B A n c l) (hk : ∀ p : Addr, p.block < B → w'.cell? p = w.cell? p) : Us w' B A n c l :=
  ⟨h.len, h.cap, h.max, h.nil, fun h0 => by
    obtain ⟨b, o, hA, hb, hc⟩ := h.cells h0
    exact ⟨b, o, hA, hb, fun j hj => (hk _ hb).trans (hc j hj)⟩⟩
theorem Us.more (h : Us w B A n c l) (hB : B ≤ B') : Us w B' A n c l :=
  ⟨h.len, h.cap, h.max, h.nil, fun h0 => by
    obtain ⟨b, o, hA, hb, hc⟩ := h.cells h0
    exact ⟨b, o, hA, by omega, hc⟩⟩
theorem Us.below (h : Us w B A n c l) (hb : Below B w w') : Us w' B A n c l := h.keep fun _ hp => hb.cell hp
theorem Us.next {w0 w1 : World} (h : Us w0 B A n c l) (hb : Below w0.heap.size w0 w1) (hB : B ≤ w0.heap.size) : Us w1 w1.heap.size A n c l :=
  (h.below (hb.mono hB)).more (Nat.le_trans hB hb.size)
theorem Us.cell (h : Us w B A n c l) {i : Nat} (hi : i < n) : ∃ b o, A = some ⟨b, o, none⟩ ∧ b < B ∧ w.cell? ⟨b, o + i, none⟩ = some (.int .u32 ((l[i]'(by have := h.len; omega)).toNat : Int)) := by
  obtain ⟨b, o, hA, hb, hc⟩ := h.cells (by omega)
  exact ⟨b, o, hA, hb, hc i (by have := h.len; omega)⟩
theorem Us.news (h : Us w B A n c l) : ∀ ad, A = some ad → ∀ j u, (cells32 l)[j]? = some u → w.cell? (ad.add j) = some u := by
  intro ad hA j u hu
  obtain ⟨hj, rfl⟩ := cells32_some hu
  obtain ⟨b, o, hA', _, hc⟩ := h.cells (by have := h.len; omega)
  rw [hA] at hA'
  obtain rfl := Option.some.inj hA'
  rw [Addr.add_lit]
  exact hc j hj
theorem Us.of_own {base : Nat} {e : TypeId} {v : Value} (h : w.ownsRow base e 1 v n (cells32 l)) : ∃ A c, v = .slice A n c ∧ Us w w.heap.size A n c l := by
  have hl : l.length = n := by have := h.1; rw [cells32_length] at this; omega
  rcases h.2 with ⟨rfl, rfl⟩ | ⟨g, cap, cur, rfl, hg, hh, hn, hm, hs, ht⟩
  · obtain rfl : l = [] := List.eq_nil_of_length_eq_zero hl
    exact ⟨none, 0, rfl, rfl, Nat.le_refl _, Nat.zero_le _, fun _ => rfl, fun h => absurd h (by omega)⟩
  · refine ⟨some ⟨g, 0, none⟩, cap, rfl, hl, hn, hm, (fun h => by cases h), fun h0 => ⟨g, 0, rfl, (Array.getElem?_eq_some_iff.1 hh).1, fun j hj => ?_⟩⟩
    have := h.cells (g := g) rfl j _ (cells32_at l j hj)
    rwa [Addr.add_lit] at this
/-- a block of words that has just been laid -/
theorem Us.laid (w : World) (t : TypeId) (l : List UInt32) (hm : l.length ≤ maxLen) : Us (w.alloc (.cells (cells32 l).toArray t)) (w.heap.size + 1) (some ⟨w.heap.size, 0, none⟩) l.length l.length l := by
  refine ⟨rfl, Nat.le_refl _, hm, (fun h => by cases h), fun _ => ⟨w.heap.size, 0, rfl, by omega, fun j hj => ?_⟩⟩
  rw [World.cell?_alloc_at _ _ _ _ rfl]
  have := cells32_at l j hj
  simpa using this
end

theorem u32_add (a b : UInt32) : IntKind.u32.wrap ((a.toNat : Int) + (b.toNat : Int)) = ((a + b).toNat : Int) := by
  rw [IntKind.wrap_u32, UInt32.toNat_add]; omega
theorem u32_xor' (a b : UInt32) : bits .xor .u32 (a.toNat : Int) (b.toNat : Int) = ((a ^^^ b).toNat : Int) := by
  rw [u32_xor_nat _ _ a.toNat_lt b.toNat_lt, UInt32.toNat_xor]
theorem u32_or' (a b : UInt32) : bits .or .u32 (a.toNat : Int) (b.toNat : Int) = ((a ||| b).toNat : Int) := by
  rw [u32_or_nat _ _ a.toNat_lt b.toNat_lt, UInt32.toNat_or]
theorem u32_and' (a b : UInt32) : bits .and .u32 (a.toNat : Int) (b.toNat : Int) = ((a &&& b).toNat : Int) := by
  rw [u32_and_nat _ _ a.toNat_lt b.toNat_lt, UInt32.toNat_and]
end Go.Proofs.Ythpfiieaanioeaa

namespace Go.Proofs.Ythpfiieaanioeaa
open Go.RowKit

/-- x turned to the right by n -/
def turnR (x : UInt32) (n : Nat) : UInt32 := UInt32.ofNat (x.toNat / 2 ^ n) ||| UInt32.ofNat (x.toNat * 2 ^ (32 - n))
theorem turnR_val (x : UInt32) (n : Nat) : bits .or .u32 ((x.toNat : Int) / 2 ^ n) ((x.toNat : Int) * 2 ^ (32 - n) % 4294967296) = ((turnR x n).toNat : Int) := by
  have h1 : (x.toNat : Int) / 2 ^ n = ((UInt32.ofNat (x.toNat / 2 ^ n)).toNat : Int) := by
    have e : (UInt32.ofNat (x.toNat / 2 ^ n)).toNat = (x.toNat / 2 ^ n) % 4294967296 := rfl
    rw [e, Nat.mod_eq_of_lt (Nat.lt_of_le_of_lt (Nat.div_le_self _ _) x.toNat_lt)]
    simp
  have h2 : (x.toNat : Int) * 2 ^ (32 - n) % 4294967296 = ((UInt32.ofNat (x.toNat * 2 ^ (32 - n))).toNat : Int) := by
    have e : (UInt32.ofNat (x.toNat * 2 ^ (32 - n))).toNat = (x.toNat * 2 ^ (32 - n)) % 4294967296 := rfl
    rw [e]; simp
  rw [h1, h2, u32_or']
  rfl
theorem u32_shr3 (x : UInt32) : (x.toNat : Int) / (8 : Int) = ((x >>> 3).toNat : Int) := by
  have e : (x >>> 3).toNat = x.toNat / 8 := by rw [UInt32.toNat_shiftRight]; simp [Nat.shiftRight_eq_div_pow]
  rw [e]; rfl
theorem u32_shr10 (x : UInt32) : (x.toNat : Int) / (1024 : Int) = ((x >>> 10).toNat : Int) := by
  have e : (x >>> 10).toNat = x.toNat / 1024 := by rw [UInt32.toNat_shiftRight]; simp [Nat.shiftRight_eq_div_pow]
  rw [e]; rfl
def sig0 (x : UInt32) : UInt32 := turnR x 7 ^^^ turnR x 18 ^^^ x >>> 3
def sig1 (y : UInt32) : UInt32 := turnR y 17 ^^^ turnR y 19 ^^^ y >>> 10
/-- the next word -/
def nextW (m : List UInt32) : UInt32 := m.getD (m.length - 16) 0 + sig0 (m.getD (m.length - 15) 0) + m.getD (m.length - 7) 0 + sig1 (m.getD (m.length - 2) 0)
def extW : Nat → List UInt32 → List UInt32
  | 0, l => l
  | k + 1, l => extW k l ++ [nextW (extW k l)]
theorem extW_length (k : Nat) (l : List UInt32) : (extW k l).length = l.length + k := by
  induction k with
  | zero => rfl
  | succ k ih => simp [extW, ih]; omega
def word (b : List UInt8) (i : Nat) : UInt32 := UInt32.ofNat (getN ((b.take (4 * i + 4)).drop (4 * i)))
def first (b : List UInt8) (k : Nat) : List UInt32 := (List.range k).map (word b)
theorem first_succ (b : List UInt8) (k : Nat) : first b (k + 1) = first b k ++ [word b k] := by
  unfold first; rw [List.range_succ, List.map_append]; rfl
theorem first_length (b : List UInt8) (k : Nat) : (first b k).length = k := by simp [first]
def wordsL (b : List UInt8) : List UInt32 := extW 48 (first b 16)
theorem wordsL_length (b : List UInt8) : (wordsL b).length = 64 := by unfold wordsL; rw [extW_length, first_length]
theorem word_val (b : List UInt8) (i : Nat) : IntKind.u32.wrap ((getN ((b.take (4 * i + 4)).drop (4 * i)) % 18446744073709551616 : Nat) : Int) = ((word b i).toNat : Int) := by
  have e : (word b i).toNat = getN ((b.take (4 * i + 4)).drop (4 * i)) % 4294967296 := rfl
  rw [IntKind.wrap_u32, e]; omega
theorem xor3_val (p q r : UInt32) (z : Int) (hz : z = (r.toNat : Int)) : bits .xor .u32 ((p.toNat ^^^ q.toNat : Nat) : Int) z = ((p ^^^ q ^^^ r).toNat : Int) := by
  rw [hz, ← UInt32.toNat_xor, u32_xor']
theorem next_val (a x d y : UInt32) :
    IntKind.u32.wrap (IntKind.u32.wrap (IntKind.u32.wrap ((a.toNat : Int) + bits .xor .u32 (((turnR x 7).toNat ^^^ (turnR x 18).toNat : Nat) : Int) ((x.toNat : Int) / 8)) + (d.toNat : Int)) + bits .xor .u32 (((turnR y 17).toNat ^^^ (turnR y 19).toNat : Nat) : Int) ((y.toNat : Int) / 1024)) = ((a + sig0 x + d + sig1 y).toNat : Int) := by
  have e1 := xor3_val (turnR x 7) (turnR x 18) _ _ (u32_shr3 x)
  have e2 := xor3_val (turnR y 17) (turnR y 19) _ _ (u32_shr10 y)
  rw [e1, e2, u32_add, u32_add, u32_add]
  rfl

/-- the eight words of a state -/
structure St where
  (a b c d e f g h : UInt32)
def St.list (s : St) : List UInt32 := [s.a, s.b, s.c, s.d, s.e, s.f, s.g, s.h]
def big0 (x : UInt32) : UInt32 := turnR x 2 ^^^ turnR x 13 ^^^ turnR x 22
def big1 (x : UInt32) : UInt32 := turnR x 6 ^^^ turnR x 11 ^^^ turnR x 25
def chR (x y z : UInt32) : UInt32 := x &&& y ||| (x ^^^ 4294967295) &&& z
def mjR (x y z : UInt32) : UInt32 := x &&& y ||| x &&& z ||| y &&& z
def tOf (s : St) (k w : UInt32) : UInt32 := s.h + big1 s.e + chR s.e s.f s.g + k + w
def uOf (s : St) : UInt32 := big0 s.a + mjR s.a s.b s.c
def rnd (s : St) (k w : UInt32) : St := ⟨tOf s k w + uOf s, s.a, s.b, s.c, s.d + tOf s k w, s.e, s.f, s.g⟩
theorem t_val (s : St) (k w : UInt32) :
    ((((s.h.toNat : Int) + bits .xor .u32 (bits .xor .u32 ((turnR s.e 6).toNat : Int) ((turnR s.e 11).toNat : Int)) ((turnR s.e 25).toNat : Int) + bits .or .u32 (bits .and .u32 (s.e.toNat : Int) (s.f.toNat : Int)) (bits .and .u32 (bits .xor .u32 (s.e.toNat : Int) 4294967295) (s.g.toNat : Int)) + (k.toNat : Int)) % 4294967296 + (w.toNat : Int)) % 4294967296) = ((tOf s k w).toNat : Int) := by
  have e0 : (4294967295 : Int) = (((4294967295 : UInt32).toNat : Nat) : Int) := rfl
  rw [e0, u32_xor', u32_xor', u32_xor', u32_and', u32_and', u32_or']
  unfold tOf big1 chR
  simp only [UInt32.toNat_add]
  omega
theorem u_val (s : St) :
    ((bits .xor .u32 (bits .xor .u32 ((turnR s.a 2).toNat : Int) ((turnR s.a 13).toNat : Int)) ((turnR s.a 22).toNat : Int) + bits .or .u32 (bits .or .u32 (bits .and .u32 (s.a.toNat : Int) (s.b.toNat : Int)) (bits .and .u32 (s.a.toNat : Int) (s.c.toNat : Int))) (bits .and .u32 (s.b.toNat : Int) (s.c.toNat : Int))) % 4294967296) = ((uOf s).toNat : Int) := by
  rw [u32_xor', u32_xor', u32_and', u32_and', u32_and', u32_or', u32_or']
  unfold uOf big0 mjR
  simp only [UInt32.toNat_add]
  omega
def KL : List UInt32 := [0x428a2f98, 0x71374491, 0xb5c0fbcf, 0xe9b5dba5, 0x3956c25b, 0x59f111f1, 0x923f82a4, 0xab1c5ed5, 0xd807aa98, 0x12835b01, 0x243185be, 0x550c7dc3, 0x72be5d74, 0x80deb1fe, 0x9bdc06a7, 0xc19bf174, 0xe49b69c1, 0xefbe4786, 0x0fc19dc6, 0x240ca1cc, 0x2de92c6f, 0x4a7484aa, 0x5cb0a9dc, 0x76f988da, 0x983e5152, 0xa831c66d, 0xb00327c8, 0xbf597fc7, 0xc6e00bf3, 0xd5a79147, 0x06ca6351, 0x14292967, 0x27b70a85, 0x2e1b2138, 0x4d2c6dfc, 0x53380d13, 0x650a7354, 0x766a0abb, 0x81c2c92e, 0x92722c85, 0xa2bfe8a1, 0xa81a664b, 0xc24b8b70, 0xc76c51a3, 0xd192e819, 0xd6990624, 0xf40e3585, 0x106aa070, 0x19a4c116, 0x1e376c08, 0x2748774c, 0x34b0bcb5, 0x391c0cb3, 0x4ed8aa4a, 0x5b9cca4f, 0x682e6ff3, 0x748f82ee, 0x78a5636f, 0x84c87814, 0x8cc70208, 0x90befffa, 0xa4506ceb, 0xbef9a3f7, 0xc67178f2]
theorem KL_length : KL.length = 64 := by rfl
def rounds (W : List UInt32) (s : St) : Nat → St
  | 0 => s
  | n + 1 => rnd (rounds W s n) (KL.getD n 0) (W.getD n 0)
def addS (s x : St) : St := ⟨s.a + x.a, s.b + x.b, s.c + x.c, s.d + x.d, s.e + x.e, s.f + x.f, s.g + x.g, s.h + x.h⟩
def stepS (s : St) (b : List UInt8) : St := addS s (rounds (wordsL b) s 64)
def St0 : St := ⟨0x6a09e667, 0xbb67ae85, 0x3c6ef372, 0xa54ff53a, 0x510e527f, 0x9b05688c, 0x1f83d9ab, 0x5be0cd19⟩
/-- what the first k blocks come to -/
def foldB (l : List UInt8) : Nat → St
  | 0 => St0
  | k + 1 => stepS (foldB l k) ((l.take (64 * k + 64)).drop (64 * k))
/-- what stands behind n bytes -/
def ending (n : Nat) : List UInt8 := 128 :: (List.replicate ((119 - n % 64) % 64) 0 ++ putN (8 * n) 8)
def padded (l : List UInt8) : List UInt8 := l ++ ending l.length
/-- a state's bytes -/
def digestL (s : St) : List UInt8 := (s.list.map fun x => putN x.toNat 4).flatten
def shaL (l : List UInt8) : List UInt8 := digestL (foldB (padded l) ((padded l).length / 64))
end Go.Proofs.Ythpfiieaanioeaa

namespace Go.Proofs.Ythpfiieaanioeaa
open Go.RowKit

def zero32 : List Value := cells8 (List.replicate 32 0)
theorem tyDig : Ty Try.prog 43 zero32 := ⟨by kernel_rfl⟩
theorem rwDig : Rw Try.prog 43 (.array 32 5) 32 := ⟨by kernel_rfl, rfl, by kernel_rfl⟩

/-- the first j bytes of D, the others noughts -/
def outAt (D : List UInt8) (j : Nat) : List UInt8 := D.take j ++ List.replicate (32 - j) 0
theorem outAt_set (D : List UInt8) (hD : D.length = 32) (j : Nat) (h : j < 32) : (cells8 (outAt D j)).set j (.int .u8 ((D.getD j 0).toNat : Int)) = cells8 (outAt D (j + 1)) := by
  unfold outAt
  have hl : (cells8 (D.take j)).length = j := by rw [cells8_length]; simp; omega
  rw [show 32 - j = (32 - (j + 1)) + 1 by omega, List.replicate_succ, cells8_append, List.set_append_right _ _ (by omega), hl, Nat.sub_self]
  rw [List.take_succ_eq_append_getElem (by omega), cells8_append, cells8_append]
  simp [cells8, List.getD, List.getElem?_eq_getElem (show j < D.length by omega)]
theorem outAt_end (D : List UInt8) (hD : D.length = 32) : outAt D 32 = D := by
  unfold outAt; rw [List.take_of_length_le (by omega)]; simp
theorem outAt_length (D : List UInt8) (hD : D.length = 32) (j : Nat) (h : j ≤ 32) : (outAt D j).length = 32 := by simp [outAt]; omega
theorem digestL_length (S : St) : (digestL S).length = 32 := by simp [digestL, St.list, putN_length]
theorem digest_at (S : St) (i k : Nat) (hi : i < 8) (hk : k < 4) : (putN (S.list.getD i 0).toNat 4)[k]? = some ((digestL S).getD (4 * i + k) 0) := by
  have h1 : i = 0 ∨ i = 1 ∨ i = 2 ∨ i = 3 ∨ i = 4 ∨ i = 5 ∨ i = 6 ∨ i = 7 := by omega
  have h2 : k = 0 ∨ k = 1 ∨ k = 2 ∨ k = 3 := by omega
  rcases h1 with rfl | rfl | rfl | rfl | rfl | rfl | rfl | rfl <;> rcases h2 with rfl | rfl | rfl | rfl <;> rfl

theorem u32_lt64 (x : UInt32) : x.toNat < 18446744073709551616 := Nat.lt_trans x.toNat_lt (by decide)
theorem u64_of_u32 (x : UInt32) : IntKind.u64.wrap (x.toNat : Int) = (x.toNat : Int) := by
  rw [wrap_u64_nat, Nat.mod_eq_of_lt (u32_lt64 x)]

theorem digest_byte (S : St) (q r : Nat) (hq : q < 8) (hr : r < 4) : (((digestL S).getD (4 * q + r) 0).toNat : Int) = ((S.list.getD q 0).toNat : Int) / ((256 ^ (3 - r) : Nat) : Int) % 256 := by
  have h := digest_at S q r hq hr
  have h2 := putN_at (S.list.getD q 0).toNat 4 r hr
  rw [List.getElem?_eq_getElem (by rw [putN_length]; exact hr), h2] at h
  rw [← Option.some.inj h, ofNat_toNat]
  show (((_ / 256 ^ (4 - 1 - r)) % 256 : Nat) : Int) = _
  rw [show 4 - 1 - r = 3 - r by omega]
  rfl
end Go.Proofs.Ythpfiieaanioeaa

namespace Go.Proofs.Ythpfiieaanioeaa
open Go.RowKit

set_option maxHeartbeats 400000 in
theorem put_any (n : Nat) (wide : Int) (w : World) (hn : n < 18446744073709551616) :
    Calls Try.prog 47 #[.int .u64 n, .int .i64 wide] w fun e w' => ∃ v, e = .returned v ∧ w'.ownsRow w.heap.size 5 1 v (min (max wide 0) 8).toNat (cells8 (putN n (min (max wide 0) 8).toNat)) ∧ Below w.heap.size w w' := by
  obtain ⟨N, hN⟩ : ∃ N : Nat, N = (min (max wide 0) 8).toNat := ⟨_, rfl⟩
  rw [← hN]
  have hN8 : N ≤ 8 := by omega
  have HN := Lib.hid hn
  have HNN := Lib.hid hN
  clear hn hN
  go_enter Try.func47, Try.ntmps47
  have hcase : wide < 0 ∨ (0 ≤ wide ∧ wide ≤ 8) ∨ 8 < wide := by omega
  rcases hcase with h | ⟨h0, h⟩ | h
  all_goals
    go_wp2_with (with_reducible refine wpList_mk (o := ⟨some 10, _, _, _, _, _⟩) el8 rfl _ _ rfl w.heap.size _ _ _ _ N rfl rfl (by have := HNN.out; omega) (by have := HNN.out; omega) (by omega) (by simp only [maxLen]; omega) (Nat.le_refl _) ?_)
    intro w1 hown hg
    have hb1 : Below w.heap.size w w1 := (Below.refl _ _).grown hg (Nat.le_refl _) (by simp)
    have H1 := Lib.hid hown
    clear hg hown
    go_wp2
    go_loopw [13] (fun i wr => ∃ k : Nat, k ≤ N ∧ i = .int .i64 k ∧ Hid (wr.ownsRow w.heap.size 5 1 (.slice (some ⟨w.heap.size, 0, none⟩) N N) N (cells8 (List.replicate (N - k) 0 ++ putN n k))) ∧ Below w.heap.size w wr) (fun i _ => N - (intOf i).toNat)
    case atStart => exact ⟨0, Nat.zero_le _, rfl, by simpa [cells8, putN] using H1, hb1⟩
    case round =>
      obtain ⟨k, hk, rfl, H, hb⟩ := hrel
      by_cases hlt : k < N
      · have hc : wr.cell? ⟨w.heap.size, N - 1 - k, none⟩ = some (.int .u8 0) := by
          have h1 := H.out.cellAt (N - 1 - k) (by omega)
          rw [h1]
          exact put_spot (by omega)
        have hf := H.out.frozenAt (N - 1 - k)
        have HR := Lib.hid (put_row (n := n) hlt)
        go_wp2
        go_roundw
        case rel =>
          have hst := H.out.stored (N - 1 - k) (.int .u8 ((n : Int) / 2 ^ (8 * k) % 256))
          refine ⟨k + 1, by omega, by go_num, ?_, hb.setCell (Nat.le_refl _) _⟩
          show World.ownsRow _ _ _ _ _ _ _
          rw [← HR.out]
          exact hst.1
        case measure => simp [intOf]; omega
      · obtain rfl : k = N := by omega
        have H2 := H.out
        rw [Nat.sub_self] at H2
        simp only [List.replicate_zero, List.nil_append] at H2
        have H3 := Lib.hid H2
        clear H2
        go_wp2
        go_ret
        exact ⟨_, rfl, H3.out, hb⟩

end Go.Proofs.Ythpfiieaanioeaa

namespace Go.Proofs.Ythpfiieaanioeaa
open Go.RowKit

/-- x[i:k] -/
theorem yields_cut_lh {P : Program} {ops : Array Oper} {op : Oper} {a : Act} {t e : TypeId} {z : Value} {bytes : Nat} (hw : Region.wanted op (yielded ops a.tmps) = true) (E : El P t e z bytes) (x lo hi : Operand) (ho : op.op = .slice t x (some lo) (some hi) none)
    {A : Option Addr} {n c : Nat} (hx : a.eval x = .slice A n c) {k1 k2 : IntKind} {I J : Int} (hlo : a.eval lo = .int k1 I) (hhi : a.eval hi = .int k2 J) (i k : Nat) (hI : I = i) (hJ : J = k) (hik : i ≤ k) (hk : k ≤ c) {A' : Option Addr} {n' c' : Nat} (hA' : (if c = i then A else A.map (·.add i)) = A') (hn' : k - i = n') (hc' : c - i = c') : Yields P ops op (.slice A' n' c') a := by
  subst hI hJ hA' hn' hc'
  refine .inl ⟨hw, fun w => ?_⟩
  have hrun := run_slice_lh (P := P) (w := w) t A n c E.ty' k1 k2 (i : Int) (k : Int) (by omega) (by omega) (by omega)
  rw [E.sizeOf] at hrun
  unfold execOp
  simp [ho, hx, hlo, hhi, run_sliceAt_slice (P := P) (w := w) t _ _ _ _ E.ty', hrun, Result.andThen, sliced]
end Go.Proofs.Ythpfiieaanioeaa
