/- Numbers of 256 bits, as bytes and as four words of 64 bits. No program is named here.
   The contracts of Of, the program's and the document's.
   Lists of things at places, as the walks read them. No program is named here.
   The contracts of package sum's each and of the function that it hands back.
   An array by value, indexed. No program is named here.
   A struct or an array, built of one part. No program is named here.
   The calls of math/bits that add and subtract words; the types of package sum.
   The contract of package sum's plus. -/
import Derived.Test.YtjllfaeamjadcaaG01
import Derived.Test.YtjllfaeamjadcaaG02
import Derived.Test.YtjllfaeamjadcaaG06
import Derived.Test.YtjllfaeamjadcaaG03
import Derived.RangeFuncNested
import Derived.RangeFuncBound
import Derived.RangeFuncCalls
import Derived.RangeFuncLeaves
import Derived.Shelf.Abstract
import Derived.Shelf.RegionOpen
import Derived.OwnWalkIn
import Derived.TacticsInMore
import Derived.LoopNIn
import Derived.LoopIn
import Derived.ChangeKeysEq
import Derived.Laws.Tables
import Derived.Laws.Externs
import Derived.Shelf.Spec.BitsCarry
import Derived.Deep.LoopGhost
namespace Go.Proofs.Ytjllfaeamjadcaa
open Go.RowKit

def M256 : Nat := 256 ^ 32
def addL (a b : List UInt8) : List UInt8 := putN (getN a + getN b) 32
def subL (a b : List UInt8) : List UInt8 := putN (getN a + 256 ^ 32 - getN b) 32
/-- a number less another one, modulo 2^256 -/
def subN (m n : Nat) : Nat := m + 256 ^ 32 - n
def lessL (a b : List UInt8) : Bool := decide (getN a < getN b)
theorem addL_length (a b : List UInt8) : (addL a b).length = 32 := putN_length _ _
theorem subL_length (a b : List UInt8) : (subL a b).length = 32 := putN_length _ _
theorem getN_inj {a b : List UInt8} (h : a.length = b.length) (e : getN a = getN b) : a = b := by
  rw [← putN_getN a, ← putN_getN b, e, h]
theorem getN_lt32 {a : List UInt8} (h : a.length = 32) : getN a < 256 ^ 32 := by have := getN_lt a; rwa [h] at this
theorem putN_mod (n k : Nat) : putN (n % 256 ^ k) k = putN n k := by
  refine getN_inj (by rw [putN_length, putN_length]) ?_
  rw [getN_putN, getN_putN, Nat.mod_mod]
theorem addL_val (a b : List UInt8) : getN (addL a b) = (getN a + getN b) % 256 ^ 32 := getN_putN _ _
theorem subL_val (a b : List UInt8) : getN (subL a b) = (getN a + 256 ^ 32 - getN b) % 256 ^ 32 := getN_putN _ _
theorem eq32 {a b : List UInt8} (ha : a.length = 32) (hb : b.length = 32) (e : getN a = getN b) : a = b := getN_inj (ha.trans hb.symm) e
theorem addL_comm (a b : List UInt8) : addL b a = addL a b := by unfold addL; rw [Nat.add_comm]
theorem addL_assoc {a b c : List UInt8} : addL (addL a b) c = addL a (addL b c) := by
  refine eq32 (addL_length _ _) (addL_length _ _) ?_
  rw [addL_val, addL_val, addL_val, addL_val]
  generalize getN a = x; generalize getN b = y; generalize getN c = z
  rw [Nat.mod_add_mod, Nat.add_mod_mod, Nat.add_assoc]
theorem sub_add {a b : List UInt8} (ha : a.length = 32) (hb : b.length = 32) : subL (addL a b) b = a := by
  refine eq32 (subL_length _ _) ha ?_
  rw [subL_val, addL_val]
  have h1 := getN_lt32 ha
  have h2 := getN_lt32 hb
  generalize getN a = x at *; generalize getN b = y at *; generalize 256 ^ 32 = m at *
  by_cases h : x + y < m
  · rw [Nat.mod_eq_of_lt h, show x + y + m - y = x + m by omega, Nat.add_mod_right, Nat.mod_eq_of_lt h1]
  · rw [show (x + y) % m = x + y - m by rw [Nat.mod_eq_sub_mod (by omega), Nat.mod_eq_of_lt (by omega)], show x + y - m + m - y = x by omega, Nat.mod_eq_of_lt h1]
theorem add_sub {a b : List UInt8} (ha : a.length = 32) (hb : b.length = 32) : addL (subL a b) b = a := by
  refine eq32 (addL_length _ _) ha ?_
  rw [addL_val, subL_val]
  have h1 := getN_lt32 ha
  have h2 := getN_lt32 hb
  generalize getN a = x at *; generalize getN b = y at *; generalize 256 ^ 32 = m at *
  rw [Nat.mod_add_mod, show x + m - y + y = x + m by omega, Nat.add_mod_right, Nat.mod_eq_of_lt h1]
def z32 : List UInt8 := List.replicate 32 0
theorem z32_val : getN z32 = 0 := by decide +kernel
theorem z32_length : z32.length = 32 := by decide
theorem sub_self {a : List UInt8} (ha : a.length = 32) : subL a a = z32 := by
  refine eq32 (subL_length _ _) z32_length ?_
  rw [subL_val, z32_val]
  have h1 := getN_lt32 ha
  generalize getN a = x at *; generalize 256 ^ 32 = m at *
  rw [show x + m - x = m by omega, Nat.mod_self]
theorem add_zero {a : List UInt8} (ha : a.length = 32) : addL a z32 = a := by
  refine eq32 (addL_length _ _) ha ?_
  rw [addL_val, z32_val, Nat.add_zero, Nat.mod_eq_of_lt (getN_lt32 ha)]
theorem zero_add {a : List UInt8} (ha : a.length = 32) : addL z32 a = a := by rw [addL_comm, add_zero ha]
theorem sub_zero {a : List UInt8} (ha : a.length = 32) : subL a z32 = a := by
  refine eq32 (subL_length _ _) ha ?_
  rw [subL_val, z32_val, Nat.sub_zero, Nat.add_mod_right, Nat.mod_eq_of_lt (getN_lt32 ha)]
/-- who adds c to both ends has what was between -/
theorem sub_of_add {a b c : List UInt8} (hb : b.length = 32) (hc : c.length = 32) (e : a = addL b c) : subL a c = b := by rw [e]; exact sub_add hb hc

/-! words of 64 bits, the least one first -/
def B64 : Nat := 18446744073709551616
def numCells (l : List Nat) : List Value := l.map fun (n : Nat) => Value.int .u64 (n : Int)
theorem numCells_length (l : List Nat) : (numCells l).length = l.length := by simp [numCells]
theorem numCells_one (l : List Nat) : ∀ u ∈ numCells l, u.oneCell' = true := by
  intro u hu
  obtain ⟨_, _, rfl⟩ := List.mem_map.1 hu
  rfl
def dg (n i : Nat) : Nat := n / 2 ^ (64 * i) % 2 ^ 64
theorem dg_lt (n i : Nat) : dg n i < 18446744073709551616 := Nat.mod_lt _ (by decide)
def W4 (n : Nat) : List Nat := (List.range 4).map (dg n)
theorem W4_length (n : Nat) : (W4 n).length = 4 := by simp [W4]
/-- a row of which the first k are new -/
def part4 (f g : Nat → Nat) (k : Nat) : List Nat := (List.range 4).map fun i => if i < k then f i else g i
theorem part4_length (f g : Nat → Nat) (k : Nat) : (part4 f g k).length = 4 := by simp [part4]
theorem part4_none (f : Nat → Nat) (n : Nat) : part4 f (dg n) 0 = W4 n := by
  unfold part4 W4
  exact List.map_congr_left fun i _ => by rw [if_neg (by omega)]
theorem part4_all (n : Nat) (g : Nat → Nat) : part4 (dg n) g 4 = W4 n := by
  unfold part4 W4
  exact List.map_congr_left fun i hi => by rw [if_pos (List.mem_range.1 hi)]
theorem part4_zero (f : Nat → Nat) : numCells (part4 f (fun _ => 0) 0) = List.replicate 4 (.int .u64 0) := by
  rw [List.eq_replicate_iff]
  refine ⟨by rw [numCells_length, part4_length], fun b hb => ?_⟩
  unfold numCells part4 at hb
  rw [List.map_map] at hb
  obtain ⟨j, _, rfl⟩ := List.mem_map.1 hb
  simp
theorem part4_set (f g : Nat → Nat) (k : Nat) : (numCells (part4 f g k)).set k (.int .u64 ((f k : Nat) : Int)) = numCells (part4 f g (k + 1)) := by
  unfold numCells
  rw [show (Value.int .u64 ((f k : Nat) : Int)) = (fun n : Nat => Value.int .u64 (n : Int)) (f k) from rfl, ← List.map_set]
  congr 1
  refine List.ext_getElem (by rw [List.length_set, part4_length, part4_length]) fun i h1 h2 => ?_
  rw [List.getElem_set]
  simp only [part4, List.getElem_map, List.getElem_range]
  by_cases hi : k = i
  · subst hi; simp
  · rw [if_neg hi]
    by_cases h3 : i < k
    · rw [if_pos h3, if_pos (by omega)]
    · rw [if_neg h3, if_neg (by omega)]
theorem part4_at (f g : Nat → Nat) (k i : Nat) (hi : i < 4) (hk : k ≤ i) : (numCells (part4 f g k))[i]? = some (.int .u64 ((g i : Nat) : Int)) := by
  unfold numCells part4
  rw [List.map_map, List.getElem?_map, List.getElem?_range hi]
  simp only [Option.map_some, Function.comp, if_neg (show ¬ i < k by omega)]
theorem W4_at (n i : Nat) (hi : i < 4) : (numCells (W4 n))[i]? = some (.int .u64 ((dg n i : Nat) : Int)) := by
  unfold numCells W4
  rw [List.map_map, List.getElem?_map, List.getElem?_range hi]
  rfl

/-- what is carried past the first k words -/
def carryN (m n k : Nat) : Nat := (m % 2 ^ (64 * k) + n % 2 ^ (64 * k)) / 2 ^ (64 * k)
def borrowN (m n k : Nat) : Nat := if m % 2 ^ (64 * k) < n % 2 ^ (64 * k) then 1 else 0
theorem carryN_le (m n k : Nat) : carryN m n k ≤ 1 := by
  unfold carryN
  have hp : 0 < 2 ^ (64 * k) := Nat.two_pow_pos _
  have h1 := Nat.mod_lt m hp
  have h2 := Nat.mod_lt n hp
  generalize 2 ^ (64 * k) = P at *
  have : (m % P + n % P) / P < 2 := Nat.div_lt_of_lt_mul (by omega)
  omega
theorem borrowN_le (m n k : Nat) : borrowN m n k ≤ 1 := by unfold borrowN; split <;> omega
theorem carryN_zero (m n : Nat) : carryN m n 0 = 0 := by unfold carryN; simp [Nat.mod_one]
theorem borrowN_zero (m n : Nat) : borrowN m n 0 = 0 := by unfold borrowN; simp [Nat.mod_one]
theorem pow_succ64 (k : Nat) : 2 ^ (64 * (k + 1)) = 2 ^ (64 * k) * 2 ^ 64 := by rw [Nat.mul_succ, Nat.pow_add]
theorem add_parts (m n P B : Nat) (hP : 0 < P) :
    (m + n) / P % B = (m / P % B + n / P % B + (m % P + n % P) / P) % B ∧ (m % (P * B) + n % (P * B)) / (P * B) = (m / P % B + n / P % B + (m % P + n % P) / P) / B := by
  constructor
  · have h : (m + n) / P = m / P + n / P + (m % P + n % P) / P := by
      have e1 := Nat.div_add_mod m P
      have e2 := Nat.div_add_mod n P
      have e3 : m + n = (m % P + n % P) + P * (m / P + n / P) := by rw [Nat.mul_add]; omega
      rw [e3, Nat.add_mul_div_left _ _ hP]; omega
    rw [h]
    generalize (m % P + n % P) / P = c
    rw [Nat.add_mod (m / P + n / P) c, Nat.add_mod (m / P) (n / P), Nat.add_mod (m / P % B + n / P % B) c]
  · rw [Nat.mod_mul, Nat.mod_mul, ← Nat.div_div_eq_div_mul]
    have e3 : m % P + P * (m / P % B) + (n % P + P * (n / P % B)) = (m % P + n % P) + P * (m / P % B + n / P % B) := by rw [Nat.mul_add]; omega
    rw [e3, Nat.add_mul_div_left _ _ hP, Nat.add_comm]
theorem plus_digit (m n k : Nat) : dg (m + n) k = (dg m k + dg n k + carryN m n k) % 18446744073709551616 ∧ carryN m n (k + 1) = (dg m k + dg n k + carryN m n k) / 18446744073709551616 := by
  have h := add_parts m n (2 ^ (64 * k)) (2 ^ 64) (Nat.two_pow_pos _)
  unfold dg carryN
  rw [pow_succ64]
  exact h
theorem plus_all (m n : Nat) : W4 (m + n) = W4 ((m + n) % 256 ^ 32) := by
  unfold W4
  refine List.map_congr_left fun i hi => ?_
  have hi4 := List.mem_range.1 hi
  unfold dg
  rw [show (256 : Nat) ^ 32 = 2 ^ (64 * i) * 2 ^ (64 * (4 - i)) by rw [← Nat.pow_add, show 64 * i + 64 * (4 - i) = 256 by omega], Nat.mod_mul_right_div_self]
  rw [show 2 ^ (64 * (4 - i)) = 2 ^ 64 * 2 ^ (64 * (3 - i)) by rw [← Nat.pow_add]; congr 1; omega, Nat.mod_mul_right_mod]
/-- x less y less b, as Nat: what is left, and whether it is too little -/
theorem sub_parts (m n P B : Nat) (hP : 0 < P) (hB : 0 < B) (r : Nat) (hn : n ≤ P * B * r) :
    (m + P * B * r - n) / P % B = (m / P % B + B - n / P % B + B - (if m % P < n % P then 1 else 0)) % B ∧
    (if m % (P * B) < n % (P * B) then 1 else 0) = (if m / P % B < n / P % B + (if m % P < n % P then 1 else 0) then 1 else 0) := by
  obtain ⟨m0, hm0⟩ : ∃ x, x = m % P := ⟨_, rfl⟩
  obtain ⟨n0, hn0⟩ : ∃ x, x = n % P := ⟨_, rfl⟩
  obtain ⟨m1, hm1⟩ : ∃ x, x = m / P := ⟨_, rfl⟩
  obtain ⟨n1, hn1⟩ : ∃ x, x = n / P := ⟨_, rfl⟩
  have e1 : P * m1 + m0 = m := by rw [hm0, hm1]; exact Nat.div_add_mod m P
  have e2 : P * n1 + n0 = n := by rw [hn0, hn1]; exact Nat.div_add_mod n P
  have l1 : m0 < P := by rw [hm0]; exact Nat.mod_lt _ hP
  have l2 : n0 < P := by rw [hn0]; exact Nat.mod_lt _ hP
  rw [← hm0, ← hn0, ← hm1, ← hn1]
  constructor
  · obtain ⟨b, hb⟩ : ∃ b, b = (if m0 < n0 then 1 else 0) := ⟨_, rfl⟩
    rw [← hb]
    have hR : n1 + b ≤ m1 + B * r := by
      have h1 : P * n1 + n0 ≤ P * (B * r) := by rw [e2, ← Nat.mul_assoc]; exact hn
      rcases Nat.lt_or_ge n1 (B * r) with h | h
      · have : b ≤ 1 := by rw [hb]; split <;> omega
        omega
      · have h2 : P * (B * r) ≤ P * n1 := Nat.mul_le_mul_left _ h
        have h3 : n0 = 0 := by omega
        have h4 : n1 = B * r := Nat.eq_of_mul_eq_mul_left hP (by omega)
        have h5 : b = 0 := by rw [hb, h3]; simp
        omega
    have hdiv : (m + P * B * r - n) / P = m1 + B * r - n1 - b := by
      have h1 : m + P * B * r - n = P * (m1 + B * r - n1 - b) + (m0 + P * b - n0) := by
        have hq : P * (m1 + B * r - n1 - b) = P * m1 + P * (B * r) - P * n1 - P * b := by rw [Nat.mul_sub, Nat.mul_sub, Nat.mul_add]
        have hR2 : P * n1 + P * b ≤ P * m1 + P * (B * r) := by rw [← Nat.mul_add, ← Nat.mul_add]; exact Nat.mul_le_mul_left _ hR
        have hb2 : n0 ≤ m0 + P * b := by
          rw [hb]; split
          · rw [Nat.mul_one]; omega
          · rw [Nat.mul_zero]; omega
        rw [hq, ← e1, ← e2, Nat.mul_assoc]
        omega
      rw [h1, Nat.mul_comm P, Nat.add_comm, Nat.add_mul_div_right _ _ hP]
      have : (m0 + P * b - n0) / P = 0 := by
        refine Nat.div_eq_of_lt ?_
        rw [hb]; split
        · rw [Nat.mul_one]; omega
        · rw [Nat.mul_zero]; omega
      omega
    rw [hdiv]
    have hb1 : b ≤ 1 := by rw [hb]; split <;> omega
    have h1 := Nat.div_add_mod m1 B
    have h2 := Nat.div_add_mod n1 B
    have h3 := Nat.mod_lt m1 hB
    have h4 := Nat.mod_lt n1 hB
    generalize m1 % B = x at *
    generalize n1 % B = y at *
    have e : (m1 + B * r - n1 - b) + B * (n1 / B) + B * 2 = (x + B - y + B - b) + B * (m1 / B) + B * r := by omega
    have e5 : ((m1 + B * r - n1 - b) + B * (n1 / B) + B * 2) % B = (m1 + B * r - n1 - b) % B := by rw [Nat.add_mul_mod_self_left, Nat.add_mul_mod_self_left]
    have e6 : ((x + B - y + B - b) + B * (m1 / B) + B * r) % B = (x + B - y + B - b) % B := by rw [Nat.add_mul_mod_self_left, Nat.add_mul_mod_self_left]
    rw [← e5, e, e6]
  · rw [Nat.mod_mul, Nat.mod_mul, ← hm0, ← hn0, ← hm1, ← hn1]
    generalize m1 % B = x
    generalize n1 % B = y
    have key : m0 + P * x < n0 + P * y ↔ x < y + (if m0 < n0 then 1 else 0) := by
      rcases Nat.lt_trichotomy x y with h | h | h
      · have : P * x + P ≤ P * y := by rw [← Nat.mul_succ]; exact Nat.mul_le_mul_left _ h
        constructor
        · intro _; omega
        · intro _; omega
      · subst h
        split <;> omega
      · have : P * y + P ≤ P * x := by rw [← Nat.mul_succ]; exact Nat.mul_le_mul_left _ h
        constructor
        · intro _; omega
        · intro h2; split at h2 <;> omega
    by_cases hk : m0 + P * x < n0 + P * y
    · rw [if_pos hk, if_pos (key.1 hk)]
    · rw [if_neg hk, if_neg (fun h => hk (key.2 h))]
theorem minus_digit (m n k : Nat) (hk : k < 4) (hn : n < 256 ^ 32) :
    dg (m + 256 ^ 32 - n) k = (dg m k + 18446744073709551616 - dg n k + 18446744073709551616 - borrowN m n k) % 18446744073709551616 ∧
    borrowN m n (k + 1) = (if dg m k < dg n k + borrowN m n k then 1 else 0) := by
  have h := sub_parts m n (2 ^ (64 * k)) (2 ^ 64) (Nat.two_pow_pos _) (Nat.two_pow_pos _) (2 ^ (64 * (3 - k)))
  have e : 2 ^ (64 * k) * 2 ^ 64 * 2 ^ (64 * (3 - k)) = 256 ^ 32 := by
    rw [← Nat.pow_add, ← Nat.pow_add, show 64 * k + 64 + 64 * (3 - k) = 256 by omega]
  rw [e] at h
  obtain ⟨h1, h2⟩ := h (by omega)
  unfold dg borrowN
  rw [pow_succ64]
  exact ⟨h1, h2⟩
theorem borrow_end (m n : Nat) (hm : m < 256 ^ 32) (hn : n < 256 ^ 32) : borrowN m n 4 = if m < n then 1 else 0 := by
  unfold borrowN
  rw [show 2 ^ (64 * 4) = 256 ^ 32 by decide, Nat.mod_eq_of_lt hm, Nat.mod_eq_of_lt hn]
/-- the words of bytes -/
theorem word_at (l : List UInt8) (hl : l.length = 32) (i : Nat) (hi : i < 4) : getN ((l.take (24 - 8 * i + 8)).drop (24 - 8 * i)) = dg (getN l) i := by
  have e1 : l = l.take (24 - 8 * i) ++ (l.take (24 - 8 * i + 8)).drop (24 - 8 * i) ++ l.drop (24 - 8 * i + 8) := by
    conv => lhs; rw [← List.take_append_drop (24 - 8 * i + 8) l]
    congr 1
    conv => lhs; rw [← List.take_append_drop (24 - 8 * i) (l.take (24 - 8 * i + 8))]
    rw [List.take_take, Nat.min_eq_left (by omega)]
  have hx : ((l.take (24 - 8 * i + 8)).drop (24 - 8 * i)).length = 8 := by simp; omega
  have hz : (l.drop (24 - 8 * i + 8)).length = 8 * i := by simp; omega
  generalize (l.take (24 - 8 * i + 8)).drop (24 - 8 * i) = x at *
  generalize l.take (24 - 8 * i) = y at *
  generalize l.drop (24 - 8 * i + 8) = z at *
  rw [e1, getN_append, getN_append, hx, hz]
  have h1 := getN_lt x
  have h2 := getN_lt z
  rw [hx] at h1
  rw [hz] at h2
  unfold dg
  rw [show 2 ^ (64 * i) = 256 ^ (8 * i) by rw [show (256 : Nat) = 2 ^ 8 from rfl, ← Nat.pow_mul]; congr 1; omega]
  generalize getN x = gx at *
  generalize getN y = gy at *
  generalize getN z = gz at *
  rw [show (gy * 256 ^ 8 + gx) * 256 ^ (8 * i) + gz = gz + 256 ^ (8 * i) * (gy * 256 ^ 8 + gx) by rw [Nat.mul_comm (256 ^ (8 * i))]; omega, Nat.add_mul_div_left _ _ (Nat.pow_pos (by decide)), Nat.div_eq_of_lt h2, Nat.zero_add]
  have e8 : (256 : Nat) ^ 8 = 18446744073709551616 := by decide
  rw [e8] at h1
  rw [e8, Nat.mul_comm, Nat.add_comm, Nat.add_mul_mod_self_left, Nat.mod_eq_of_lt h1]
/-- the bytes of words: the last 8 k are there -/
def tailL (n k : Nat) : List UInt8 := List.replicate (32 - 8 * k) 0 ++ putN n (8 * k)
theorem tailL_length (n k : Nat) (hk : k ≤ 4) : (tailL n k).length = 32 := by simp [tailL, putN_length]; omega
theorem putN_split (n a b : Nat) : putN n (a + b) = putN (n / 256 ^ b) a ++ putN n b := by
  refine getN_inj (by simp [putN_length]) ?_
  rw [getN_putN, getN_append, getN_putN, getN_putN, putN_length, Nat.pow_add]
  rw [Nat.mul_comm (256 ^ a), Nat.mod_mul, Nat.mul_comm (256 ^ b), Nat.add_comm]
theorem dg_put (n k : Nat) : putN (dg n k) 8 = putN (n / 256 ^ (8 * k)) 8 := by
  unfold dg
  rw [show 2 ^ (64 * k) = 256 ^ (8 * k) by rw [show (256 : Nat) = 2 ^ 8 from rfl, ← Nat.pow_mul]; congr 1; omega, show 2 ^ 64 = 256 ^ 8 from rfl, putN_mod]
theorem tail_next (n k : Nat) (hk : k < 4) : (tailL n k).take (24 - 8 * k) ++ (putN (dg n k) 8 ++ (tailL n k).drop (24 - 8 * k + 8)) = tailL n (k + 1) := by
  unfold tailL
  rw [List.take_append_of_le_length (by simp; omega), List.take_replicate, Nat.min_eq_left (by omega), List.drop_append_of_le_length (by simp; omega), List.drop_replicate]
  rw [show 32 - 8 * k - (24 - 8 * k + 8) = 0 by omega, List.replicate_zero, List.nil_append, show 32 - 8 * (k + 1) = 24 - 8 * k by omega, show 8 * (k + 1) = 8 + 8 * k by omega, putN_split, dg_put]
theorem tail_none (n : Nat) : cells8 (tailL n 0) = List.replicate 32 (.int .u8 0) := by
  unfold tailL cells8
  rw [show putN n (8 * 0) = [] from rfl, List.append_nil, List.map_replicate]; rfl
theorem tail_all (n : Nat) : tailL n 4 = putN n 32 := by
  unfold tailL
  rw [show 32 - 8 * 4 = 0 from rfl, List.replicate_zero, List.nil_append]
end Go.Proofs.Ytjllfaeamjadcaa

namespace Go.Proofs.Ytjllfaeamjadcaa
open Go.RowKit

/-- an int as a word of 64 bits -/
def atU (z : Int) : Nat := (z % 18446744073709551616).toNat
theorem atU_lt (z : Int) : atU z < 18446744073709551616 := by unfold atU; omega
theorem atU_wrap (z : Int) : IntKind.u64.wrap z = ((atU z : Nat) : Int) := by rw [IntKind.wrap_u64]; unfold atU; omega
/-- what a thing at a place comes to -/
def ofL (key : List UInt8) (z : Int) (b : List UInt8) : List UInt8 := hmacL key (putN (atU z) 8 ++ b)
theorem ofL_length (key : List UInt8) (z : Int) (b : List UInt8) : (ofL key z b).length = 32 := by unfold ofL hmacL; rw [shaL_len]
theorem put8 (k : Nat) (w : World) (hk : k < 18446744073709551616) :
    Calls Try.prog 27 #[.int .u64 k, .int .i64 8] w fun e w' => ∃ A c, e = .returned (.slice A 8 c) ∧ Bs w' w'.heap.size A 8 c (putN k 8) ∧ Below w.heap.size w w' := by
  have h := put_any k 8 w hk
  have e4 : (min (max (8 : Int) 0) 8).toNat = 8 := by decide
  rw [e4] at h
  refine h.mono ?_
  rintro e w' ⟨v, rfl, hown, hb⟩
  obtain ⟨A, c, rfl, hbs⟩ := Bs.of_own hown
  exact ⟨A, c, rfl, hbs, hb⟩
theorem refput8 (k : Nat) (w : World) (hk : k < 18446744073709551616) :
    Calls Try.prog 28 #[.int .u64 k, .int .i64 8] w fun e w' => ∃ v, e = .returned v ∧ w'.ownsRow w.heap.size 5 1 v 8 (cells8 (putN k 8)) ∧ Below w.heap.size w w' := by
  have h := refput_any k 8 w hk
  have e4 : (min (max (8 : Int) 0) 8).toNat = 8 := by decide
  rw [e4] at h
  exact h
set_option maxHeartbeats 1000000 in
theorem of_any (K : Option Addr) (n c : Nat) (key : List UInt8) (z : Int) (B : Option Addr) (m d : Nat) (b : List UInt8) (w : World) (hk : Bs w w.heap.size K n c key) (hb : Bs w w.heap.size B m d b) (hn : n ≤ 524288) (hm : m ≤ 523000) :
    Calls Try.prog 18 #[.slice K n c, .int .i64 z, .slice B m d] w fun e w' => e = .returned (.agg (cells8 (ofL key z b)).toArray) ∧ Below w.heap.size w w' := by
  obtain ⟨L, hL⟩ : ∃ L, L = ofL key z b := ⟨_, rfl⟩
  have HL : Kp (L = ofL key z b) := ⟨hL⟩
  have HLl : Kp ((cells8 L).length = 32) := ⟨by rw [hL, cells8_length, ofL_length]⟩
  have HK : Kp _ := ⟨hk⟩
  have HB : Kp _ := ⟨hb⟩
  have hz := atU_wrap z
  have hzl := atU_lt z
  have HMl : Kp (b.length = m) := ⟨hb.len⟩
  have HT : Kp (∀ W Z e f, Bs W W.heap.size K n c key → Ls W W.heap.size Z e f [putN (atU z) 8, b] → Calls Try.prog 26 #[.slice K n c, .slice Z e f] W fun e w' => e = .returned (.agg (cells8 L).toArray) ∧ Below W.heap.size W w') := ⟨fun W Z e f h1 h2 => by
    have h := tag_any K n c key Z e f [putN (atU z) 8, b] W h1 h2 hn (by have := hb.len; simp [putN_length]; omega)
    rw [show hmacL key [putN (atU z) 8, b].flatten = L by rw [hL]; unfold ofL; simp] at h
    exact h⟩
  rw [← hL]
  generalize atU z = u at *
  clear hL hk hb HL
  go_enter Try.func18, Try.ntmps18
  go_wp2_with (with_reducible refine wpList_alloc (o := ⟨some 6, _, _, _, _, _⟩) tyDig rfl rfl ?_)
  intro w0 hk0 hb0 hs0
  have HR : Kp _ := ⟨hk0⟩
  have HK0 : Kp _ := ⟨HK.out.next hb0 (Nat.le_refl _)⟩
  have HB0 : Kp _ := ⟨HB.out.next hb0 (Nat.le_refl _)⟩
  clear hk0 HK HB hs0
  go_wp2_with fail
  refine (put8 u w0 hzl).mono ?_
  rintro e w1 ⟨P, cp, rfl, hp, hb1⟩
  have HP : Kp _ := ⟨hp⟩
  have HR1 : Kp _ := ⟨HR.out.below hb1 HR.out.lt⟩
  have HK1 : Kp _ := ⟨HK0.out.next hb1 (Nat.le_refl _)⟩
  have HB1 : Kp _ := ⟨HB0.out.next hb1 (Nat.le_refl _)⟩
  have hB1 := hb0.trans (hb1.mono hb0.size)
  clear hp hb0 hb1 HR HK0 HB0
  go_wp2_with fail
  refine (HT.out _ _ _ _ ((HK1.out.alloc (Nat.le_refl _) _).more (by simp)) (ls_two w1 _ HP.out HB1.out)).mono ?_
  rintro e w2 ⟨rfl, hb2⟩
  have hb2' : Below w1.heap.size w1 w2 := ((Below.refl _ w1).alloc (Nat.le_refl _) _).trans (hb2.mono (by simp))
  have HR2 : Kp _ := ⟨HR1.out.below hb2' HR1.out.lt⟩
  have hB2 := hB1.trans (hb2'.mono hB1.size)
  have HZ : Kp (zero32.length = 32) := ⟨rfl⟩
  clear hb2 hb2' HR1 hB1
  go_wp2_with (refine wpList_storeAll (o := ⟨none, _, _, _, _, _⟩) (vs := cells8 L) rwDig rfl (.tmp 6) (.tmp 13) rfl rfl HR2.out HZ.out HLl.out (cells8_one _) rfl ?_)
  intro w3 hk3 ho3
  have HK3 : Kp _ := ⟨hk3⟩
  clear hk3
  go_wp2
  exact ret_arr rfl rwDig rfl HK3.out HLl.out rfl ⟨rfl, hB2.trans (ho3.below (Nat.le_refl _))⟩
set_option maxHeartbeats 1000000 in
theorem refof_any (K : Option Addr) (n c : Nat) (key : List UInt8) (z : Int) (B : Option Addr) (m d : Nat) (b : List UInt8) (w : World) (hk : Bs w w.heap.size K n c key) (hb : Bs w w.heap.size B m d b) (hn : n ≤ 524288) (hm : m ≤ 523000) :
    Calls Try.prog 19 #[.slice K n c, .int .i64 z, .slice B m d] w fun e w' => e = .returned (.agg (cells8 (ofL key z b)).toArray) ∧ Below w.heap.size w w' := by
  obtain ⟨L, hL⟩ : ∃ L, L = ofL key z b := ⟨_, rfl⟩
  have HLl : Kp ((cells8 L).length = 32) := ⟨by rw [hL, cells8_length, ofL_length]⟩
  have HK : Kp _ := ⟨hk⟩
  have HB : Kp _ := ⟨hb⟩
  have hz := atU_wrap z
  have hzl := atU_lt z
  have HT : Kp (∀ W Z f, Bs W W.heap.size K n c key → Bs W W.heap.size Z (8 + m) f (putN (atU z) 8 ++ b) → Calls Try.prog 29 #[.slice K n c, .slice Z (8 + m) f] W fun e w' => e = .returned (.agg (cells8 L).toArray) ∧ Below W.heap.size W w') := ⟨fun W Z f h1 h2 => by
    have h := reftag_any K n c key Z (8 + m) f (putN (atU z) 8 ++ b) W h1 h2 (by omega) (by omega)
    rw [show hmacL key (putN (atU z) 8 ++ b) = L from hL.symm] at h
    exact h⟩
  rw [← hL]
  generalize atU z = u at *
  clear hL hk hb
  go_enter Try.func19, Try.ntmps19
  go_wp2_with (with_reducible refine wpList_alloc (o := ⟨some 6, _, _, _, _, _⟩) tyDig rfl rfl ?_)
  intro w0 hk0 hb0 hs0
  have HR : Kp _ := ⟨hk0⟩
  have HK0 : Kp _ := ⟨HK.out.next hb0 (Nat.le_refl _)⟩
  have HB0 : Kp _ := ⟨HB.out.next hb0 (Nat.le_refl _)⟩
  clear hk0 HK HB hs0
  go_wp2_with fail
  refine (refput8 u w0 hzl).mono ?_
  rintro e w1 ⟨v, rfl, hown, hb1⟩
  have HR1 : Kp _ := ⟨HR.out.below hb1 HR.out.lt⟩
  have HK1 : Kp _ := ⟨HK0.out.below hb1⟩
  have HB1 : Kp _ := ⟨HB0.out.below hb1⟩
  have hB1 := hb0.trans (hb1.mono hb0.size)
  have HOwn := Lib.hid hown
  have hle1 : w0.heap.size ≤ w1.heap.size := hb1.size
  have HS := HB1.out.news
  have HC1 := HB1.out.nil
  have hcell : Kp (∀ ad, B = some ad → ∀ j u, (cells8 b)[j]? = some u → w1.cell? (ad.add j) = some u) := ⟨HS⟩
  have hnil : Kp (B = none → m = 0 ∧ d = 0) := ⟨fun h => by have h1 := HC1 h; have h2 := HB1.out.cap; omega⟩
  have hbl : Kp ((cells8 b).length = m) := ⟨by rw [cells8_length]; exact HB1.out.len⟩
  have hR0 : Kp (w.heap.size < w0.heap.size) := ⟨HR.out.lt⟩
  clear hown hb0 hb1 HR HK0 HB0 HS HC1
  go_wp2_with (at_builtin; refine wpList_app el8 rfl _ _ rfl w0.heap.size v 8 (cells8 (putN u 8)) rfl HOwn.out B m d (cells8 b) rfl hbl.out hnil.out hcell.out (cells8_one _) (by simp only [maxLen]; omega) (by omega) hle1 ?_)
  intro v' w2 hown2 hg2 hblk
  have hB12 : Below w0.heap.size w1 w2 := below_of_grown HOwn.out hle1 hg2
  rw [← cells8_append] at hown2
  obtain ⟨A2, c2, rfl, hbs⟩ := Bs.of_own hown2
  have HA2 : Kp _ := ⟨hbs⟩
  have HR2 : Kp _ := ⟨HR1.out.below hB12 hR0.out⟩
  have HK2 : Kp (Bs w2 w2.heap.size K n c key) := ⟨(HK1.out.below hB12).more (Nat.le_trans hle1 hB12.size)⟩
  have hB2 := hB1.trans (hB12.mono (Nat.le_of_lt hR0.out))
  clear hown2 hg2 hblk hB12 hbs HR1 hB1 HOwn
  go_wp2_with fail
  refine (HT.out _ _ _ HK2.out HA2.out).mono ?_
  rintro e w3 ⟨rfl, hb3⟩
  have HR3 : Kp _ := ⟨HR2.out.below hb3 HR2.out.lt⟩
  have hB3 := hB2.trans (hb3.mono hB2.size)
  have HZ : Kp (zero32.length = 32) := ⟨rfl⟩
  clear hb3 HR2 hB2
  go_wp2_with (refine wpList_storeAll (o := ⟨none, _, _, _, _, _⟩) (vs := cells8 L) rwDig rfl (.tmp 6) (.tmp 16) rfl rfl HR3.out HZ.out HLl.out (cells8_one _) rfl ?_)
  intro w4 hk4 ho4
  have HK4 : Kp _ := ⟨hk4⟩
  clear hk4
  go_wp2
  exact ret_arr rfl rwDig rfl HK4.out HLl.out rfl ⟨rfl, hB3.trans (ho4.below (Nat.le_refl _))⟩
end Go.Proofs.Ytjllfaeamjadcaa

namespace Go.Proofs.Ytjllfaeamjadcaa
open Go.RowKit

/-- A slice of n of room c at A reads as the things its: a place, and bytes; all lies below block B. -/
structure Its (w : World) (B : Nat) (A : Option Addr) (n c : Nat) (its : List (Int × List UInt8)) : Prop where
  len : its.length = n
  cap : n ≤ c
  max : c ≤ maxLen
  nil : A = none → c = 0
  wf : ∀ x ∈ its, (Lit.int .i64 x.1).wf = true
  cells : 0 < n → ∃ b o, A = some ⟨b, o, none⟩ ∧ b < B ∧ ∀ j (h : j < its.length), ∃ A' n' c', w.cell? ⟨b, o + j * 2, none⟩ = some (.int .i64 its[j].1) ∧ w.cell? ⟨b, o + j * 2 + 1, none⟩ = some (.slice A' n' c') ∧ Bs w B A' n' c' its[j].2
section
variable {w w' : World} {B B' : Nat} {A : Option Addr} {n c : Nat} {its : List (Int × List UInt8)}
theorem Its.le (h : Its w B A n c its) : n ≤ 9223372036854775807 := by have := h.cap; have := h.max; simp only [maxLen] at this; omega
theorem Its.keep (h : Its w B A n c its) (hk : ∀ p : Addr, p.block < B → w'.cell? p = w.cell? p) : Its w' B A n c its :=
  ⟨h.len, h.cap, h.max, h.nil, h.wf, fun h0 => by
    obtain ⟨b, o, hA, hb, hc⟩ := h.cells h0
    refine ⟨b, o, hA, hb, fun j hj => ?_⟩
    obtain ⟨A', n', c', h1, h2, h3⟩ := hc j hj
    exact ⟨A', n', c', (hk _ hb).trans h1, (hk _ hb).trans h2, h3.keep hk⟩⟩
theorem Its.more (h : Its w B A n c its) (hB : B ≤ B') : Its w B' A n c its :=
  ⟨h.len, h.cap, h.max, h.nil, h.wf, fun h0 => by
    obtain ⟨b, o, hA, hb, hc⟩ := h.cells h0
    refine ⟨b, o, hA, by omega, fun j hj => ?_⟩
    obtain ⟨A', n', c', h1, h2, h3⟩ := hc j hj
    exact ⟨A', n', c', h1, h2, h3.more hB⟩⟩
theorem Its.below (h : Its w B A n c its) (hb : Below B w w') : Its w' B A n c its := h.keep fun _ hp => hb.cell hp
theorem Its.next {w0 w1 : World} (h : Its w0 B A n c its) (hb : Below w0.heap.size w0 w1) (hB : B ≤ w0.heap.size) : Its w1 w1.heap.size A n c its :=
  (h.below (hb.mono hB)).more (Nat.le_trans hB hb.size)
theorem Its.drew (h : Its w B A n c its) : Its w.drew B A n c its := h.keep fun _ _ => rfl
theorem Its.at (h : Its w B A n c its) {i : Nat} (hi : i < n) : ∃ b o A' n' c', A = some ⟨b, o, none⟩ ∧ b < B ∧ w.cell? ⟨b, o + i * 2, none⟩ = some (.int .i64 (its[i]'(by have := h.len; omega)).1) ∧ w.cell? ⟨b, o + i * 2 + 1, none⟩ = some (.slice A' n' c') ∧ Bs w B A' n' c' (its[i]'(by have := h.len; omega)).2 := by
  obtain ⟨b, o, hA, hb, hc⟩ := h.cells (by omega)
  obtain ⟨A', n', c', h1, h2, h3⟩ := hc i (by have := h.len; omega)
  exact ⟨b, o, A', n', c', hA, hb, h1, h2, h3⟩
end
end Go.Proofs.Ytjllfaeamjadcaa

namespace Go.Proofs.Ytjllfaeamjadcaa
open Go.RowKit Go.Shelf

/-- 32 bytes -/
abbrev D32 := { l : List UInt8 // l.length = 32 }
def encD (x : D32) : Array Value := #[.agg (cells8 x.1).toArray]
/-- what each thing comes to -/
def comeL (key : List UInt8) (its : List (Int × List UInt8)) : List D32 := its.map fun x => ⟨ofL key x.1 x.2, ofL_length _ _ _⟩
theorem comeL_length (key : List UInt8) (its : List (Int × List UInt8)) : (comeL key its).length = its.length := by simp [comeL]
theorem comeL_next (key : List UInt8) (its : List (Int × List UInt8)) (k : Nat) (h : k < its.length) : (comeL key its).take (k + 1) = (comeL key its).take k ++ [⟨ofL key its[k].1 its[k].2, ofL_length _ _ _⟩] := by
  rw [List.take_succ_eq_append_getElem (by rw [comeL_length]; exact h)]
  simp [comeL]
/-- what a round keeps: all below B, and two blocks -/
structure KpE (B Bl Bk : Nat) (X Y : World) : Prop where
  below : Below B X Y
  l : Y.heap[Bl]? = X.heap[Bl]?
  k : Y.heap[Bk]? = X.heap[Bk]?
section
variable {B Bl Bk : Nat} {X Y Z : World}
theorem KpE.refl (X : World) : KpE B Bl Bk X X := ⟨Below.refl _ _, rfl, rfl⟩
theorem KpE.trans (h : KpE B Bl Bk X Y) (k : KpE B Bl Bk Y Z) : KpE B Bl Bk X Z := ⟨h.below.trans k.below, k.l.trans h.l, k.k.trans h.k⟩
theorem KpE.of_below (h : Below X.heap.size X Y) (hB : B ≤ X.heap.size) (hl : Bl < X.heap.size) (hk : Bk < X.heap.size) : KpE B Bl Bk X Y := ⟨h.mono hB, h.block _ hl, h.block _ hk⟩
theorem KpE.cell_l (h : KpE B Bl Bk X Y) {v : Value} (hc : X.cell? ⟨Bl, 0, none⟩ = some v) : Y.cell? ⟨Bl, 0, none⟩ = some v := (World.cell?_of_block (w := X) h.l).trans hc
theorem KpE.cell_k (h : KpE B Bl Bk X Y) {v : Value} (hc : X.cell? ⟨Bk, 0, none⟩ = some v) : Y.cell? ⟨Bk, 0, none⟩ = some v := (World.cell?_of_block (w := X) h.k).trans hc
theorem KpE.grown {row : Option Nat} (h : X.grownBy Y row) (hr : ∀ g, row = some g → B ≤ g ∧ g ≠ Bl ∧ g ≠ Bk) (hB : B ≤ X.heap.size) (hl : Bl < X.heap.size) (hk : Bk < X.heap.size) : KpE B Bl Bk X Y :=
  ⟨⟨h.os, h.tape, h.output, h.size, fun k hk => h.block k (by omega) (fun e => by have := (hr k e.symm).1; omega)⟩, h.block _ hl (fun e => (hr _ e.symm).2.1 rfl), h.block _ hk (fun e => (hr _ e.symm).2.2 rfl)⟩
end
section
attribute [local go_sem] Oper.semAt_some
set_option maxRecDepth 100000 in
set_option maxHeartbeats 4000000 in
theorem each1_in (n : Nat) (l Bl Bk n₀ : Nat) (A : Option Addr) (m c : Nat) (its : List (Int × List UInt8)) (K : Option Addr) (kn kc : Nat) (key : List UInt8) (J Jx : List D32 → World → Prop) (W : World)
    (hJ : ∀ pre X Y, J pre X → Below X.heap.size X Y → W.heap.size ≤ X.heap.size → J pre Y) (hW : n₀ ≤ W.heap.size)
    (hY : ∀ pre x X, J pre X → pre.length < m → YieldAt Fence.wide (n - 1) Try.prog l (encD x) X fun e X' => (e = .returned (.bool true) ∧ J (pre ++ [x]) X' ∧ KpE n₀ Bl Bk X X') ∨ (e = .returned (.bool false) ∧ Jx (pre ++ [x]) X'))
    (hBl : W.cell? ⟨Bl, 0, none⟩ = some (.slice A m c)) (hBk : W.cell? ⟨Bk, 0, none⟩ = some (.slice K kn kc)) (hl : Bl < W.heap.size) (hk : Bk < W.heap.size) (hI : Its W n₀ A m c its) (hK : Bs W n₀ K kn kc key)
    (hm : m ≤ 4294967296) (hkn : kn ≤ 524288) (hb : ∀ x ∈ its, x.2.length ≤ 523000) (h0 : J [] W) :
    CallsIn Fence.wide n Try.prog 44 #[.func (.yield l) #[] #[], .pointer (some ⟨Bl, 0, none⟩), .pointer (some ⟨Bk, 0, none⟩)] W fun e W' => (∃ v, e = .returned v) ∧ ((∃ ys, ys = comeL key its ∧ J ys W') ∨ (∃ pre, pre <+: comeL key its ∧ Jx pre W')) := by
  have HI : Kp _ := ⟨hI⟩
  have HK : Kp _ := ⟨hK⟩
  have HJ : Kp _ := ⟨hJ⟩
  have HY : Kp _ := ⟨hY⟩
  have HB : Kp _ := ⟨hb⟩
  have HL : Kp _ := ⟨hI.len⟩
  have H0 : Kp _ := ⟨h0⟩
  have HBl : Kp _ := ⟨hBl⟩
  have HBk : Kp _ := ⟨hBk⟩
  clear hI hK hJ hY hb h0 hBk
  refine callsIn_of_wp Try.func44 rfl trivial ?_ rfl
  simp only [Try.ntmps44, List.size_toArray, List.length_cons, List.length_nil, Nat.reduceAdd, Nat.reduceSub, Array.replicate_succ, Array.replicate_zero, List.push_toArray, List.append_toArray, List.nil_append, List.cons_append]
  gi_wp2
  gi_loopw [8] (fun i wr => ∃ k : Nat, k ≤ m ∧ i = .int .i64 k ∧ Kp (J ((comeL key its).take k) wr) ∧ Kp (KpE n₀ Bl Bk W wr)) (fun i _ => m - (intOf i).toNat)
  case atStart => exact ⟨0, Nat.zero_le _, rfl, ⟨H0.out⟩, ⟨KpE.refl _⟩⟩
  case round =>
    obtain ⟨k, hkm, rfl, HJs, HE⟩ := hrel
    have hB := HE.out.below
    by_cases hlt : k < m
    · have hki : k < its.length := by rw [HL.out]; exact hlt
      obtain ⟨b, o, A', n', c', rfl, hbl, hc1, hc2, hbs⟩ := (HI.out.below hB).at hlt
      obtain ⟨z, hz⟩ : ∃ z, z = (its[k]'hki).1 := ⟨_, rfl⟩
      obtain ⟨bb, hbb⟩ : ∃ z, z = (its[k]'hki).2 := ⟨_, rfl⟩
      have HZ : Kp _ := ⟨hz⟩
      have HBB : Kp _ := ⟨hbb⟩
      rw [← hz] at hc1
      have hck : wr.cell? ⟨Bk, 0, none⟩ = some (.slice K kn kc) := HE.out.cell_k HBk.out
      have HKr : Kp _ := ⟨HK.out.below hB⟩
      have hnr : n₀ ≤ wr.heap.size := Nat.le_trans hW hB.size
      have hn523 : n' ≤ 523000 := by
        have h := HB.out _ (List.getElem_mem hki)
        rw [hbs.len] at h
        exact h
      rw [← hbb] at hbs
      have HBs : Kp _ := ⟨hbs⟩
      have HOf : Kp (CallsIn Fence.wide (n - 1) Try.prog 18 #[.slice K kn kc, .int .i64 z, .slice A' n' c'] (wr.alloc (.cells #[.int .i64 z, .slice A' n' c'] 35)) fun e w' => e = .returned (.agg (cells8 (ofL key z bb)).toArray) ∧ Below (wr.heap.size + 1) (wr.alloc (.cells #[.int .i64 z, .slice A' n' c'] 35)) w') := ⟨callsIn_wide.2 (by
        have h := of_any K kn kc key z A' n' c' bb (wr.alloc (.cells #[.int .i64 z, .slice A' n' c'] 35)) ((HKr.out.alloc hnr _).more (by simp; omega)) ((HBs.out.alloc hnr _).more (by simp; omega)) hkn hn523
        simpa using h)⟩
      have hbk : Bk < wr.heap.size := Nat.lt_of_lt_of_le hk hB.size
      have hbl2 : Bl < wr.heap.size := Nat.lt_of_lt_of_le hl hB.size
      have hck2 : (wr.alloc (.cells #[.int .i64 z, .slice A' n' c'] 35)).cell? ⟨Bk, 0, none⟩ = some (.slice K kn kc) := (Below.cell ((Below.refl wr.heap.size wr).alloc (Nat.le_refl _) _) (p := ⟨Bk, 0, none⟩) hbk).trans hck
      clear hz hbb hbs
      gi_wp2_with fail
      refine ⟨trivial, (fun h => by cases h), HOf.out.mono ?_⟩
      rintro e w2 ⟨rfl, hb2⟩
      have hb3 : Below wr.heap.size wr w2 := ((Below.refl _ wr).alloc (Nat.le_refl _) _).trans (hb2.mono (by omega))
      have hJ2 : J ((comeL key its).take k) w2 := HJ.out _ _ _ HJs.out hb3 hB.size
      have HNx := comeL_next key its k hki
      have hof : ofL key (its[k]'hki).1 (its[k]'hki).2 = ofL key z bb := by rw [← HZ.out, ← HBB.out]
      have HNx2 : Kp ((comeL key its).take (k + 1) = (comeL key its).take k ++ [(⟨ofL key z bb, ofL_length _ _ _⟩ : D32)]) := ⟨by rw [HNx]; simp only [hof]⟩
      obtain ⟨fn, tmps, assign, body, hy, hR⟩ := HY.out _ (⟨ofL key z bb, ofL_length _ _ _⟩ : D32) w2 hJ2 (by rw [List.length_take, comeL_length]; omega)
      dsimp only [encD] at hy
      have hB2 : KpE n₀ Bl Bk W w2 := HE.out.trans (KpE.of_below hb3 hnr hbl2 hbk)
      have HR : Kp _ := ⟨hR⟩
      clear HNx hof hb2 hb3 hck2 hck hc1 hc2 hR hJ2
      gi_wp2
      refine ⟨(fun h => by cases h), HR.out.mono ?_⟩
      rintro e W3 (⟨rfl, hJ3, hk3⟩ | ⟨rfl, hJx3⟩)
      · gi_wp2
        go_roundw
        case rel => exact ⟨k + 1, by omega, by go_num, ⟨by rw [HNx2.out]; exact hJ3⟩, ⟨hB2.trans hk3⟩⟩
        case measure => simp [intOf]; omega
      · gi_wp2
        refine bodyPost_ret (results_none rfl _ _ _) rfl ?_
        exact ⟨⟨_, rfl⟩, .inr ⟨_, (by rw [← HNx2.out]; exact List.take_prefix _ _), hJx3⟩⟩
    · obtain rfl : k = m := by omega
      gi_wp2
      go_end0
      exact ⟨⟨_, rfl⟩, .inl ⟨_, rfl, by have h := HJs.out; rwa [List.take_of_length_le (by rw [comeL_length, HL.out]; exact Nat.le_refl _)] at h⟩⟩
end
theorem grown_none {w w' : World} (h : Below w.heap.size w w') : w.grownBy w' none := ⟨h.os, h.tape, h.output, h.size, fun k hk _ => h.block k hk⟩
/-- what each hands back tells what the things come to, one by one -/
theorem each_stops (n : Nat) (Bl Bk n₀ : Nat) (A : Option Addr) (m c : Nat) (its : List (Int × List UInt8)) (K : Option Addr) (kn kc : Nat) (key : List UInt8) (w : World) (hn : n₀ ≤ w.heap.size)
    (hBl : w.cell? ⟨Bl, 0, none⟩ = some (.slice A m c)) (hBk : w.cell? ⟨Bk, 0, none⟩ = some (.slice K kn kc)) (hl : Bl < w.heap.size) (hk : Bk < w.heap.size) (hI : Its w n₀ A m c its) (hK : Bs w n₀ K kn kc key)
    (hm : m ≤ 4294967296) (hkn : kn ≤ 524288) (hb : ∀ x ∈ its, x.2.length ≤ 523000) :
    SeqStopsK Fence.wide n Try.prog 44 #[.pointer (some ⟨Bl, 0, none⟩), .pointer (some ⟨Bk, 0, none⟩)] encD (KpE n₀ Bl Bk) (fun ys => ys = comeL key its) (fun pre => pre <+: comeL key its) m w := fun l J Jx W hW hJ _ hY h0 =>
  each1_in n l Bl Bk n₀ A m c its K kn kc key J Jx W (fun pre X Y hx hb hs => hJ pre X Y none hx (grown_none hb) (fun r e => by cases e)) (Nat.le_trans hn hW.size) hY
    ((hW.cell (p := ⟨Bl, 0, none⟩) hl).trans hBl) ((hW.cell (p := ⟨Bk, 0, none⟩) hk).trans hBk) (Nat.lt_of_lt_of_le hl hW.size) (Nat.lt_of_lt_of_le hk hW.size) (hI.below (hW.mono hn)) (hK.below (hW.mono hn)) hm hkn hb h0
set_option maxHeartbeats 1000000 in
/-- each boxes the key and the list; what it hands back has captured both boxes -/
theorem each_any (K : Option Addr) (kn kc : Nat) (A : Option Addr) (m c : Nat) (w : World) :
    Calls Try.prog 30 #[.slice K kn kc, .slice A m c] w fun e w' => e = .returned (.func (.func 44) #[] #[.pointer (some ⟨w.heap.size + 1, 0, none⟩), .pointer (some ⟨w.heap.size, 0, none⟩)]) ∧ w' = (w.alloc (.cells #[.slice K kn kc] 27)).alloc (.cells #[.slice A m c] 28) := by
  go_enter Try.func30, Try.ntmps30
  go_wp2
  go_ret
  exact ⟨by simp, rfl⟩
end Go.Proofs.Ytjllfaeamjadcaa

namespace Go.Proofs.Ytjllfaeamjadcaa
open Go.RowKit

/-- an element's type: of one cell, and no array or struct -/
structure Plain1 (P : Program) (e : TypeId) : Prop where
  size : (P.info? e).map (·.size) = some 1
  plain : (match P.underlying e with | some (.int _) => true | some .bool => true | some .string => true | some (.slice _) => true | some (.pointer _) => true | _ => false) = true
theorem run_index_agg {P : Program} {t e : TypeId} {n : Nat} (ht : P.underlying t = some (.array n e)) (E : Plain1 P e) (cs : List Value) (k : IntKind) (i : Nat) (hi : i < n) (v : Value) (hv : cs[i]? = some v) (w : World) :
    (Instr.index t (.agg cs.toArray) (.int k (i : Int))).run P w = .ok v w := by
  have hin : (0 : Int) ≤ (i : Int) ∧ (i : Int) < (n : Int) := by omega
  obtain ⟨inf, hinf, hsz⟩ : ∃ inf, P.info? e = some inf ∧ inf.size = 1 := by
    have h := E.size
    cases hq : P.info? e with
    | none => simp [hq] at h
    | some x => exact ⟨x, rfl, by simpa [hq] using h⟩
  have hs : (Go.sizeOf e).run P w = .ok 1 w := by simp [Go.sizeOf, typeInfo, hinf, hsz]
  have hp : (part e cs.toArray i).run P w = .ok v w := by
    have hpl := E.plain
    unfold part
    cases hu : P.underlying e with
    | none => rw [hu] at hpl; simp at hpl
    | some d =>
      rw [hu] at hpl
      cases d <;> simp at hpl <;> simp [isAgg, run_underlying hu, hv]
  simp only [Instr.index, asIntOf, Sem.run_bind, Sem.run_pure, Result.andThen_ok, run_underlying ht, if_pos hin, hs, Int.toNat_natCast, Nat.mul_one, hp]

section
variable {P : Program} {w : World} {ops : Array Oper} {rest : List Oper} {o : Oper} {a : Act} {Q : Exit → Act → World → Prop} {t e : TypeId}
theorem wpList_index {n : Nat} (ht : P.underlying t = some (.array n e)) (E : Plain1 P e) (hg : o.guard = none) (x j : Operand) (hop : o.op = .index t x j) {cs : List Value} (hx : a.eval x = .agg cs.toArray) {k : IntKind} {I : Int} (hj : a.eval j = .int k I) (i : Nat) (hI : I = (i : Int)) (hi : i < n) {v : Value} (hv : cs[i]? = some v)
    (h : wpList P ops Q rest (a.put o.dst v) w) : wpList P ops Q (o :: rest) a w := by
  subst hI
  refine wpList_plain hg fun K hK => ?_
  unfold Oper.wp
  simp only [execOp, hop, hx, hj, Sem.run_bind, run_index_agg ht E cs k i hi v hv, Result.andThen_ok, Sem.run_pure]
  exact hK _ _ h
end
end Go.Proofs.Ytjllfaeamjadcaa

namespace Go.Proofs.Ytjllfaeamjadcaa
open Go.RowKit

section
variable {P : Program} {w : World} {ops : Array Oper} {rest : List Oper} {o : Oper} {a : Act} {Q : Exit → Act → World → Prop} {t : TypeId}
theorem wpList_build1 (hg : o.guard = none) (i : Nat) (x : Operand) (hop : o.op = .build t #[(i, x)]) {v : Value} (hx : a.eval x = v) {cs : List Value} (hb : P.built t [(i, v)] = some cs.toArray)
    (h : wpList P ops Q rest (a.put o.dst (.agg cs.toArray)) w) : wpList P ops Q (o :: rest) a w := by
  refine wpList_plain hg fun K hK => ?_
  unfold Oper.wp execOp
  have hr := run_build (P := P) w t #[(i, v)] cs.toArray (by simpa using hb)
  simp only [hop, Sem.run_bind, List.map_toArray, List.map_cons, List.map_nil, hx, hr, Result.andThen_ok]
  exact hK _ _ h
/-- a whole block, read, guarded -/
theorem wpList_loadAll_g {d : TypeDesc} {n : Nat} (E : Rw P t d n) (hg : Region.wanted o (yielded ops a.tmps) = true) (x : Operand) (hop : o.op = .load t x) {g : Nat} {t' : TypeId} {cs : List Value} (hx : a.eval x = .pointer (some ⟨g, 0, none⟩)) (hb : Blk w g t' cs) (hn : cs.length = n)
    (h : wpList P ops Q rest (a.put o.dst (.agg cs.toArray)) w) : wpList P ops Q (o :: rest) a w := by
  refine wpList_step fun K hK => ?_
  rw [if_pos hg]
  have hr := run_load_rw E hb (off := 0) (by omega)
  rw [List.drop_zero, List.take_of_length_le (by omega)] at hr
  unfold Oper.wp
  simp only [execOp, hop, hx, Sem.run_bind, hr, Result.andThen_ok, Sem.run_pure]
  exact hK _ _ h
/-- a new variable of many cells, in a region whose order is open -/
theorem step_alloc {K : Act → World → Prop} {C : Prop} {zs : List Value} (E : Ty P t zs) (hgd : o.guard = none) (hop : o.op = .alloc t)
    (h : ∀ w', Blk w' w.heap.size t zs → Below w.heap.size w w' → K (a.put o.dst (.pointer (some ⟨w.heap.size, 0, none⟩))) w') :
    if Region.wanted o (yielded ops a.tmps) = true then Oper.wp P o a w K Q else C := by
  have hw : Region.wanted o (yielded ops a.tmps) = true := by simp [Region.wanted, hgd]
  rw [if_pos hw]
  unfold Oper.wp
  simp only [execOp, hop, Sem.run_bind, run_alloc_ty E, Result.andThen_ok, Sem.run_pure]
  exact h _ (Blk.new w t zs) ((Below.refl _ _).alloc (Nat.le_refl _) _)
/-- many cells, read, as what they are known to be -/
theorem wpList_loadv {d : TypeDesc} {n : Nat} (E : Rw P t d n) (hg : o.guard = none) (x : Operand) (hop : o.op = .load t x) {g off : Nat} {t' : TypeId} {cs vs : List Value} (hx : a.eval x = .pointer (some ⟨g, off, none⟩)) (hb : Blk w g t' cs) (hfit : off + n ≤ cs.length) (hv : (cs.drop off).take n = vs)
    (h : wpList P ops Q rest (a.put o.dst (.agg vs.toArray)) w) : wpList P ops Q (o :: rest) a w := by
  subst hv
  exact wpList_load E hg x hop hx hb hfit h
end
end Go.Proofs.Ytjllfaeamjadcaa

namespace Go.Proofs.Ytjllfaeamjadcaa
open Go.RowKit

theorem add64_run (x y c s d : Nat) (hc : c ≤ 1) (hs : s = (x + y + c) % 18446744073709551616) (hd : d = (x + y + c) / 18446744073709551616) (w : World) :
    (callFunc 33 #[.int .u64 (x : Int), .int .u64 (y : Int), .int .u64 (c : Int)]).run Try.prog w = .ok (.value (.tuple #[.int .u64 (s : Int), .int .u64 (d : Int)])) w := by
  subst hs hd
  rw [run_callFunc_extern Try.func33 (by kernel_rfl) (by kernel_rfl) (by kernel_rfl) (e := add64Entry) (by kernel_rfl), run_add64 x y c (by omega) (by omega) (by omega) (by omega)]
  simp only [Result.andThen]
  congr 5 <;> omega
theorem sub64_run (x y b s d : Nat) (hb : b ≤ 1) (hs : s = (x + 18446744073709551616 - y - b) % 18446744073709551616) (hd : d = if x < y + b then 1 else 0) (w : World) :
    (callFunc 34 #[.int .u64 (x : Int), .int .u64 (y : Int), .int .u64 (b : Int)]).run Try.prog w = .ok (.value (.tuple #[.int .u64 (s : Int), .int .u64 (d : Int)])) w := by
  subst hs hd
  rw [run_callFunc_extern Try.func34 (by kernel_rfl) (by kernel_rfl) (by kernel_rfl) (e := sub64Entry) (by kernel_rfl), run_sub64 x y b hb]
  rfl
def zeroW4 : List Value := List.replicate 4 (.int .u64 0)
theorem tyWords : Ty Try.prog 41 zeroW4 := ⟨by kernel_rfl⟩
theorem rwWords : Rw Try.prog 41 (.array 4 39) 4 := ⟨by kernel_rfl, rfl, by kernel_rfl⟩
theorem plain64 : Plain1 Try.prog 39 := ⟨by kernel_rfl, by kernel_rfl⟩
theorem plus_parts (m n k : Nat) : ∃ x y c s d : Nat, c ≤ 1 ∧ Kp (dg m k = x) ∧ Kp (dg n k = y) ∧ Kp (carryN m n k = c) ∧ Kp (dg (m + n) k = s) ∧ Kp (carryN m n (k + 1) = d) ∧
    ∀ w, (callFunc 33 #[.int .u64 (x : Int), .int .u64 (y : Int), .int .u64 (c : Int)]).run Try.prog w = .ok (.value (.tuple #[.int .u64 (s : Int), .int .u64 (d : Int)])) w :=
  ⟨_, _, _, _, _, carryN_le m n k, ⟨rfl⟩, ⟨rfl⟩, ⟨rfl⟩, ⟨rfl⟩, ⟨rfl⟩, fun w => add64_run _ _ _ _ _ (carryN_le m n k) (plus_digit m n k).1 (plus_digit m n k).2 w⟩
theorem minus_parts (m n k : Nat) (hk : k < 4) (hn : n < 256 ^ 32) : ∃ x y c s d : Nat, c ≤ 1 ∧ Kp (dg m k = x) ∧ Kp (dg n k = y) ∧ Kp (borrowN m n k = c) ∧ Kp (dg (subN m n) k = s) ∧ Kp (borrowN m n (k + 1) = d) ∧
    ∀ w, (callFunc 34 #[.int .u64 (x : Int), .int .u64 (y : Int), .int .u64 (c : Int)]).run Try.prog w = .ok (.value (.tuple #[.int .u64 (s : Int), .int .u64 (d : Int)])) w :=
  ⟨_, _, _, _, _, borrowN_le m n k, ⟨rfl⟩, ⟨rfl⟩, ⟨rfl⟩, ⟨rfl⟩, ⟨rfl⟩, fun w => sub64_run _ _ _ _ _ (borrowN_le m n k) (by
    have h1 := dg_lt n k
    have h2 := borrowN_le m n k
    rw [show dg (subN m n) k = _ from (minus_digit m n k hk hn).1, show dg m k + 18446744073709551616 - dg n k + 18446744073709551616 - borrowN m n k = dg m k + 18446744073709551616 - dg n k - borrowN m n k + 18446744073709551616 by omega, Nat.add_mod_right]) (minus_digit m n k hk hn).2 w⟩
/-- the results of many cells and of one -/
theorem ret_arr_tmp {P : Program} {w : World} {a : Act} {t : TypeId} {fn : Func} {R : Ending → World → Prop} {p q : Tmp} {d : TypeDesc} {n : Nat} (hr : fn.results = #[.cell p t, .tmp q]) (E : Rw P t d n) {g : Nat} {t' : TypeId} {cs : List Value} {v2 : Value} (hx : a.tmps.getD p undef = .pointer (some ⟨g, 0, none⟩)) (hq : a.tmps.getD q undef = v2) (hb : Blk w g t' cs) (hn : cs.length = n) (hd : a.defers = [])
    (h : R (.returned (.tuple #[.agg cs.toArray, v2])) w) : bodyPost P fn R .ret a w := by
  have hl := run_load_rw (w := w) E hb (off := 0) (by omega)
  simp only [Instr.loadAt, Instr.sureAddr, Sem.run_bind, Sem.run_pure, Result.andThen_ok] at hl
  have e : (cs.drop 0).take n = cs := by rw [List.drop_zero, List.take_of_length_le (by omega)]
  rw [e] at hl
  have hx' : a.tmps[p]?.getD undef = .pointer (some ⟨g, 0, none⟩) := by simpa using hx
  have hq' : a.tmps[q]?.getD undef = v2 := by simpa using hq
  exact bodyPost_ret (v := .tuple #[.agg cs.toArray, v2]) (by simp only [results, hr]; simp [hx', hq', asAddr, hl]) hd h
end Go.Proofs.Ytjllfaeamjadcaa

namespace Go.Proofs.Ytjllfaeamjadcaa
open Go.RowKit

set_option maxRecDepth 100000 in
set_option maxHeartbeats 4000000 in
theorem plus_any (m n : Nat) (w : World) : Calls Try.prog 23 #[.agg (numCells (W4 m)).toArray, .agg (numCells (W4 n)).toArray] w fun e w' => e = .returned (.agg (numCells (W4 (m + n))).toArray) ∧ Below w.heap.size w w' := by
  have HLm : Kp ((numCells (W4 m)).length = 4) := ⟨by rw [numCells_length, W4_length]⟩
  go_enter Try.func23, Try.ntmps23
  go_wp2_with (with_reducible refine wpList_box (o := ⟨some 2, _, _, _, _, _⟩) rfl (.tmp 0) rfl rfl ?_)
  intro w1 hk1 hb1 hs1
  have HK1 : Kp _ := ⟨hk1⟩
  clear hk1 hs1
  go_wp2_with (with_reducible refine wpList_box (o := ⟨some 3, _, _, _, _, _⟩) rfl (.tmp 1) rfl rfl ?_)
  intro w2 hk2 hb2 hs2
  have HN2 : Kp _ := ⟨hk2⟩
  have HA2 : Kp _ := ⟨HK1.out.below hb2 HK1.out.lt⟩
  have hB2 : Below w.heap.size w w2 := hb1.trans (hb2.mono hb1.size)
  have n1 : w.heap.size < w1.heap.size := HK1.out.lt
  clear hk2 hb1 hb2 hs2 HK1
  go_wp2_with (with_reducible refine wpList_alloc (o := ⟨some 4, _, _, _, _, _⟩) tyWords rfl rfl ?_)
  intro w3 hk3 hb3 hs3
  have HR3 : Kp _ := ⟨hk3⟩
  have HN3 : Kp _ := ⟨HN2.out.below hb3 HN2.out.lt⟩
  have HA3 : Kp (Blk w3 w.heap.size 41 (numCells (part4 (dg (m + n)) (dg m) 0))) := ⟨by rw [part4_none]; exact HA2.out.below hb3 HA2.out.lt⟩
  have hB3 : Below w.heap.size w w3 := hB2.trans (hb3.mono hB2.size)
  have n2 : w1.heap.size < w2.heap.size := HN2.out.lt
  obtain ⟨gn, hgn⟩ : ∃ g, g = w1.heap.size := ⟨_, rfl⟩
  obtain ⟨gr, hgr⟩ : ∃ g, g = w2.heap.size := ⟨_, rfl⟩
  rw [← hgn] at HN3 n1 n2
  rw [← hgr] at HR3 n2
  rw [← hgn, ← hgr]
  have HC0 : Kp _ := ⟨carryN_zero m n⟩
  clear hk3 hb3 hs3 HN2 HA2 hB2 hgn hgr
  go_wp2
  go_loopg [5, 7] 4 (fun gk vc vi wr => ∃ k : Nat, k + gk = 4 ∧ vi = .int .i64 k ∧ vc = .int .u64 ((carryN m n k : Nat) : Int) ∧ Kp (Blk wr w.heap.size 41 (numCells (part4 (dg (m + n)) (dg m) k))) ∧ Kp (Blk wr gn 41 (numCells (W4 n))) ∧ Kp (Blk wr gr 41 zeroW4) ∧ Below w.heap.size w wr)
  case atStart => exact ⟨0, by omega, rfl, by rw [HC0.out]; rfl, HA3, HN3, HR3, hB3⟩
  case round =>
    clear HA3 HN3 HR3 hB3 HC0
    obtain ⟨k, hk, rfl, rfl, HA, HN, HR, hB⟩ := hrel
    cases gk with
    | zero =>
      obtain rfl : k = 4 := by omega
      have HD : Kp (Blk wr w.heap.size 41 (numCells (W4 (m + n)))) := ⟨by rw [← part4_all (m + n) (dg m)]; exact HA.out⟩
      have HLen : Kp ((numCells (W4 (m + n))).length = 4) := ⟨by rw [numCells_length, W4_length]⟩
      have HZ : Kp (zeroW4.length = 4) := ⟨rfl⟩

      generalize hL : W4 (m + n) = L at *
      have HL : Kp _ := ⟨hL⟩
      clear HA HN hL
      go_wp2_with (first
        | (with_reducible refine wpList_loadAll (o := ⟨some 24, _, _, _, _, _⟩) rwWords rfl (.tmp 2) rfl rfl HD.out HLen.out ?_)
        | (with_reducible refine wpList_storeAll (o := ⟨none, _, _, _, _, _⟩) (vs := numCells L) rwWords rfl (.tmp 4) (.tmp 24) rfl rfl HR.out HZ.out HLen.out (numCells_one _) rfl ?_))
      intro w5 hk5 ho5
      have HK5 : Kp _ := ⟨hk5⟩
      clear hk5
      go_wp2
      exact ret_arr rfl rwWords rfl HK5.out HLen.out rfl ⟨by rw [HL.out], hB.trans (ho5.below (by omega))⟩
    | succ g2 =>
      have hkI : (k : Int) < 4 := by omega
      have hk4 : k < 4 := by omega
      obtain ⟨x, y, c, s, d, hc1, HX, HY, HCx, HS, HD, hrun⟩ := plus_parts m n k
      have hca : wr.cell? ⟨w.heap.size, k, none⟩ = some (.int .u64 (x : Int)) := by rw [HA.out.cell?, part4_at _ _ _ _ hk4 (Nat.le_refl _), HX.out]
      have hcn : wr.cell? ⟨gn, k, none⟩ = some (.int .u64 (y : Int)) := by rw [HN.out.cell?, W4_at _ _ hk4, HY.out]
      have hfa := HA.out.frozen k
      have HSet : Kp _ := ⟨part4_set (dg (m + n)) (dg m) k⟩
      rw [HS.out] at HSet
      rw [HCx.out]
      obtain ⟨wa, rfl⟩ : ∃ x, x = wr := ⟨wr, rfl⟩
      go_wp2_with fail
      replace hca : wa.drew.cell? ⟨w.heap.size, k, none⟩ = some (.int .u64 (x : Int)) := hca
      replace hcn : wa.drew.cell? ⟨gn, k, none⟩ = some (.int .u64 (y : Int)) := hcn
      replace hfa : wa.drew.frozen? ⟨w.heap.size, k, none⟩ = false := hfa
      refine wp_region_any (by kernel_rfl) ?_
      change wpAny _ _ _ _ _ _ _ wa.drew
      replace HA : Kp _ := ⟨HA.out.drew⟩
      replace HN : Kp _ := ⟨HN.out.drew⟩
      replace HR : Kp _ := ⟨HR.out.drew⟩
      replace hB := hB.drew
      generalize wa.drew = wS at *
      refine wpAny_take (i := 0) (oi := ⟨some 11, _, _, _, _, _⟩) (v := ?_) rfl (by kernel_rfl) (by kernel_rfl) (by kernel_rfl) (fun _ _ _ h => h) (Or.inl ⟨by rfl, by intro w; go_simp; try rfl⟩) ?_
      try simp only [Act.put, List.setIfInBounds_toArray, List.set_cons_zero, List.set_cons_succ]
      refine wpAny_take (i := 1) (oi := ⟨some 12, _, _, _, _, _⟩) (v := ?_) rfl (by kernel_rfl) (by kernel_rfl) (by kernel_rfl) (fun _ _ _ h => h) (Or.inl ⟨by rfl, by intro w; go_simp; try rfl⟩) ?_
      try simp only [Act.put, List.setIfInBounds_toArray, List.set_cons_zero, List.set_cons_succ]
      refine wpAny_take (i := 2) (oi := ⟨some 13, _, _, _, _, _⟩) (v := ?_) rfl (by kernel_rfl) (by kernel_rfl) (by kernel_rfl) (fun _ _ _ h => h) (Or.inl ⟨by rfl, by intro w; go_simp; try rfl⟩) ?_
      try simp only [Act.put, List.setIfInBounds_toArray, List.set_cons_zero, List.set_cons_succ]
      refine wpAny_take (i := 4) (oi := ⟨some 15, _, _, _, _, _⟩) (v := ?_) rfl (by kernel_rfl) (by kernel_rfl) (by kernel_rfl) (fun _ _ _ h => h) (Or.inl ⟨by rfl, by intro w; go_simp; try rfl⟩) ?_
      try simp only [Act.put, List.setIfInBounds_toArray, List.set_cons_zero, List.set_cons_succ]
      refine wpAny_take (i := 5) (oi := ⟨some 16, _, _, _, _, _⟩) (v := ?_) rfl (by kernel_rfl) (by kernel_rfl) (by kernel_rfl) (fun _ _ _ h => h) (Or.inl ⟨by rfl, by intro w; go_simp; try rfl⟩) ?_
      try simp only [Act.put, List.setIfInBounds_toArray, List.set_cons_zero, List.set_cons_succ]
      refine wpAny_take (i := 7) (oi := ⟨some 18, _, _, _, _, _⟩) (v := ?_) rfl (by kernel_rfl) (by kernel_rfl) (by kernel_rfl) (fun _ _ _ h => h) (Or.inl ⟨by rfl, by intro w; go_simp; try rfl⟩) ?_
      try simp only [Act.put, List.setIfInBounds_toArray, List.set_cons_zero, List.set_cons_succ]
      refine wpAny_ready (rs := [3, 6]) (by kernel_rfl) (by simp) ?_
      refine AllReady.cons (o := ⟨some 14, _, _, _, _, _⟩) rfl (fun K hK => ?_) (AllReady.cons (o := ⟨some 17, _, _, _, _, _⟩) rfl (fun K hK => ?_) AllReady.nil)
      · go_simp
        refine hK _ _ ?_
        clear hK K
        try simp only [Act.put, List.setIfInBounds_toArray, List.set_cons_zero, List.set_cons_succ]
        refine wpAny_ready (rs := [6]) (by kernel_rfl) (by simp) ?_
        refine AllReady.cons (o := ⟨some 17, _, _, _, _, _⟩) rfl (fun K hK => ?_) AllReady.nil
        go_simp
        refine hK _ _ ?_
        clear hK K
        try simp only [Act.put, List.setIfInBounds_toArray, List.set_cons_zero, List.set_cons_succ]
        refine wpAny_take (i := 8) (oi := ⟨some 19, _, _, _, _, _⟩) (v := _) rfl (by kernel_rfl) (by kernel_rfl) (by kernel_rfl) (fun _ _ _ h => h) (Or.inl ⟨by rfl, by intro w; go_simp; try rfl⟩) ?_
        try simp only [Act.put, List.setIfInBounds_toArray, List.set_cons_zero, List.set_cons_succ]
        refine wpAny_take (i := 9) (oi := ⟨some 10, _, _, _, _, _⟩) (v := ?_) rfl (by kernel_rfl) (by kernel_rfl) (by kernel_rfl) (fun _ _ _ h => h) (Or.inl ⟨by rfl, by intro w; go_simp; try rfl⟩) ?_
        try simp only [Act.put, List.setIfInBounds_toArray, List.set_cons_zero, List.set_cons_succ]
        refine wpAny_take (i := 10) (oi := ⟨some 20, _, _, _, _, _⟩) (v := ?_) rfl (by kernel_rfl) (by kernel_rfl) (by kernel_rfl) (fun _ _ _ h => h) (Or.inl ⟨by rfl, by intro w; go_simp; try rfl⟩) ?_
        try simp only [Act.put, List.setIfInBounds_toArray, List.set_cons_zero, List.set_cons_succ]
        refine wpAny_take (i := 11) (oi := ⟨some 21, _, _, _, _, _⟩) (v := ?_) rfl (by kernel_rfl) (by kernel_rfl) (by kernel_rfl) (fun _ _ _ h => h) (Or.inl ⟨by rfl, by intro w; go_simp; try rfl⟩) ?_
        try simp only [Act.put, List.setIfInBounds_toArray, List.set_cons_zero, List.set_cons_succ]
        refine wpAny_take (i := 12) (oi := ⟨some 22, _, _, _, _, _⟩) (v := ?_) rfl (by kernel_rfl) (by kernel_rfl) (by kernel_rfl) (fun _ _ _ h => h) (Or.inl ⟨by rfl, by intro w; go_simp; try rfl⟩) ?_
        try simp only [Act.put, List.setIfInBounds_toArray, List.set_cons_zero, List.set_cons_succ]
        refine wpAny_ready (rs := [13]) (by kernel_rfl) (by simp) ?_
        refine AllReady.cons (o := ⟨none, _, _, _, _, _⟩) rfl (fun K hK => ?_) AllReady.nil
        go_simp
        refine hK _ _ ?_
        clear hK K
        try simp only [Act.put, List.setIfInBounds_toArray, List.set_cons_zero, List.set_cons_succ]
        refine wpAny_take (i := 14) (oi := ⟨some 5, _, _, _, _, _⟩) (v := ?_) rfl (by kernel_rfl) (by kernel_rfl) (by kernel_rfl) (fun _ _ _ h => h) (Or.inl ⟨by rfl, by intro w; go_simp; try rfl⟩) ?_
        try simp only [Act.put, List.setIfInBounds_toArray, List.set_cons_zero, List.set_cons_succ]
        refine wpAny_done (by kernel_rfl) ?_ _
        go_wp2
        go_roundg g2
        case rel => exact ⟨k + 1, by omega, by go_num, by rw [HD.out], ⟨by have h3 := HA.out.set k (.int .u64 (s : Int)); rw [HSet.out] at h3; exact h3⟩, ⟨HN.out.other (by show _ ≠ w.heap.size; omega) _⟩, ⟨HR.out.other (by show _ ≠ w.heap.size; omega) _⟩, hB.setCell (by show w.heap.size ≤ w.heap.size; omega) _⟩
        case measure => omega
      · go_simp
        refine hK _ _ ?_
        clear hK K
        try simp only [Act.put, List.setIfInBounds_toArray, List.set_cons_zero, List.set_cons_succ]
        refine wpAny_ready (rs := [3]) (by kernel_rfl) (by simp) ?_
        refine AllReady.cons (o := ⟨some 14, _, _, _, _, _⟩) rfl (fun K hK => ?_) AllReady.nil
        go_simp
        refine hK _ _ ?_
        clear hK K
        try simp only [Act.put, List.setIfInBounds_toArray, List.set_cons_zero, List.set_cons_succ]
        refine wpAny_take (i := 8) (oi := ⟨some 19, _, _, _, _, _⟩) (v := _) rfl (by kernel_rfl) (by kernel_rfl) (by kernel_rfl) (fun _ _ _ h => h) (Or.inl ⟨by rfl, by intro w; go_simp; try rfl⟩) ?_
        try simp only [Act.put, List.setIfInBounds_toArray, List.set_cons_zero, List.set_cons_succ]
        refine wpAny_take (i := 9) (oi := ⟨some 10, _, _, _, _, _⟩) (v := ?_) rfl (by kernel_rfl) (by kernel_rfl) (by kernel_rfl) (fun _ _ _ h => h) (Or.inl ⟨by rfl, by intro w; go_simp; try rfl⟩) ?_
        try simp only [Act.put, List.setIfInBounds_toArray, List.set_cons_zero, List.set_cons_succ]
        refine wpAny_take (i := 10) (oi := ⟨some 20, _, _, _, _, _⟩) (v := ?_) rfl (by kernel_rfl) (by kernel_rfl) (by kernel_rfl) (fun _ _ _ h => h) (Or.inl ⟨by rfl, by intro w; go_simp; try rfl⟩) ?_
        try simp only [Act.put, List.setIfInBounds_toArray, List.set_cons_zero, List.set_cons_succ]
        refine wpAny_take (i := 11) (oi := ⟨some 21, _, _, _, _, _⟩) (v := ?_) rfl (by kernel_rfl) (by kernel_rfl) (by kernel_rfl) (fun _ _ _ h => h) (Or.inl ⟨by rfl, by intro w; go_simp; try rfl⟩) ?_
        try simp only [Act.put, List.setIfInBounds_toArray, List.set_cons_zero, List.set_cons_succ]
        refine wpAny_take (i := 12) (oi := ⟨some 22, _, _, _, _, _⟩) (v := ?_) rfl (by kernel_rfl) (by kernel_rfl) (by kernel_rfl) (fun _ _ _ h => h) (Or.inl ⟨by rfl, by intro w; go_simp; try rfl⟩) ?_
        try simp only [Act.put, List.setIfInBounds_toArray, List.set_cons_zero, List.set_cons_succ]
        refine wpAny_ready (rs := [13]) (by kernel_rfl) (by simp) ?_
        refine AllReady.cons (o := ⟨none, _, _, _, _, _⟩) rfl (fun K hK => ?_) AllReady.nil
        go_simp
        refine hK _ _ ?_
        clear hK K
        try simp only [Act.put, List.setIfInBounds_toArray, List.set_cons_zero, List.set_cons_succ]
        refine wpAny_take (i := 14) (oi := ⟨some 5, _, _, _, _, _⟩) (v := ?_) rfl (by kernel_rfl) (by kernel_rfl) (by kernel_rfl) (fun _ _ _ h => h) (Or.inl ⟨by rfl, by intro w; go_simp; try rfl⟩) ?_
        try simp only [Act.put, List.setIfInBounds_toArray, List.set_cons_zero, List.set_cons_succ]
        refine wpAny_done (by kernel_rfl) ?_ _
        go_wp2
        go_roundg g2
        case rel => exact ⟨k + 1, by omega, by go_num, by rw [HD.out], ⟨by have h3 := HA.out.set k (.int .u64 (s : Int)); rw [HSet.out] at h3; exact h3⟩, ⟨HN.out.other (by show _ ≠ w.heap.size; omega) _⟩, ⟨HR.out.other (by show _ ≠ w.heap.size; omega) _⟩, hB.setCell (by show w.heap.size ≤ w.heap.size; omega) _⟩
        case measure => omega
end Go.Proofs.Ytjllfaeamjadcaa
