/- Numbers of 256 bits, byte by byte. No program is named here. -/
import Derived.Test.YtjllfaeamjadcaaSumPure
namespace Go.Proofs.Ytjllfaeamjadcaa
open Go.RowKit

def byN (n k : Nat) : Nat := n / 256 ^ k % 256
def carryB (m n k : Nat) : Nat := (m % 256 ^ k + n % 256 ^ k) / 256 ^ k
def borrowB (m n k : Nat) : Nat := if m % 256 ^ k < n % 256 ^ k then 1 else 0
theorem carryB_zero (m n : Nat) : carryB m n 0 = 0 := by unfold carryB; simp [Nat.mod_one]
theorem borrowB_zero (m n : Nat) : borrowB m n 0 = 0 := by unfold borrowB; simp [Nat.mod_one]
theorem carryB_le (m n k : Nat) : carryB m n k ≤ 1 := by
  unfold carryB
  have hp : 0 < 256 ^ k := Nat.pow_pos (by decide)
  have h1 := Nat.mod_lt m hp
  have h2 := Nat.mod_lt n hp
  generalize 256 ^ k = P at *
  have : (m % P + n % P) / P < 2 := Nat.div_lt_of_lt_mul (by omega)
  omega
theorem borrowB_le (m n k : Nat) : borrowB m n k ≤ 1 := by unfold borrowB; split <;> omega
theorem byN_lt (n k : Nat) : byN n k < 256 := Nat.mod_lt _ (by decide)
theorem pow_succ256 (k : Nat) : 256 ^ (k + 1) = 256 ^ k * 256 := Nat.pow_succ _ _
theorem add_byte (m n k : Nat) : byN (m + n) k = (carryB m n k + byN m k + byN n k) % 256 ∧ carryB m n (k + 1) = (carryB m n k + byN m k + byN n k) / 256 := by
  obtain ⟨h1, h2⟩ := add_parts m n (256 ^ k) 256 (Nat.pow_pos (by decide))
  unfold byN carryB
  rw [pow_succ256]
  exact ⟨by rw [h1]; congr 1; omega, by rw [h2]; congr 1; omega⟩
theorem sub_byte (m n k : Nat) (hk : k < 32) (hn : n < 256 ^ 32) :
    byN (subN m n) k = (if byN m k < byN n k + borrowB m n k then byN m k + 256 - byN n k - borrowB m n k else byN m k - byN n k - borrowB m n k) ∧
    borrowB m n (k + 1) = (if byN m k < byN n k + borrowB m n k then 1 else 0) := by
  have h := sub_parts m n (256 ^ k) 256 (Nat.pow_pos (by decide)) (by decide) (256 ^ (31 - k))
  have e : 256 ^ k * 256 * 256 ^ (31 - k) = 256 ^ 32 := by
    rw [← Nat.pow_succ, ← Nat.pow_add, show k + 1 + (31 - k) = 32 by omega]
  rw [e] at h
  obtain ⟨h1, h2⟩ := h (by omega)
  have hx := byN_lt m k
  have hy := byN_lt n k
  have hb := borrowB_le m n k
  refine ⟨?_, by unfold byN borrowB; rw [pow_succ256]; exact h2⟩
  have h3 : byN (subN m n) k = (byN m k + 256 - byN n k + 256 - borrowB m n k) % 256 := h1
  rw [h3]
  generalize byN m k = x at *
  generalize byN n k = y at *
  generalize borrowB m n k = b at *
  split <;> omega
theorem byte_at (l : List UInt8) (hl : l.length = 32) (k : Nat) (hk : k < 32) : (l[31 - k]'(by omega)).toNat = byN (getN l) k := by
  have e1 : l = l.take (31 - k) ++ [l[31 - k]'(by omega)] ++ l.drop (31 - k + 1) := by
    conv => lhs; rw [← List.take_append_drop (31 - k + 1) l]
    rw [List.take_succ_eq_append_getElem (by omega)]
  have hz : (l.drop (31 - k + 1)).length = k := by simp; omega
  have hz2 := getN_lt (l.drop (31 - k + 1))
  obtain ⟨x, hx⟩ : ∃ x, x = l[31 - k]'(by omega) := ⟨_, rfl⟩
  rw [← hx] at e1 ⊢
  clear hx
  generalize l.drop (31 - k + 1) = z at *
  generalize l.take (31 - k) = y at *
  rw [e1, getN_append, getN_append, hz]
  rw [hz] at hz2
  unfold byN
  have hs : getN [x] = x.toNat := by simp [getN]
  rw [hs]
  have hx := x.toNat_lt
  rw [show ([x] : List UInt8).length = 1 from rfl, Nat.pow_one]
  generalize getN y = gy at *
  generalize getN z = gz at *
  rw [show (gy * 256 + x.toNat) * 256 ^ k + gz = gz + 256 ^ k * (gy * 256 + x.toNat) by rw [Nat.mul_comm (256 ^ k)]; omega, Nat.add_mul_div_left _ _ (Nat.pow_pos (by decide)), Nat.div_eq_of_lt hz2]
  omega
/-- the bytes of a number: the last k are there -/
def tailB (n k : Nat) : List UInt8 := List.replicate (32 - k) 0 ++ putN n k
theorem tailB_spot (n k : Nat) (hk : k < 32) : (cells8 (tailB n k))[31 - k]? = some (.int .u8 0) := by
  have h := put_spot (n := n) (N := 32) hk
  rwa [show 32 - 1 - k = 31 - k by omega] at h
theorem tailB_set (n k : Nat) (hk : k < 32) : (cells8 (tailB n k)).set (31 - k) (.int .u8 ((byN n k : Nat) : Int)) = cells8 (tailB n (k + 1)) := by
  have h := put_row (n := n) (N := 32) hk
  rw [show 32 - 1 - k = 31 - k by omega] at h
  have e : ((byN n k : Nat) : Int) = (n : Int) / 2 ^ (8 * k) % 256 := by
    unfold byN
    rw [show (256 : Nat) ^ k = 2 ^ (8 * k) by rw [show (256 : Nat) = 2 ^ 8 from rfl, ← Nat.pow_mul]]
    simp
  rw [e]
  exact h
theorem tailB_none (n : Nat) : cells8 (tailB n 0) = cells8 z32 := by
  unfold tailB
  rw [show putN n 0 = [] from rfl, List.append_nil]; rfl
theorem tailB_all (n : Nat) : tailB n 32 = putN n 32 := by
  unfold tailB
  rw [Nat.sub_self, List.replicate_zero, List.nil_append]
theorem tailB_length (n k : Nat) (hk : k ≤ 32) : (tailB n k).length = 32 := by simp [tailB, putN_length]; omega
/-- the first byte that differs decides -/
theorem less_at {a b : List UInt8} (ha : a.length = 32) (hb : b.length = 32) (k : Nat) (hk : k < 32) (ht : a.take k = b.take k) (h : (a[k]'(by omega)).toNat < (b[k]'(by omega)).toNat) : getN a < getN b := by
  have split : ∀ l : List UInt8, ∀ hl : l.length = 32, getN l = (getN (l.take k) * 256 + (l[k]'(by omega)).toNat) * 256 ^ (31 - k) + getN (l.drop (k + 1)) := by
    intro l hl
    have e1 : l = l.take k ++ [l[k]'(by omega)] ++ l.drop (k + 1) := by
      conv => lhs; rw [← List.take_append_drop (k + 1) l]
      rw [List.take_succ_eq_append_getElem (by omega)]
    conv => lhs; rw [e1]
    rw [getN_append, getN_append, show ([l[k]'(by omega)] : List UInt8).length = 1 from rfl, Nat.pow_one, show (l.drop (k + 1)).length = 31 - k by simp; omega]
    congr 3
    simp [getN]
  rw [split a ha, split b hb, ht]
  have h1 := getN_lt (a.drop (k + 1))
  rw [show (a.drop (k + 1)).length = 31 - k by simp; omega] at h1
  generalize a[k]'_ = x at *
  generalize b[k]'_ = y at *
  generalize getN (b.take k) = t at *
  generalize getN (a.drop (k + 1)) = u at *
  generalize getN (b.drop (k + 1)) = v at *
  generalize 256 ^ (31 - k) = P at *
  have h2 : (t * 256 + x.toNat + 1) * P ≤ (t * 256 + y.toNat) * P := Nat.mul_le_mul_right _ (by omega)
  rw [Nat.add_mul, Nat.one_mul] at h2
  omega
end Go.Proofs.Ytjllfaeamjadcaa
