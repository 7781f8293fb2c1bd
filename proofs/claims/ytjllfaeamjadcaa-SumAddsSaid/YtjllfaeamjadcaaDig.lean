/- A digest as an array, byte by byte. -/
import Derived.Test.YtjllfaeamjadcaaEl
import Derived.Test.YtjllfaeamjadcaaShaPure
import Derived.Test.YtjllfaeamjadcaaArr
namespace Go.Proofs.Ytjllfaeamjadcaa
open Go.RowKit

def zero32 : List Value := cells8 (List.replicate 32 0)
theorem tyDig : Ty Try.prog 23 zero32 := ⟨by kernel_rfl⟩
theorem rwDig : Rw Try.prog 23 (.array 32 5) 32 := ⟨by kernel_rfl, rfl, by kernel_rfl⟩

/-- the first j bytes of D, the others noughts -/
def outAt (D : List UInt8) (j : Nat) : List UInt8 := D.take j ++ List.replicate (32 - j) 0
theorem outAt_set (D : List UInt8) (hD : D.length = 32) (j : Nat) (h : j < 32) : (cells8 (outAt D j)).set j (.int .u8 ((D.getD j 0).toNat : Int)) = cells8 (outAt D (j + 1)) := by
  unfold outAt
  have hl : (cells8 (D.take j)).length = j := by rw [cells8_length]; simp; omega
  rw [show 32 - j = (32 - (j + 1)) + 1 by omega, List.replicate_succ, cells8_append, List.set_append_right _ _ (by omega), hl, Nat.sub_self]
  rw [List.take_succ_eq_append_getElem (by omega), cells8_append, cells8_append]
  simp [cells8, List.getD, List.getElem?_eq_getElem (show j < D.length by omega)]
theorem outAt_end (D : List UInt8) (hD : D.length = 32) : outAt D 32 = D := by
  unfold outAt; rw [List.take_of_length_le (by omega)]; simp
theorem outAt_length (D : List UInt8) (hD : D.length = 32) (j : Nat) (h : j ≤ 32) : (outAt D j).length = 32 := by simp [outAt]; omega
theorem digestL_length (S : St) : (digestL S).length = 32 := by simp [digestL, St.list, putN_length]
theorem digest_at (S : St) (i k : Nat) (hi : i < 8) (hk : k < 4) : (putN (S.list.getD i 0).toNat 4)[k]? = some ((digestL S).getD (4 * i + k) 0) := by
  have h1 : i = 0 ∨ i = 1 ∨ i = 2 ∨ i = 3 ∨ i = 4 ∨ i = 5 ∨ i = 6 ∨ i = 7 := by omega
  have h2 : k = 0 ∨ k = 1 ∨ k = 2 ∨ k = 3 := by omega
  rcases h1 with rfl | rfl | rfl | rfl | rfl | rfl | rfl | rfl <;> rcases h2 with rfl | rfl | rfl | rfl <;> rfl

theorem u32_lt64 (x : UInt32) : x.toNat < 18446744073709551616 := Nat.lt_trans x.toNat_lt (by decide)
theorem u64_of_u32 (x : UInt32) : IntKind.u64.wrap (x.toNat : Int) = (x.toNat : Int) := by
  rw [wrap_u64_nat, Nat.mod_eq_of_lt (u32_lt64 x)]

theorem digest_byte (S : St) (q r : Nat) (hq : q < 8) (hr : r < 4) : (((digestL S).getD (4 * q + r) 0).toNat : Int) = ((S.list.getD q 0).toNat : Int) / ((256 ^ (3 - r) : Nat) : Int) % 256 := by
  have h := digest_at S q r hq hr
  have h2 := putN_at (S.list.getD q 0).toNat 4 r hr
  rw [List.getElem?_eq_getElem (by rw [putN_length]; exact hr), h2] at h
  rw [← Option.some.inj h, ofNat_toNat]
  show (((_ / 256 ^ (4 - 1 - r)) % 256 : Nat) : Int) = _
  rw [show 4 - 1 - r = 3 - r by omega]
  rfl
end Go.Proofs.Ytjllfaeamjadcaa
