/- One bit of a byte another one; bytes that differ in one place, or in length. No program is named here. -/
import Derived.Test.YtgkeckfiacdpkaaDoorPure
import Derived.Test.YtgkeckfiacdpkaaDoorArr
namespace Go.Proofs.YtgkeckfiacdpkaaDoor
open Go.RowKit

/-- one bit of a byte another one -/
def flip8 (b : UInt8) (m : Nat) : UInt8 := b ^^^ UInt8.ofNat (2 ^ m)
theorem flip8_val (b : UInt8) (y : Int) : bits .xor .u8 (b.toNat : Int) (2 ^ y.toNat % 256) = ((flip8 b y.toNat).toNat : Int) := by
  have h1 : (2 : Int) ^ y.toNat % 256 = ((2 ^ y.toNat % 256 : Nat) : Int) := by simp
  rw [h1, u8_xor_nat _ _ (UInt8.toNat_lt _) (Nat.mod_lt _ (by decide))]
  rfl
theorem flip8_ne (b : UInt8) (m : Nat) (h : m < 8) : flip8 b m ≠ b := by
  intro e
  have e2 : flip8 b m ^^^ b = 0 := by rw [e]; simp
  have e3 : flip8 b m ^^^ b = UInt8.ofNat (2 ^ m) := by
    unfold flip8
    rw [UInt8.xor_comm b, UInt8.xor_assoc]; simp
  rw [e3] at e2
  have e4 := congrArg UInt8.toNat e2
  have e5 : (UInt8.ofNat (2 ^ m)).toNat = 2 ^ m % 256 := rfl
  rw [e5] at e4
  have h6 : m = 0 ∨ m = 1 ∨ m = 2 ∨ m = 3 ∨ m = 4 ∨ m = 5 ∨ m = 6 ∨ m = 7 := by omega
  rcases h6 with rfl | rfl | rfl | rfl | rfl | rfl | rfl | rfl <;> simp at e4
theorem cells8_set (l : List UInt8) (k : Nat) (b : UInt8) : (cells8 l).set k (.int .u8 (b.toNat : Int)) = cells8 (l.set k b) := by
  simp [cells8, List.map_set]
theorem set_ne (l : List UInt8) (k : Nat) (b : UInt8) (hk : k < l.length) (h : b ≠ l[k]) : (l == l.set k b) = false := by
  rw [beq_eq_false_iff_ne]
  intro e
  have e2 : l[k] = (l.set k b)[k]'(by simpa using hk) := by
    congr 1
  rw [List.getElem_set_self] at e2
  exact h e2.symm
theorem cut_ne (l : List UInt8) (k : Nat) (hk : k < l.length) : (l == l.take k) = false := by
  rw [beq_eq_false_iff_ne]
  intro e
  have := congrArg List.length e
  simp at this; omega
theorem ne_set (l : List UInt8) (k : Nat) (b : UInt8) (hk : k < l.length) (h : b ≠ l[k]) : (l.set k b == l) = false := by
  rw [← set_ne l k b hk h, Bool.eq_iff_iff, beq_iff_eq, beq_iff_eq]; exact eq_comm
theorem ne_cut (l : List UInt8) (k : Nat) (hk : k < l.length) : (l.take k == l) = false := by
  rw [← cut_ne l k hk, Bool.eq_iff_iff, beq_iff_eq, beq_iff_eq]; exact eq_comm
end Go.Proofs.YtgkeckfiacdpkaaDoor
