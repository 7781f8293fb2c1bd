/- How a text is padded: plain lemmas. No program is named here. -/
import Derived.Test.YtjllfaeamjadcaaShaPure
namespace Go.Proofs.Ytjllfaeamjadcaa
open Go.RowKit

def padZ (n : Nat) : Nat := (119 - n % 64) % 64
theorem pad_at (n z : Nat) (h : z < padZ n) : (n + 1 + z) % 64 ≠ 56 := by unfold padZ at h; omega
theorem pad_end (n : Nat) : (n + 1 + padZ n) % 64 = 56 := by unfold padZ; omega
theorem pad_le (n : Nat) : padZ n ≤ 63 := by unfold padZ; omega

/-- how long a slice is -/
def slen : Value → Nat | .slice _ n _ => n | _ => 0
/-- m bytes: l, a bit, noughts -/
def padTo (l : List UInt8) (m : Nat) : List UInt8 := l ++ 128 :: List.replicate (m - (l.length + 1)) 0
theorem padTo_next (l : List UInt8) (m : Nat) (h : l.length + 1 ≤ m) : padTo l (m + 1) = padTo l m ++ [0] := by
  unfold padTo
  rw [show m + 1 - (l.length + 1) = (m - (l.length + 1)) + 1 by omega, List.replicate_succ']
  simp
theorem padTo_first (l : List UInt8) : padTo l (l.length + 1) = l ++ [128] := by simp [padTo]
theorem padTo_length (l : List UInt8) (m : Nat) (h : l.length + 1 ≤ m) : (padTo l m).length = m := by simp [padTo]; omega
theorem padTo_end (l : List UInt8) : padTo l (l.length + 1 + padZ l.length) ++ putN (8 * l.length) 8 = padded l := by
  unfold padTo padded ending padZ
  rw [show l.length + 1 + (119 - l.length % 64) % 64 - (l.length + 1) = (119 - l.length % 64) % 64 by omega]
  simp
theorem padded_length (l : List UInt8) : (padded l).length = l.length + 9 + padZ l.length := by
  rw [← padTo_end, List.length_append, padTo_length _ _ (by omega), putN_length]
  omega

end Go.Proofs.Ytjllfaeamjadcaa
