/- AES-128 as the document has it, over bytes. No program is named here. -/
import Derived.Test.YtleplilcpcgacaaInts
namespace Go.Proofs.Ytleplilcpcgacaa

/-- twice, in the field -/
def xt (a : UInt8) : UInt8 := if 128 ≤ a.toNat then UInt8.ofNat (2 * a.toNat - 256) ^^^ 27 else UInt8.ofNat (2 * a.toNat)
def half (b : UInt8) : UInt8 := UInt8.ofNat (b.toNat / 2)
structure MulSt where
  n : UInt8
  a : UInt8
  b : UInt8
def mulStep (s : MulSt) : MulSt := ⟨if s.b.toNat % 2 = 1 then s.n ^^^ s.a else s.n, xt s.a, half s.b⟩
def mulIt (x y : UInt8) : Nat → MulSt
  | 0 => ⟨0, x, y⟩
  | k + 1 => mulStep (mulIt x y k)
/-- the product -/
def mulU (x y : UInt8) : UInt8 := (mulIt x y 8).n
theorem half_val (b : UInt8) : (b.toNat : Int) / 2 = ((half b).toNat : Int) := by
  have h : (half b).toNat = b.toNat / 2 := by
    unfold half
    rw [UInt8.toNat_ofNat']
    have := b.toNat_lt
    omega
  rw [h]; omega
theorem xt_low (a : UInt8) (h : a.toNat < 128) : 2 * (a.toNat : Int) = ((xt a).toNat : Int) := by
  unfold xt
  rw [if_neg (by omega), UInt8.toNat_ofNat']
  omega
theorem xt_high_nat : ∀ n < 256, 128 ≤ n → (2 * n) ^^^ 283 = (xt (UInt8.ofNat n)).toNat := by decide +kernel
theorem xt_high (a : UInt8) (h : 128 ≤ a.toNat) : (2 * a.toNat) ^^^ 283 = (xt a).toNat := by
  have := xt_high_nat a.toNat a.toNat_lt h
  rwa [show UInt8.ofNat a.toNat = a by simp] at this
end Go.Proofs.Ytleplilcpcgacaa
