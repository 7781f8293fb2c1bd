/- 
    -/
import Derived.Test.YtcehkafddlfleaaGreatDoorG13
import Derived.Test.YtcehkafddlfleaaGreatDoorG08
import Derived.Test.YtcehkafddlfleaaGreatDoorG16
namespace Go.Proofs.YtcehkafddlfleaaGreatDoor
open Go.RowKit
theorem huDig : Tryz.prog.underlying 173 = some (.array 32 5) := by kernel_rfl
end Go.Proofs.YtcehkafddlfleaaGreatDoor

namespace Go.Proofs.YtcehkafddlfleaaGreatDoor
open Go.RowKit
theorem slotN_bit (l : List UInt8) (i : Nat) : slotN l i = ((l.getD (i / 8) 0).toNat.testBit (i % 8)).toNat := by
 unfold slotN
 rw [Nat.testBit_eq_decide_div_mod_eq]
 rcases Nat.mod_two_eq_zero_or_one ((l.getD (i / 8) 0).toNat / 2 ^ (i % 8)) with h | h <;> rw [h] <;> rfl
theorem flip_getD (l : List UInt8) (k q : Nat) (hk : k / 8 < l.length) : ((flipL l k).getD q 0).toNat = if q = k / 8 then (l.getD q 0).toNat ^^^ 2 ^ (k % 8) else (l.getD q 0).toNat := by
 unfold flipL
 have hp : 2 ^ (k % 8) < 256 := by
  have h8 : k % 8 < 8 := Nat.mod_lt _ (by omega)
  calc 2 ^ (k % 8) < 2 ^ 8 := Nat.pow_lt_pow_right (by omega) h8
   _ = 256 := rfl
 by_cases hq : q = k / 8
 ·subst hq
  rw [if_pos rfl]
  simp only [List.getD_eq_getElem?_getD]
  rw [List.getElem?_set_self hk]
  simp only [Option.getD_some, UInt8.toNat_xor]
  congr 1
  show 2 ^ (k % 8) % 256 = _
  exact Nat.mod_eq_of_lt hp
 ·rw [if_neg hq]
  simp only [List.getD_eq_getElem?_getD]
  rw [List.getElem?_set_ne (fun e => hq e.symm)]
theorem flip_slot_eq {l : List UInt8} {k : Nat} (h : k / 8 < l.length) : slotN (flipL l k) k = 1 - slotN l k := by
 rw [slotN_bit, slotN_bit, flip_getD l k _ h, if_pos rfl, Nat.testBit_xor, Nat.testBit_two_pow_self]
 cases (l.getD (k / 8) 0).toNat.testBit (k % 8) <;> rfl
theorem flip_slot_ne {l : List UInt8} {k o : Nat} (h : k / 8 < l.length) (hne : o ≠ k) : slotN (flipL l k) o = slotN l o := by
 rw [slotN_bit, slotN_bit, flip_getD l k _ h]
 split
 ·rename_i hq
  rw [Nat.testBit_xor, Nat.testBit_two_pow_of_ne (by omega)]
  simp
 ·rfl
theorem flipR_nat (r : Rc) (k : Nat) (h : (k : Int) < r.blk) : flipR r (k : Int) = ⟨r.num, r.blk, flipL r.sl k, r.su⟩ := by
 unfold flipR; rw [if_pos ⟨by omega, h⟩, Int.toNat_natCast]
theorem rt_byte {r : Rc} (ht : Rt r) {k : Nat} (h : (k : Int) < r.blk) : k / 8 < r.sl.length := by
 have h1 := ht.sl
 have h2 := ht.lo
 omega
theorem rt_flip {r : Rc} (ht : Rt r) {k : Nat} (h : (k : Int) < r.blk) : Rt (flipR r (k : Int)) := by
 rw [flipR_nat r k h]
 refine ⟨ht.lo, ht.hi, by show (flipL r.sl k).length = _; rw [show (flipL r.sl k).length = r.sl.length by unfold flipL; simp]; exact ht.sl, ht.su, fun i h1 h2 => ?_⟩
 have h3 : r.blk.toNat ≤ i := h1
 have h4 : i < 8 * r.sl.length := by
  have : (flipL r.sl k).length = r.sl.length := by unfold flipL; simp
  have h5 : i < 8 * (flipL r.sl k).length := h2
  omega
 show slotN (flipL r.sl k) i = 0
 rw [flip_slot_ne (rt_byte ht h) (by omega)]
 exact ht.zero i h3 h4
end Go.Proofs.YtcehkafddlfleaaGreatDoor
