/- The contracts of package bits' small functions. -/
import Derived.Test.YtgkeckfiacdpkaaDoorBtO
import Derived.Test.YtgkeckfiacdpkaaDoorEl
import Derived.Laws.Bits64b
import Derived.Laws.BitsAllLaws
import Derived.Deep.QuietTactic
import Derived.Deep.RegionWith
import Derived.StillTailTactics
namespace Go.Proofs.YtgkeckfiacdpkaaDoor
open Go.RowKit

/-- the library's table, where it is laid -/
def TabD (w : World) : Prop := ∀ j, j < 64 → w.cell? ⟨0, j, none⟩ = some (.int .u8 ((Lib.deBruijn64tab.getD j 0 : Nat) : Int))
theorem TabD.below {w w' : World} {B : Nat} (h : TabD w) (hb : Below B w w') (h0 : 0 < B) : TabD w' := fun j hj => (hb.cell (p := ⟨0, j, none⟩) h0).trans (h j hj)
theorem below_val : ∀ k : Fin 65, bits .xor .u64 IntKind.u64.max (IntKind.u64.wrap (18446744073709551615 * 2 ^ k.val)) = ((2 ^ k.val - 1 : Nat) : Int) := by decide +kernel
theorem below_full : bits .xor .u64 IntKind.u64.max (IntKind.u64.wrap 340282366920938463444927863358058659840) = 18446744073709551615 := by decide +kernel
theorem below_none : bits .xor .u64 IntKind.u64.max 18446744073709551615 = 0 := by decide +kernel
theorem i64_and127 (x : Nat) (hx : x < 9223372036854775808) : bits .and .i64 (x : Int) 127 = ((x % 128 : Nat) : Int) := by
  show IntKind.i64.wrap (((BitVec.ofInt 64 (x : Int) &&& BitVec.ofInt 64 127).toNat : Nat) : Int) = _
  have e1 : BitVec.ofInt 64 (x : Int) = BitVec.ofNat 64 x := by simp
  have e2 : BitVec.ofInt 64 127 = BitVec.ofNat 64 127 := rfl
  rw [e1, e2, BitVec.toNat_and, BitVec.toNat_ofNat, BitVec.toNat_ofNat, Nat.mod_eq_of_lt (by omega), Nat.mod_eq_of_lt (by decide), show (127 : Nat) = 2 ^ 7 - 1 from rfl, Nat.and_two_pow_sub_one_eq_mod, IntKind.wrap_i64]
  have : x % 2 ^ 7 < 128 := Nat.mod_lt _ (by decide)
  omega
section
set_option maxHeartbeats 400000
theorem has_nat (A : Option Addr) (n c : Nat) (i : Nat) (w : World) (hi : i ≤ 9223372036854775807) :
    Calls Tryd.prog 29 #[.slice A n c, .int .i64 (i : Int)] w fun e w' => e = .returned (.bool (decide (i < 8 * n))) ∧ w' = w := by
  have h8 : decide ((i : Int) / 8 < (n : Int)) = decide (i < 8 * n) := decide_eq_decide.2 (by omega)
  go_enter Tryd.func29, Tryd.ntmps29
  go_wp2
  go_ret
  exact ⟨rfl, rfl⟩
theorem has_neg (A : Option Addr) (n c : Nat) (i : Int) (w : World) (hi : i < 0) :
    Calls Tryd.prog 29 #[.slice A n c, .int .i64 i] w fun e w' => e = .returned (.bool false) ∧ w' = w := by
  go_enter Tryd.func29, Tryd.ntmps29
  have h0 : ¬ (0 ≤ i) := by omega
  go_wp2
  go_ret
  exact ⟨rfl, rfl⟩
theorem bit_any (i : Nat) (w : World) (hi : i ≤ 9223372036854775807) :
    Calls Tryd.prog 30 #[.int .i64 (i : Int)] w fun e w' => e = .returned (.int .u8 ((2 ^ (i % 8) : Nat) : Int)) ∧ w' = w := by
  have h8 : (2 : Int) ^ (i % 8) % 256 = ((2 ^ (i % 8) : Nat) : Int) := by
    have h1 : i % 8 < 8 := Nat.mod_lt _ (by decide)
    have h2 : 2 ^ (i % 8) < 2 ^ 8 := Nat.pow_lt_pow_right (by decide) h1
    have h3 : ((2 ^ (i % 8) : Nat) : Int) = (2 : Int) ^ (i % 8) := by simp
    rw [← h3]
    generalize 2 ^ (i % 8) = c at *
    omega
  go_enter Tryd.func30, Tryd.ntmps30
  go_wp2
  go_ret
  exact ⟨ret_eq (congrArg (Value.int .u8) h8), rfl⟩
theorem below_mid (k : Nat) (w : World) (hk : k < 64) :
    Calls Tryd.prog 39 #[.int .i64 (k : Int)] w fun e w' => e = .returned (.int .u64 ((2 ^ k - 1 : Nat) : Int)) ∧ w' = w := by
  have hv := below_val ⟨k, by omega⟩
  simp only at hv
  go_enter Tryd.func39, Tryd.ntmps39
  go_wp2
  go_ret
  exact ⟨rfl, rfl⟩
theorem below_big (z : Int) (w : World) (hk : 64 ≤ z) :
    Calls Tryd.prog 39 #[.int .i64 z] w fun e w' => e = .returned (.int .u64 ((2 ^ 64 - 1 : Nat) : Int)) ∧ w' = w := by
  by_cases h64 : z = 64
  · subst h64
    go_enter Tryd.func39, Tryd.ntmps39
    go_wp2
    go_ret
    exact ⟨ret_eq (congrArg (Value.int .u64) below_full), rfl⟩
  · have h1 : 64 < z := by omega
    go_enter Tryd.func39, Tryd.ntmps39
    go_wp2
    go_ret
    exact ⟨ret_eq (congrArg (Value.int .u64) below_full), rfl⟩
theorem below_neg (z : Int) (w : World) (hk : z ≤ 0) :
    Calls Tryd.prog 39 #[.int .i64 z] w fun e w' => e = .returned (.int .u64 0) ∧ w' = w := by
  by_cases h64 : z = 0
  · subst h64
    exact below_mid 0 w (by decide)
  · have h1 : z < 0 := by omega
    go_enter Tryd.func39, Tryd.ntmps39
    go_wp2
    go_ret
    exact ⟨ret_eq (congrArg (Value.int .u64) below_none), rfl⟩
theorem ones_any (x : Nat) (hx : x < 18446744073709551616) (w : World) :
    Calls Tryd.prog 34 #[.int .u64 (x : Int)] w fun e w' => e = .returned (.int .i64 ((bitsL x).length : Int)) ∧ w' = w := by
  obtain ⟨hlast, b4, b5, b6, b2, b1⟩ := ones_count x hx
  have hw : ∀ y : Nat, y < 18446744073709551616 → IntKind.u64.wrap (y : Int) = (y : Int) := fun y hy => by rw [IntKind.wrap_u64]; omega
  obtain ⟨y, hy⟩ : ∃ y, y = oc1 x := ⟨_, rfl⟩
  have r1 : IntKind.u64.wrap (bits .and .u64 ((x : Int) / 2) 6148914691236517205 + bits .and .u64 (x : Int) 6148914691236517205) = (y : Int) := by
    rw [show ((x : Int) / 2) = ((x / 2 : Nat) : Int) by omega, show (6148914691236517205 : Int) = ((6148914691236517205 : Nat) : Int) from rfl, bits_and_u64_nat _ _ (by omega) (by decide), bits_and_u64_nat _ _ hx (by decide), hy, ← Int.natCast_add]
    exact hw _ b1
  rw [← hy] at b1 b2
  obtain ⟨z, hz⟩ : ∃ z, z = oc2 y := ⟨_, rfl⟩
  rw [← hz] at b2
  have r2 : IntKind.u64.wrap (bits .and .u64 ((y : Int) / 4) 3689348814741910323 + bits .and .u64 (y : Int) 3689348814741910323) = (z : Int) := by
    rw [show ((y : Int) / 4) = ((y / 4 : Nat) : Int) by omega, show (3689348814741910323 : Int) = ((3689348814741910323 : Nat) : Int) from rfl, bits_and_u64_nat _ _ (by omega) (by decide), bits_and_u64_nat _ _ b1 (by decide), hz, ← Int.natCast_add]
    exact hw _ (show oc2 y < _ by omega)
  obtain ⟨q, hq⟩ : ∃ q, q = oc x := ⟨_, rfl⟩
  have r3 : bits .and .u64 (IntKind.u64.wrap ((z : Int) / 16 + (z : Int))) 1085102592571150095 = (q : Int) := by
    rw [show ((z : Int) / 16 + (z : Int)) = ((z / 16 + z : Nat) : Int) by omega, hw _ (by omega), show (1085102592571150095 : Int) = ((1085102592571150095 : Nat) : Int) from rfl, bits_and_u64_nat _ _ (by omega) (by decide), hq]
    unfold oc oc3
    rw [← hy, ← hz]
  rw [← hq] at hlast b4 b5 b6
  obtain ⟨r, hr⟩ : ∃ r, r = q + q / 256 := ⟨_, rfl⟩
  have r4 : IntKind.u64.wrap ((q : Int) + (q : Int) / 256) = (r : Int) := by
    rw [show (q : Int) + (q : Int) / 256 = ((q + q / 256 : Nat) : Int) by omega, hw _ b4, hr]
  rw [← hr] at hlast b4 b5 b6
  obtain ⟨s, hs⟩ : ∃ s, s = r + r / 65536 := ⟨_, rfl⟩
  have r5 : IntKind.u64.wrap ((r : Int) + (r : Int) / 65536) = (s : Int) := by
    rw [show (r : Int) + (r : Int) / 65536 = ((r + r / 65536 : Nat) : Int) by omega, hw _ b5, hs]
  rw [← hs] at hlast b5 b6
  obtain ⟨t, ht⟩ : ∃ t, t = s + s / 4294967296 := ⟨_, rfl⟩
  have r6 : IntKind.u64.wrap ((s : Int) + (s : Int) / 4294967296) = (t : Int) := by
    rw [show (s : Int) + (s : Int) / 4294967296 = ((s + s / 4294967296 : Nat) : Int) by omega, hw _ (by omega), ht]
  rw [← ht] at hlast b6
  have r7 := i64_and127 t b6
  rw [hlast] at r7
  have b7 : t < 9223372036854775808 := b6
  clear hlast b2 b4 b5 b6 hy hz hq hr hs ht hw hx b1
  go_enter Tryd.func34, Tryd.ntmps34
  go_wp2
  go_ret
  exact ⟨rfl, rfl⟩
theorem wide_any (n : Int) (w : World) (h1 : -9223372036854775808 ≤ n) (h2 : n ≤ 9223372036854775807) :
    Calls Tryd.prog 22 #[.int .i64 n] w fun e w' => e = .returned (.int .i64 (((n.toNat + 7) / 8 : Nat) : Int)) ∧ w' = w := by
  go_enter Tryd.func22, Tryd.ntmps22
  go_wp2
  · go_ret
    exact ⟨by rw [show (n.toNat + 7) / 8 = 0 by omega]; rfl, rfl⟩
  · go_ret
    exact ⟨ret_eq (by show Value.int .i64 ((n - 1) / 8 + 1) = _; congr 1; omega), rfl⟩
theorem tz_any (x : Nat) (hx : x < 18446744073709551616) (h0 : x ≠ 0) (w : World) (hT : TabD w) :
    Calls Tryd.prog 36 #[.int .u64 (x : Int)] w fun e w' => e = .returned (.int .i64 (Lib.ctz 64 x : Int)) ∧ w' = w := by
  obtain ⟨hlow, hk⟩ := Lib.lowest_bit 64 x h0 hx
  obtain ⟨hi, htab⟩ := Lib.deBruijn64_at _ hk
  generalize Lib.ctz 64 x = k at *
  obtain ⟨idx, hidx⟩ : ∃ idx, idx = 2 ^ k * 285870213051353865 % 18446744073709551616 / 288230376151711744 := ⟨_, rfl⟩
  rw [← hidx] at hi htab
  have hcell := hT idx hi
  rw [htab] at hcell
  have hx0 : ((x : Int) == 0) = false := by simp; omega
  have hx1 : ¬ ((x : Int) = 0) := by omega
  have key : IntKind.u64.wrap (bits BinOp.and IntKind.u64 (x : Int) (IntKind.u64.wrap (-(x : Int))) * 285870213051353865) / 288230376151711744 = (idx : Int) := by
    have e1 : IntKind.u64.wrap (-(x : Int)) = ((18446744073709551616 - x : Nat) : Int) := by rw [IntKind.wrap_u64]; omega
    rw [e1, bits_and_u64_nat x _ hx (by omega), show (18446744073709551616 : Nat) = 2 ^ 64 from rfl, hlow, IntKind.wrap_u64, hidx]
    generalize 2 ^ k = p at *
    obtain ⟨m, hm⟩ : ∃ m, m = p * 285870213051353865 := ⟨_, rfl⟩
    rw [show (p : Int) * 285870213051353865 = (m : Int) by rw [hm, Int.natCast_mul]; rfl, ← hm]
    omega
  clear hlow htab hidx hT
  go_enter Tryd.func36, Tryd.ntmps36
  go_wp2_with (simp only [key])
  go_ret
  exact ⟨rfl, rfl⟩
theorem full_any (z : Int) (a t : Nat) (w : World) (ha : a < 18446744073709551616) (ht : t < 18446744073709551616) :
    Calls Tryd.prog 32 #[.agg #[.int .i64 z, .int .u64 a, .int .u64 t]] w fun e w' => e = .returned (.int .u64 ((a &&& t : Nat) : Int)) ∧ Below w.heap.size w w' := by
  have hv := bits_and_u64_nat a t ha ht
  go_enter Tryd.func32, Tryd.ntmps32
  go_wp2
  go_ret
  exact ⟨rfl, (Below.refl _ _).alloc (Nat.le_refl _) _⟩
theorem free_any (z : Int) (a t : Nat) (w : World) (ha : a < 18446744073709551616) (ht : t < 18446744073709551616) :
    Calls Tryd.prog 26 #[.agg #[.int .i64 z, .int .u64 a, .int .u64 t]] w fun e w' => e = .returned (.int .u64 ((a &&& (18446744073709551615 - t) : Nat) : Int)) ∧ Below w.heap.size w w' := by
  have hv := u64_andNot_nat a t ha ht
  go_enter Tryd.func26, Tryd.ntmps26
  go_wp2
  go_ret
  exact ⟨rfl, (Below.refl _ _).alloc (Nat.le_refl _) _⟩
end
end Go.Proofs.YtgkeckfiacdpkaaDoor
