/- The contract of codec's Equal. -/
import Derived.Test.YtaedlaeflliibaaEl
import Derived.Test.YtaedlaeflliibaaPure
import Derived.BigQuiet
import Derived.Deep.QuietTactic
import Derived.Deep.RegionWith
import Derived.StillTailTactics
namespace Go.Proofs.Ytaedlaeflliibaa
open Go.RowKit

/-- d is an int, and 0 just if p -/
def Diff (d : Int) (p : Prop) : Prop := -9223372036854775808 ≤ d ∧ d < 9223372036854775808 ∧ (d = 0 ↔ p)
theorem wrap_i64_zero (n : Nat) (h : n < 18446744073709551616) : IntKind.i64.wrap (n : Int) = 0 ↔ n = 0 := by
  rw [IntKind.wrap_i64]; omega
theorem wrap_i64_range (z : Int) : -9223372036854775808 ≤ IntKind.i64.wrap z ∧ IntKind.i64.wrap z < 9223372036854775808 := by
  rw [IntKind.wrap_i64]; omega
theorem ofInt_zero (d : Int) (h1 : -9223372036854775808 ≤ d) (h2 : d < 9223372036854775808) : BitVec.ofInt 64 d = 0 ↔ d = 0 := by
  constructor
  · intro h
    have := congrArg BitVec.toInt h
    rw [BitVec.toInt_ofInt] at this
    simp [Int.bmod] at this
    omega
  · rintro rfl; rfl
theorem diff_len (n m : Nat) (hn : n ≤ 9223372036854775807) (hm : m ≤ 9223372036854775807) : Diff (bits .xor .i64 n m) (n = m) := by
  have hr := wrap_i64_range ((BitVec.ofInt 64 (n : Int) ^^^ BitVec.ofInt 64 (m : Int)).toNat : Int)
  refine ⟨hr.1, hr.2, ?_⟩
  show IntKind.i64.wrap ((BitVec.ofInt 64 (n : Int) ^^^ BitVec.ofInt 64 (m : Int)).toNat : Int) = 0 ↔ _
  rw [wrap_i64_zero _ (BitVec.isLt _)]
  constructor
  · intro h
    have h1 : BitVec.ofInt 64 (n : Int) ^^^ BitVec.ofInt 64 (m : Int) = 0#64 := BitVec.eq_of_toNat_eq (by simpa using h)
    have h2 := BitVec.xor_eq_zero_iff.1 h1
    have h3 := congrArg BitVec.toNat h2
    simp only [BitVec.ofInt_natCast, BitVec.toNat_ofNat] at h3
    omega
  · rintro rfl; simp
theorem diff_or (d : Int) (x y : UInt8) (p : Prop) (h : Diff d p) : Diff (bits .or .i64 d (wrap64 (bits .xor .u8 (x.toNat : Int) (y.toNat : Int)))) (p ∧ x = y) := by
  rw [show wrap64 (bits .xor .u8 (x.toNat : Int) (y.toNat : Int)) = IntKind.i64.wrap (bits .xor .u8 (x.toNat : Int) (y.toNat : Int)) from by simp only [wrap64, IntKind.wrap_i64]]
  obtain ⟨h1, h2, h3⟩ := h
  have ex : IntKind.i64.wrap (bits .xor .u8 (x.toNat : Int) (y.toNat : Int)) = ((x.toNat ^^^ y.toNat : Nat) : Int) := by
    rw [u8_xor_nat _ _ (UInt8.toNat_lt _) (UInt8.toNat_lt _)]
    have : x.toNat ^^^ y.toNat < 2 ^ 8 := Nat.xor_lt_two_pow (UInt8.toNat_lt _) (UInt8.toNat_lt _)
    rw [IntKind.wrap_i64]; omega
  have hlt : x.toNat ^^^ y.toNat < 2 ^ 8 := Nat.xor_lt_two_pow (UInt8.toNat_lt _) (UInt8.toNat_lt _)
  rw [ex]
  generalize hq : x.toNat ^^^ y.toNat = q at *
  have hq0 : q = 0 ↔ x = y := by
    rw [← hq]
    constructor
    · intro h
      exact UInt8.xor_eq_zero_iff.1 (UInt8.toNat_inj.1 (by rw [UInt8.toNat_xor, h]; rfl))
    · rintro rfl; simp
  have hr := wrap_i64_range ((BitVec.ofInt 64 d ||| BitVec.ofInt 64 (q : Int)).toNat : Int)
  refine ⟨hr.1, hr.2, ?_⟩
  show IntKind.i64.wrap ((BitVec.ofInt 64 d ||| BitVec.ofInt 64 (q : Int)).toNat : Int) = 0 ↔ _
  rw [wrap_i64_zero _ (BitVec.isLt _), ← h3, ← hq0, ← ofInt_zero d h1 h2]
  have hqq : BitVec.ofInt 64 (q : Int) = 0 ↔ q = 0 := by rw [ofInt_zero _ (by omega) (by omega)]; omega
  rw [← hqq]
  constructor
  · intro h
    have h1 : BitVec.ofInt 64 d ||| BitVec.ofInt 64 (q : Int) = 0#64 := BitVec.eq_of_toNat_eq (by simpa using h)
    exact BitVec.or_eq_zero_iff.1 h1
  · rintro ⟨h1, h2⟩; rw [h1, h2]; rfl

set_option maxHeartbeats 400000 in
theorem equal1_any (x y : UInt8) (g : Nat) (d : Int) (w : World) (hc : w.cell? ⟨g, 0, none⟩ = some (.int .i64 d)) (hf : w.frozen? ⟨g, 0, none⟩ = false) :
    Calls Try.prog 50 #[.int .u8 x.toNat, .int .u8 y.toNat, .pointer (some ⟨g, 0, none⟩)] w fun e w' =>
      e = .returned (.tuple #[]) ∧ w.setCell ⟨g, 0, none⟩ (.int .i64 (bits .or .i64 d (wrap64 (bits .xor .u8 (x.toNat : Int) (y.toNat : Int))))) = w' := by
  go_enter Try.func50, Try.ntmps50
  go_wp2
  go_end0
  exact ⟨rfl, rfl⟩

theorem take_eq_step (xs ys : List UInt8) (k : Nat) (hx : k < xs.length) (hy : k < ys.length) : (xs.take k = ys.take k ∧ xs[k] = ys[k]) ↔ xs.take (k + 1) = ys.take (k + 1) := by
  rw [List.take_succ_eq_append_getElem hx, List.take_succ_eq_append_getElem hy]
  constructor
  · rintro ⟨h1, h2⟩; rw [h1, h2]
  · intro h
    have := List.append_inj' h rfl
    exact ⟨this.1, by simpa using this.2⟩
theorem Diff.iff {d : Int} {p q : Prop} (h : Diff d p) (hpq : p ↔ q) : Diff d q := ⟨h.1, h.2.1, h.2.2.trans hpq⟩
theorem Diff.bool {d : Int} {xs ys : List UInt8} (h : Diff d (xs = ys)) : (d == 0) = (xs == ys) := by
  rw [Bool.eq_iff_iff, beq_iff_eq, beq_iff_eq]; exact h.2.2

theorem Diff.step {d : Int} {xs ys : List UInt8} {p : Prop} {k : Nat} (h : Diff d (p ∧ xs.take k = ys.take k)) (hx : k < xs.length) (hy : k < ys.length) :
    Diff (bits .or .i64 d (wrap64 (bits .xor .u8 (xs[k].toNat : Int) (ys[k].toNat : Int)))) (p ∧ xs.take (k + 1) = ys.take (k + 1)) :=
  (diff_or d _ _ _ h).iff (and_assoc.trans (and_congr_right fun _ => take_eq_step xs ys k hx hy))
theorem Diff.done {d : Int} {xs ys : List UInt8} {n m k : Nat} (h : Diff d (n = m ∧ xs.take k = ys.take k)) (hx : xs.length = n) (hy : ys.length = m) (hk : k = min n m) : (d == 0) = (xs == ys) :=
  Diff.bool (h.iff (by
    constructor
    · rintro ⟨h1, h2⟩
      rwa [List.take_of_length_le (by omega), List.take_of_length_le (by omega)] at h2
    · rintro rfl
      exact ⟨by omega, rfl⟩))

set_option maxRecDepth 100000 in
set_option maxHeartbeats 800000 in
theorem equal_any (A B : Option Addr) (n c m d : Nat) (xs ys : List UInt8) (w : World) (ha : Bs w w.heap.size A n c xs) (hb : Bs w w.heap.size B m d ys) :
    Calls Try.prog 35 #[.slice A n c, .slice B m d] w fun e w' => e = .returned (.bool (xs == ys)) ∧ Below w.heap.size w w' := by
  have hn := ha.le
  have hm := hb.le
  have HD := diff_len n m hn hm
  obtain ⟨K, hK⟩ : ∃ K, K = min n m := ⟨_, rfl⟩
  have hKn : K ≤ n := by omega
  have hKm : K ≤ m := by omega
  have HK := Lib.hid hK
  have HX := Lib.hid ha.len
  have HY := Lib.hid hb.len
  clear hK
  have hb1 : Below w.heap.size w (w.alloc (.cells #[.int .i64 (bits .xor .i64 n m)] 3)) := (Below.refl _ _).alloc (Nat.le_refl _) _
  have hc1 : (w.alloc (.cells #[.int .i64 (bits .xor .i64 n m)] 3)).cell? ⟨w.heap.size, 0, none⟩ = some (.int .i64 (bits .xor .i64 n m)) := by
    rw [World.cell?_alloc_at _ _ _ _ rfl]; rfl
  have hf1 : (w.alloc (.cells #[.int .i64 (bits .xor .i64 n m)] 3)).frozen? ⟨w.heap.size, 0, none⟩ = false := World.frozen?_alloc_at _ _ _ _ rfl
  have HC1 := Lib.hid hc1
  have HF1 := Lib.hid hf1
  clear hc1 hf1
  go_enter Try.func35, Try.ntmps35
  have h3 : n ≤ m ∨ m < n := by omega
  rcases h3 with h | h
  all_goals
    go_wp2
    go_loopw [19] (fun i wr => ∃ (k : Nat) (dk : Int), k ≤ K ∧ i = .int .i64 k ∧ Hid (wr.cell? ⟨w.heap.size, 0, none⟩ = some (.int .i64 dk)) ∧ Hid (wr.frozen? ⟨w.heap.size, 0, none⟩ = false) ∧ Diff dk (n = m ∧ xs.take k = ys.take k) ∧ Below w.heap.size w wr) (fun i _ => K - (intOf i).toNat)
    case atStart => exact ⟨0, _, Nat.zero_le _, rfl, HC1, HF1, HD.iff (by simp), hb1⟩
    case round =>
      obtain ⟨k, dk, hk, rfl, HC, HF, hD, hB⟩ := hrel
      by_cases hlt : k < K
      · obtain ⟨b1, o1, rfl, hl1, hc1⟩ := (ha.below hB).cell (i := k) (by omega)
        obtain ⟨b2, o2, rfl, hl2, hc2⟩ := (hb.below hB).cell (i := k) (by omega)
        go_wp2
        have HD2 := Lib.hid (hD.step (by rw [HX.out]; omega) (by rw [HY.out]; omega))
        have hki : (k : Int) < (n : Int) := by omega
        have hkm : (k : Int) < (m : Int) := by omega
        go_still_tail 9, (by kernel_rfl)
        change wpList _ _ _ _ _ wr.drew
        go_wp2_with (go_at_call 50; refine (equal1_any _ _ w.heap.size dk _ (by exact HC.out) (by exact HF.out)).mono ?_; rintro e w' ⟨rfl, rfl⟩)
        go_roundw
        case rel =>
          refine ⟨k + 1, _, by omega, by go_num, ?_, ?_, HD2.out, hB.drew.setCell (Nat.le_refl _) _⟩
          · show World.cell? _ _ = _
            exact World.cell?_setCell_same _ _ _ HC.out
          · show World.frozen? (World.setCell _ _ _) _ = _
            rw [World.frozen?_setCell]; exact HF.out
        case measure => simp [intOf]; omega
      · have HB := Lib.hid (hD.done HX.out HY.out (by have := HK.out; omega))
        have hc := HC.out
        clear hD
        first
          | (have hge : n ≤ K := by have := HK.out; omega)
          | (have hge : m ≤ K := by have := HK.out; omega)
        go_wp2
        go_ret
        exact ⟨by rw [← HB.out]; rfl, hB⟩
end Go.Proofs.Ytaedlaeflliibaa
