/- The walk of CodecPuts. -/
import Derived.Test.YtnfmhibmdihhnaaKnown
namespace Go.Proofs.Ytnfmhibmdihhnaa
open Go.RowKit

theorem get_same (xs : List UInt8) : ((getN (xs.drop (xs.length - 8)) : Nat) : Int) = ((getN xs % 18446744073709551616 : Nat) : Int) := by rw [getN_last]
theorem below_next {w0 w1 w2 : World} (h1 : Below w0.heap.size w0 w1) (h2 : Below w1.heap.size w1 w2) : Below w0.heap.size w0 w2 := h1.trans (h2.mono h1.size)
theorem Bs.next {w0 w1 : World} {B : Nat} {A : Option Addr} {n c : Nat} {l : List UInt8} (h : Bs w0 B A n c l) (hb : Below w0.heap.size w0 w1) (hB : B ≤ w0.heap.size) : Bs w1 w1.heap.size A n c l :=
  (h.below (hb.mono hB)).more (Nat.le_trans hB hb.size)

set_option maxHeartbeats 1000000 in
theorem law_codecPuts (x y : Int) (A : Option Addr) (n c : Nat) (l : List UInt8) (B : Option Addr) (m d : Nat) (l2 : List UInt8) (w : World) (hx : (Lit.int .u64 x).wf = true) (_hy : (Lit.int .i64 y).wf = true)
    (ha' : Bs w w.heap.size A n c l ∧ c ≤ 140737488351232) (hb' : Bs w w.heap.size B m d l2 ∧ d ≤ 140737488351232) :
    Calls Try.prog 3 #[.int .u64 x, .int .i64 y, .slice A n c, .slice B m d] w fun e w' => e = .returned (.bool true) ∧ Below w.heap.size w w' := by
  have ha := ha'.1
  have hb := hb'.1
  have hn := ha.cap
  have hm := hb.cap
  have hc := ha'.2
  have hd := hb'.2
  clear ha' hb'
  have HL := Lib.hid ha.len
  have hxb : 0 ≤ x ∧ x ≤ 18446744073709551615 := by simpa [Lit.wf, IntKind.min, IntKind.max, IntKind.signed, IntKind.bits] using hx
  obtain ⟨N, rfl⟩ := Int.eq_ofNat_of_zero_le hxb.1
  have HN : Hid (N < 18446744073709551616) := by have := hxb.2; show _ < _; omega
  clear hxb hx
  by_cases hbig : (500 : Int) < n + m
  · go_enter Try.func3, Try.ntmps3
    go_wp2_with fail
    refine (known_any _).mono ?_
    rintro e w1 ⟨rfl, hB⟩
    go_wp2
    go_ret
    exact ⟨rfl, hB⟩
  · go_enter Try.func3, Try.ntmps3
    go_wp2_with fail
    refine (put_any N y _ HN.out).mono ?_
    rintro e w1 ⟨v1, rfl, hown1, hB1⟩
    generalize hP : putN N (min (max y 0) 8).toNat = P at *
    have HP := Lib.hid hP
    clear hP
    obtain ⟨A1, c1, rfl, hbs1⟩ := Bs.of_own hown1
    have HB1 := Lib.hid hbs1
    clear hown1 hbs1
    go_wp2_with fail
    refine (refput_any N y _ HN.out).mono ?_
    rintro e w2 ⟨v2, rfl, hown2, hB2⟩
    rw [HP.out] at hown2
    obtain ⟨A2, c2, rfl, hbs2⟩ := Bs.of_own hown2
    have HB2 := Lib.hid hbs2
    have HB12 := Lib.hid (HB1.out.next hB2 (Nat.le_refl _))
    have hB02 := below_next hB1 hB2
    have HA2 := Lib.hid (ha.next hB02 (Nat.le_refl _))
    have HD2 := Lib.hid (hb.next hB02 (Nat.le_refl _))
    clear hown2 hbs2
    go_wp2_with fail
    refine (same_any _ _ _ _ _ _ _ _ _ _ _ HB12.out HB2.out).mono ?_
    rintro e w2' ⟨rfl, rfl⟩
    rw [show (P == P) = true by simp]
    go_wp2_with fail
    refine (get_any _ _ _ _ _ _ HA2.out).mono ?_
    rintro e w2' ⟨rfl, rfl⟩
    have e1 : ((getN (l.drop (n - 8)) : Nat) : Int) = ((getN l % 18446744073709551616 : Nat) : Int) := by have := get_same l; rwa [HL.out] at this
    rw [e1]
    clear e1
    generalize hG : getN l % 18446744073709551616 = G
    have HG := Lib.hid hG
    clear hG
    go_wp2_with fail
    refine (refget_any _ _ _ _ _ _ HA2.out).mono ?_
    rintro e w2' ⟨rfl, rfl⟩
    rw [HG.out]
    have ht : -300 < y.tmod 300 ∧ y.tmod 300 < 300 := ⟨by have := Int.lt_tmod_of_pos y (b := 300) (by decide); omega, Int.tmod_lt_of_pos y (by decide)⟩
    generalize y.tmod 300 = k at *
    go_wp2_with fail
    refine (pad_any _ _ _ k _ _ HA2.out (by omega) (by omega)).mono ?_
    rintro e w3 ⟨v3, rfl, hown3, hB3⟩
    generalize hQ : padL l k = Q at *
    have HQ := Lib.hid hQ
    clear hQ
    obtain ⟨A3, c3, rfl, hbs3⟩ := Bs.of_own hown3
    have HB3 := Lib.hid hbs3
    have HA3 := Lib.hid (HA2.out.next hB3 (Nat.le_refl _))
    clear hown3 hbs3
    go_wp2_with fail
    refine (refpad_any _ _ _ k _ _ HA3.out (by omega) (by omega)).mono ?_
    rintro e w4 ⟨v4, rfl, hown4, hB4⟩
    rw [HQ.out] at hown4
    obtain ⟨A4, c4, rfl, hbs4⟩ := Bs.of_own hown4
    have HB4 := Lib.hid hbs4
    have HB34 := Lib.hid (HB3.out.next hB4 (Nat.le_refl _))
    have hB04 := below_next (below_next hB02 hB3) hB4
    have HA4 := Lib.hid (ha.next hB04 (Nat.le_refl _))
    have HD4 := Lib.hid (hb.next hB04 (Nat.le_refl _))
    clear hown4 hbs4
    go_wp2_with fail
    refine (same_any _ _ _ _ _ _ _ _ _ _ _ HB34.out HB4.out).mono ?_
    rintro e w4' ⟨rfl, rfl⟩
    rw [show (Q == Q) = true by simp]
    go_wp2_with fail
    refine (equal_any _ _ _ _ _ _ _ _ _ HA4.out HD4.out).mono ?_
    rintro e w5 ⟨rfl, hB5⟩
    have hB05 := below_next hB04 hB5
    have HA5 := Lib.hid (ha.next hB05 (Nat.le_refl _))
    have HD5 := Lib.hid (hb.next hB05 (Nat.le_refl _))
    generalize hE : (l == l2) = E
    have HE := Lib.hid hE
    clear hE
    go_wp2_with fail
    refine (same_any _ _ _ _ _ _ _ _ _ _ _ HA5.out HD5.out).mono ?_
    rintro e w5' ⟨rfl, rfl⟩
    rw [HE.out]
    cases E
    all_goals
      go_wp2_with fail
      refine (equal_any _ _ _ _ _ _ _ _ _ HA5.out HA5.out).mono ?_
      rintro e w6 ⟨rfl, hB6⟩
      rw [show (l == l) = true by simp]
      have hB06 := below_next hB05 hB6
      go_wp2_with fail
      refine (known_any _).mono ?_
      rintro e w7 ⟨rfl, hB7⟩
      go_wp2
      go_ret
      exact ⟨rfl, below_next hB06 hB7⟩
end Go.Proofs.Ytnfmhibmdihhnaa
