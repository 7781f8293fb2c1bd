/- The walk of CodecOrders. -/
import Derived.Test.YtnfmhibmdihhnaaLawPuts
import Derived.Test.YtnfmhibmdihhnaaLists
import Derived.Deep.RegionHeld3
namespace Go.Proofs.Ytnfmhibmdihhnaa
open Go.RowKit

theorem bytesLess_cons (x y : UInt8) (l m : List UInt8) : Op.bytesLess (x :: l) (y :: m) = (decide (x < y) || (x == y && Op.bytesLess l m)) := by
  simp [Op.bytesLess]
theorem less_putN (k N M : Nat) : Op.bytesLess (putN N k) (putN M k) = decide (N % 256 ^ k < M % 256 ^ k) := by
  induction k with
  | zero => simp [putN, Op.bytesLess, Nat.mod_one]
  | succ k ih =>
    rw [putN_front, putN_front, bytesLess_cons, ih, Bool.eq_iff_iff]
    simp only [Bool.or_eq_true, Bool.and_eq_true, decide_eq_true_eq, beq_iff_eq]
    rw [UInt8.lt_iff_toNat_lt, ← UInt8.toNat_inj, ofNat_toNat, ofNat_toNat]
    have hN := Nat.mod_mul (a := 256 ^ k) (b := 256) (x := N)
    have hM := Nat.mod_mul (a := 256 ^ k) (b := 256) (x := M)
    rw [show 256 ^ (k + 1) = 256 ^ k * 256 from Nat.pow_succ .., hN, hM]
    have hp : 0 < 256 ^ k := Nat.pos_of_ne_zero (by simp)
    have h1 := Nat.mod_lt N hp
    have h2 := Nat.mod_lt M hp
    generalize N % 256 ^ k = a at *
    generalize M % 256 ^ k = b at *
    generalize N / 256 ^ k % 256 = c at *
    generalize M / 256 ^ k % 256 = d at *
    generalize 256 ^ k = P at *
    constructor
    · rintro (h | ⟨h, h'⟩)
      · have : P * (c + 1) ≤ P * d := Nat.mul_le_mul_left _ h
        rw [Nat.mul_add] at this; omega
      · subst h; omega
    · intro h
      rcases Nat.lt_trichotomy c d with hcd | hcd | hcd
      · exact .inl hcd
      · subst hcd; exact .inr ⟨rfl, by omega⟩
      · have : P * (d + 1) ≤ P * c := Nat.mul_le_mul_left _ hcd
        rw [Nat.mul_add] at this; omega
theorem less8 (N M : Nat) (hN : N < 18446744073709551616) (hM : M < 18446744073709551616) : Op.bytesLess (putN N 8) (putN M 8) = decide (N < M) := by
  rw [less_putN]
  have e : (256 : Nat) ^ 8 = 18446744073709551616 := by decide
  rw [e, Nat.mod_eq_of_lt hN, Nat.mod_eq_of_lt hM]
theorem same8 (N M : Nat) (hN : N < 18446744073709551616) (hM : M < 18446744073709551616) : (putN N 8 == putN M 8) = ((N : Int) == (M : Int)) := by
  rw [Bool.eq_iff_iff, beq_iff_eq, beq_iff_eq]
  constructor
  · intro h
    have h1 := congrArg getN h
    have e : (256 : Nat) ^ 8 = 18446744073709551616 := by decide
    rw [getN_putN, getN_putN, e, Nat.mod_eq_of_lt hN, Nat.mod_eq_of_lt hM] at h1
    rw [h1]
  · intro h
    rw [Int.ofNat_inj.1 h]
theorem putN_drop (N D : Nat) (h : D ≤ 8) : (putN N 8).drop (8 - D) = putN N D := by
  have gen : ∀ k j, j ≤ k → (putN N k).drop (k - j) = putN N j := by
    intro k
    induction k with
    | zero => intro j hj; obtain rfl : j = 0 := by omega
              rfl
    | succ k ih =>
      intro j hj
      rcases Nat.lt_or_ge j (k + 1) with h | h
      · rw [putN_front, show k + 1 - j = (k - j) + 1 by omega, List.drop_succ_cons, ih j (by omega)]
      · obtain rfl : j = k + 1 := by omega
        rw [Nat.sub_self, List.drop_zero]
  exact gen 8 D h

set_option maxHeartbeats 1600000 in
theorem law_codecOrders (x y z : Int) (w : World) (hx : (Lit.int .u64 x).wf = true) (hy : (Lit.int .u64 y).wf = true) (hz : (Lit.int .u8 z).wf = true) :
    Calls Try.prog 7 #[.int .u64 x, .int .u64 y, .int .u8 z] w fun e w' => e = .returned (.bool true) ∧ Below w.heap.size w w' := by
  have hxb : 0 ≤ x ∧ x ≤ 18446744073709551615 := by simpa [Lit.wf, IntKind.min, IntKind.max, IntKind.signed, IntKind.bits] using hx
  obtain ⟨N, rfl⟩ := Int.eq_ofNat_of_zero_le hxb.1
  have HN : Hid (N < 18446744073709551616) := by have := hxb.2; show _ < _; omega
  have hyb : 0 ≤ y ∧ y ≤ 18446744073709551615 := by simpa [Lit.wf, IntKind.min, IntKind.max, IntKind.signed, IntKind.bits] using hy
  obtain ⟨M, rfl⟩ := Int.eq_ofNat_of_zero_le hyb.1
  have HM : Hid (M < 18446744073709551616) := by have := hyb.2; show _ < _; omega
  clear hxb hx hyb hy
  have hzb : 0 ≤ z ∧ z ≤ 255 := by simpa [Lit.wf, IntKind.min, IntKind.max, IntKind.signed, IntKind.bits] using hz
  clear hz
  obtain ⟨D, hD⟩ : ∃ D : Nat, z % 8 = (D : Int) := ⟨(z % 8).toNat, by omega⟩
  have hD8 : D < 8 := by omega
  have H8 : Hid ((min (max (8 : Int) 0) 8).toNat = 8) := rfl
  have HDD : Hid ((min (max (D : Int) 0) 8).toNat = D) := by show _ = _; omega
  go_enter Try.func7, Try.ntmps7
  go_wp2_with fail
  refine (put_any N 8 _ HN.out).mono ?_
  rintro e w1 ⟨v1, rfl, hown1, hB1⟩
  rw [H8.out] at hown1
  have H1 := Lib.hid hown1
  clear hown1
  go_wp2_with fail
  refine (put_any M 8 _ HM.out).mono ?_
  rintro e w2 ⟨v2, rfl, hown2, hB2⟩
  rw [H8.out] at hown2
  obtain ⟨A1, c1, rfl, hbs1⟩ := Bs.of_own H1.out
  obtain ⟨A2, c2, rfl, hbs2⟩ := Bs.of_own hown2
  have HB2 := Lib.hid hbs2
  have HB1 := Lib.hid (hbs1.next hB2 (Nat.le_refl _))
  have hB02 := below_next hB1 hB2
  clear hown2 hbs1 hbs2 H1
  have e1 := HB1.out.text Try.underlying23 Try.underlying5 Try.underlying9
  have e2 := HB2.out.text Try.underlying23 Try.underlying5 Try.underlying9
  have hlt := less8 N M HN.out HM.out
  have heq := same8 N M HN.out HM.out
  go_wp2_with fail
  refine (put_any N D _ HN.out).mono ?_
  rintro e w3 ⟨v3, rfl, hown3, hB3⟩
  rw [HDD.out] at hown3
  obtain ⟨A3, c3, rfl, hbs3⟩ := Bs.of_own hown3
  have HB3 := Lib.hid hbs3
  have HB13 := Lib.hid (HB1.out.next hB3 (Nat.le_refl _))
  have hB03 := below_next hB02 hB3
  clear hown3 hbs3 e1 e2 hlt heq HB1 HB2
  obtain ⟨b1, o1, rfl, _, _⟩ := HB13.out.cell (i := 0) (by decide)
  obtain ⟨K, hK⟩ : ∃ K : Nat, K = 8 - D := ⟨_, rfl⟩
  have hw : IntKind.i64.wrap (8 - (D : Int)) = (K : Int) := by rw [IntKind.wrap_i64]; omega
  have hKD : 8 - K = D := by omega
  have hK8 : (K : Int) ≤ 8 := by omega
  have hK0 : (0 : Int) ≤ (K : Int) := by omega
  have HX := Lib.hid (HB13.out.cut (i := K) (k := 8) (by omega) (Nat.le_refl _))
  have HY : Hid (((putN N 8).take 8).drop K = putN N D) := by
    show _ = _
    rw [List.take_of_length_le (by rw [putN_length]; exact Nat.le_refl _), hK]
    exact putN_drop N D (by omega)
  rw [HY.out] at HX
  have HG := Lib.hid (getN_zeros 3 (putN N D))
  clear hK HY
  rw [hKD] at HX
  have hmk : ∀ u : World, (Instr.makeSlice 23 (.int .i64 3) (.int .i64 3)).run Try.prog u = .ok (.slice (some ⟨u.heap.size, 0, none⟩) 3 3) (u.alloc (.cells #[.int .u8 0, .int .u8 0, .int .u8 0] 5)) := fun _ => by kernel_rfl
  have HZ : Hid (Bs (w3.alloc (.cells #[.int .u8 0, .int .u8 0, .int .u8 0] 5)) (w3.heap.size + 1) (some ⟨w3.heap.size, 0, none⟩) 3 3 [0, 0, 0]) := by
    refine ⟨rfl, Nat.le_refl _, by simp [maxLen], (fun h => by cases h), fun _ => ⟨w3.heap.size, 0, rfl, by omega, fun j hj => ?_⟩⟩
    rw [World.cell?_alloc_at _ _ _ _ rfl]
    rcases (by simp at hj; omega : j = 0 ∨ j = 1 ∨ j = 2) with rfl | rfl | rfl <;> rfl
  have HA := Lib.hid ((HB3.out.alloc (Nat.le_refl _) (.cells #[.int .u8 0, .int .u8 0, .int .u8 0] 5)))
  have HJ := Lib.hid (Ls.two 23 (w := w3.alloc (.cells #[.int .u8 0, .int .u8 0, .int .u8 0] 5)) (HZ.out.more (by simp)) (HA.out.more (by simp)))
  have HAJ := Lib.hid (HA.out.alloc (by simp) (.cells #[.slice (some ⟨w3.heap.size, 0, none⟩) 3 3, .slice A3 D c3] 23))
  obtain ⟨G, hG⟩ : ∃ G : Nat, G = getN (putN N D) % 18446744073709551616 := ⟨_, rfl⟩
  have HV1 : Hid (getN ((putN N D).drop (D - 8)) = G) := by
    have h1 := getN_last (putN N D)
    rw [putN_length] at h1
    rw [hG, h1]; rfl
  have HV2 : Hid (getN (([0, 0, 0] ++ putN N D).drop (3 + D - 8)) = G) := by
    have h1 := getN_last ([0, 0, 0] ++ putN N D)
    rw [List.length_append, putN_length] at h1
    have h2 : getN ([0, 0, 0] ++ putN N D) = getN (putN N D) := HG.out
    rw [h2] at h1
    rw [hG, h1]; rfl
  have HFL : Hid ([[0, 0, 0], putN N D].flatten = [0, 0, 0] ++ putN N D) := by simp [Hid]
  have HFN : Hid (([0, 0, 0] ++ putN N D).length = 3 + D) := by show _ = _; rw [List.length_append, putN_length]; rfl
  have HPL : Hid ([[0, 0, 0], putN N D].flatten.length ≤ 4294967296) := by show _ ≤ _; rw [HFL.out, HFN.out]; omega
  generalize [0, 0, 0] ++ putN N D = Y at *
  have HPP : Hid ((putN N D == putN N D) = true) := by simp [Hid]
  clear hG HG
  rcases (by omega : ¬ c1 = K ∨ c1 = K) with h1 | h1
  all_goals
    first
      | (rw [if_neg h1] at HX
         have HX2 : Hid (Bs w3 w3.heap.size (some ⟨b1, o1 + K, none⟩) D (c1 - K) (putN N D)) := by
           have h := HX.out
           simp only [Option.map_some, Addr.add_lit] at h
           exact h)
      | (rw [if_pos h1] at HX
         subst h1
         have HX2 : Hid (Bs w3 w3.heap.size (some ⟨b1, o1, none⟩) D 0 (putN N D)) := by
           have h := HX.out
           rw [Nat.sub_self] at h
           exact h)
    clear HX
    go_wp2
    go_region_with (first
      | (go_at_call 11; refine (same_any _ _ _ _ _ _ _ _ _ _ _ (by exact HB3.out.drew) (by exact HX2.out.drew)).mono ?_; rintro e w' ⟨rfl, rfl⟩; rw [HPP.out])
      | (go_at_call 14; refine (get_any _ _ _ _ _ _ (by first | exact HB3.out.drew | exact HA.out.drew | exact HAJ.out.drew)).mono ?_; rintro e w' ⟨rfl, rfl⟩; rw [HV1.out])
      | (go_at_call 22; refine (join_any _ 2 2 [[0, 0, 0], putN N D] _ (by have := HJ.out.drew; simpa using this) HPL.out).mono ?_; rintro e w5 ⟨v5, rfl, hown5, hB5⟩; rw [HFL.out, HFN.out] at hown5; obtain ⟨A6, c6, rfl, hbs6⟩ := Bs.of_own hown5; have HB6 := Lib.hid hbs6; clear hown5 hbs6)
      | (go_at_call 14; refine (get_any _ _ _ _ _ _ (by exact HB6.out)).mono ?_; rintro e w' ⟨rfl, rfl⟩; rw [HV2.out])
      | (go_at_call 10; refine (known_any _).mono ?_; rintro e w7 ⟨rfl, hB7⟩))
    all_goals
      go_wp2
      go_ret
      refine ⟨rfl, hB03.trans ?_⟩
      have h5 := hB5.mono (B' := w.heap.size) (by have := hB03.size; simp; omega)
      have h7 := hB7.mono (B' := w.heap.size) (by have := h5.size; have := hB03.size; simp at *; omega)
      exact ((((Below.refl w.heap.size w3).alloc (by have := hB03.size; omega) _).alloc (by have := hB03.size; simp; omega) _).drew.trans h5).trans h7
end Go.Proofs.Ytnfmhibmdihhnaa
