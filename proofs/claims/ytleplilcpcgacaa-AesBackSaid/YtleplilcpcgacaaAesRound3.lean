/- The contracts of package aes's shift and mix. -/
import Derived.Test.YtleplilcpcgacaaAesRound
import Derived.Test.YtleplilcpcgacaaIndex
namespace Go.Proofs.Ytleplilcpcgacaa
open Go.RowKit

theorem sel_val (p q r s : UInt32) : bits .or .u32 (bits .or .u32 (bits .or .u32 (bits .and .u32 (p.toNat : Int) 4278190080) (bits .and .u32 (q.toNat : Int) 16711680)) (bits .and .u32 (r.toNat : Int) 65280)) (bits .and .u32 (s.toNat : Int) 255) = ((selW p q r s).toNat : Int) := by
  have e1 : (4278190080 : Int) = ((4278190080 : UInt32).toNat : Int) := rfl
  have e2 : (16711680 : Int) = ((16711680 : UInt32).toNat : Int) := rfl
  have e3 : (65280 : Int) = ((65280 : UInt32).toNat : Int) := rfl
  have e4 : (255 : Int) = ((255 : UInt32).toNat : Int) := rfl
  rw [e1, e2, e3, e4, u32_and', u32_and', u32_and', u32_and', u32_or', u32_or', u32_or']
  rfl
set_option maxRecDepth 100000 in
set_option maxHeartbeats 4000000 in
theorem shift_any (l : List UInt8) (gx : Nat) (t : TypeId) (bx : List UInt8) (w : World) (hb : Blk w gx t (cells8 bx)) (hl : bx.length = 256) :
    Calls Try.prog 42 #[.agg (cells32 (wordsL l)).toArray, .pointer (some ⟨gx, 0, none⟩)] w fun e w' => e = .returned (.agg (cells32 (wordsL (shiftL l bx 16))).toArray) ∧ Below w.heap.size w w' := by
  have HX : Kp _ := ⟨hb⟩
  have HLx : Kp (bx.length = 256) := ⟨hl⟩
  have hgx := hb.lt
  clear hb hl
  go_enter Try.func42, Try.ntmps42
  go_wp2_with (with_reducible refine wpList_box (o := ⟨some 2, _, _, _, _, _⟩) rfl (.tmp 0) rfl rfl ?_)
  intro w1 hk1 hb1 hs1
  have HK1 : Kp _ := ⟨hk1⟩
  clear hk1 hs1
  go_wp2_with (with_reducible refine wpList_alloc (o := ⟨some 4, _, _, _, _, _⟩) tyState rfl rfl ?_)
  intro w2 hk2 hb2 hs2
  have HR2 : Kp _ := ⟨hk2⟩
  have HK12 : Kp _ := ⟨HK1.out.below hb2 HK1.out.lt⟩
  have hB2 : Below w.heap.size w w2 := hb1.trans (hb2.mono hb1.size)
  have n1 : w.heap.size < w1.heap.size := HK1.out.lt
  clear hk2 hs2 hb1 hb2 HK1
  go_wp2_with (with_reducible refine wpList_alloc (o := ⟨some 5, _, _, _, _, _⟩) tyState rfl rfl ?_)
  intro w3 hk3 hb3 hs3
  have HR3 : Kp _ := ⟨HR2.out.below hb3 HR2.out.lt⟩
  have HK13 : Kp _ := ⟨HK12.out.below hb3 HK12.out.lt⟩
  have HK3 : Kp (Blk w3 w2.heap.size 61 (cells32 (partW (fun j => subN bx (selW (wd l j) (wd l ((j + 1) % 4)) (wd l ((j + 2) % 4)) (wd l ((j + 3) % 4)))) (fun _ => 0) 4 0))) := ⟨by rw [partW_none]; exact hk3⟩
  have n2 : w1.heap.size < w2.heap.size := HR2.out.lt
  have hB3 : Below w.heap.size w w3 := hB2.trans (hb3.mono hB2.size)
  have HX3 : Kp _ := ⟨HX.out.below hB3 hgx⟩
  obtain ⟨g1, hg1⟩ : ∃ g, g = w1.heap.size := ⟨_, rfl⟩
  obtain ⟨g2, hg2⟩ : ∃ g, g = w2.heap.size := ⟨_, rfl⟩
  rw [← hg1] at HR3 n1 n2 ⊢
  rw [← hg2] at HK3 n2 ⊢
  clear hk3 hs3 hb3 HR2 HK12 hB2 hg1 hg2 HX
  go_wp2
  go_loopw [10] (fun vi wr => ∃ i : Nat, i ≤ 4 ∧ vi = .int .i64 i ∧ Kp (Blk wr g2 61 (cells32 (partW (fun j => subN bx (selW (wd l j) (wd l ((j + 1) % 4)) (wd l ((j + 2) % 4)) (wd l ((j + 3) % 4)))) (fun _ => 0) 4 i))) ∧ Only g2 w3 wr) (fun vi _ => 4 - (intOf vi).toNat)
  case atStart => exact ⟨0, by omega, rfl, HK3, Only.refl _ _⟩
  case round =>
    clear HK3
    obtain ⟨i, hi, rfl, HB, ho⟩ := hrel
    by_cases hlt : i < 4
    · have HKr : Kp _ := ⟨HK13.out.only ho (by omega)⟩
      have c0 := (HKr.out.cell? i).trans (wordsL_at l i hlt)
      have c1 := (HKr.out.cell? ((i + 1) % 4)).trans (wordsL_at l ((i + 1) % 4) (by omega))
      have c2 := (HKr.out.cell? ((i + 2) % 4)).trans (wordsL_at l ((i + 2) % 4) (by omega))
      have c3 := (HKr.out.cell? ((i + 3) % 4)).trans (wordsL_at l ((i + 3) % 4) (by omega))
      have HXr : Kp _ := ⟨HX3.out.only ho (by omega)⟩
      have hco := (HB.out.cell? i).trans (partW_at (fun j => subN bx (selW (wd l j) (wd l ((j + 1) % 4)) (wd l ((j + 2) % 4)) (wd l ((j + 3) % 4)))) (fun _ => 0) 4 i hlt)
      have hfo := HB.out.frozen i
      have HSet : Kp ((cells32 (partW (fun j => subN bx (selW (wd l j) (wd l ((j + 1) % 4)) (wd l ((j + 2) % 4)) (wd l ((j + 3) % 4)))) (fun _ => 0) 4 i)).set i (.int .u32 ((subN bx (selW (wd l i) (wd l ((i + 1) % 4)) (wd l ((i + 2) % 4)) (wd l ((i + 3) % 4)))).toNat : Int)) = _) := ⟨partW_set _ (fun _ => 0) 4 i⟩
      have HV : Kp _ := ⟨sel_val (wd l i) (wd l ((i + 1) % 4)) (wd l ((i + 2) % 4)) (wd l ((i + 3) % 4))⟩
      obtain ⟨i1, h1⟩ : ∃ q, q = (i + 1) % 4 := ⟨_, rfl⟩
      obtain ⟨i2, h2⟩ : ∃ q, q = (i + 2) % 4 := ⟨_, rfl⟩
      obtain ⟨i3, h3⟩ : ∃ q, q = (i + 3) % 4 := ⟨_, rfl⟩
      rw [← h1] at c1
      rw [← h2] at c2
      rw [← h3] at c3
      have HV2 : Kp (bits .or .u32 (bits .or .u32 (bits .or .u32 (bits .and .u32 ((wd l i).toNat : Int) 4278190080) (bits .and .u32 ((wd l i1).toNat : Int) 16711680)) (bits .and .u32 ((wd l i2).toNat : Int) 65280)) (bits .and .u32 ((wd l i3).toNat : Int) 255) = ((selW (wd l i) (wd l ((i + 1) % 4)) (wd l ((i + 2) % 4)) (wd l ((i + 3) % 4))).toNat : Int)) := ⟨by rw [h1, h2, h3]; exact HV.out⟩
      have a1 : ((i : Int) + 1).tmod 4 = (i1 : Int) := by rw [Int.tmod_eq_emod_of_nonneg (by omega)]; omega
      have a2 : ((i : Int) + 2).tmod 4 = (i2 : Int) := by rw [Int.tmod_eq_emod_of_nonneg (by omega)]; omega
      have a3 : ((i : Int) + 3).tmod 4 = (i3 : Int) := by rw [Int.tmod_eq_emod_of_nonneg (by omega)]; omega
      have b1 : IntKind.i64.wrap ((i : Int) + 1) = (i : Int) + 1 := by rw [IntKind.wrap_i64]; omega
      have b2 : IntKind.i64.wrap ((i : Int) + 2) = (i : Int) + 2 := by rw [IntKind.wrap_i64]; omega
      have b3 : IntKind.i64.wrap ((i : Int) + 3) = (i : Int) + 3 := by rw [IntKind.wrap_i64]; omega
      have d1 : (i1 : Int) < 4 := by omega
      have d2 : (i2 : Int) < 4 := by omega
      have d3 : (i3 : Int) < 4 := by omega
      have hi4 : (i : Int) < 4 := by omega
      generalize selW (wd l i) (wd l ((i + 1) % 4)) (wd l ((i + 2) % 4)) (wd l ((i + 3) % 4)) = x at *
      generalize wd l i = y0 at *
      generalize wd l i1 = y1 at *
      generalize wd l i2 = y2 at *
      generalize wd l i3 = y3 at *
      clear h1 h2 h3 HV HKr
      go_wp2_with fail
      go_still (by kernel_rfl)
      change Exit.then _ _ _ _ wr.drew
      have c0' : wr.drew.cell? ⟨w.heap.size, i, none⟩ = some (.int .u32 (y0.toNat : Int)) := c0
      clear c0 c1 c2 c3
      go_wp2_with fail
      rw [HV2.out]
      refine (sub_any x gx t bx wr.drew HXr.out.drew HLx.out).mono ?_
      rintro e w' ⟨rfl, rfl⟩
      generalize subN bx x = y at *
      have hco2 : wr.drew.drew.cell? ⟨g2, i, none⟩ = _ := hco
      have hfo2 : wr.drew.drew.frozen? ⟨g2, i, none⟩ = false := hfo
      clear hco hfo c0' HV2 a1 a2 a3 b1 b2 b3 d1 d2 d3
      go_wp2
      refine ⟨⟨i + 1, by omega, by go_num, ⟨?_⟩, ((ho.drew).drew.trans (Only.setCell wr.drew.drew ⟨g2, i, none⟩ _))⟩, by simp [intOf]; omega⟩
      have h3 := (HB.out.drew.drew.set i (.int .u32 (y.toNat : Int)))
      rw [HSet.out] at h3
      exact h3
    · obtain rfl : i = 4 := by omega
      have HD : Kp (Blk wr g2 61 (cells32 (wordsL (shiftL l bx 16)))) := ⟨by
        have h := HB.out
        rw [partW_done, wordsL_of _ (shiftL l bx 16) (fun j hj => shift_wd l bx j hj)] at h
        exact h⟩
      have HLen : Kp ((cells32 (wordsL (shiftL l bx 16))).length = 4) := ⟨by rw [cells32_length, wordsL_length]⟩
      have HZ : Kp (zero4.length = 4) := ⟨rfl⟩
      have HRr : Kp _ := ⟨HR3.out.only ho (by omega)⟩
      generalize hL : wordsL (shiftL l bx 16) = L at *
      have HL : Kp _ := ⟨hL⟩
      clear HB hL
      go_wp2_with (first
        | (with_reducible refine wpList_loadAll (o := ⟨some 46, _, _, _, _, _⟩) rwState rfl (.tmp 5) rfl rfl HD.out HLen.out ?_)
        | (with_reducible refine wpList_storeAll (o := ⟨none, _, _, _, _, _⟩) (vs := cells32 L) rwState rfl (.tmp 4) (.tmp 46) rfl rfl HRr.out HZ.out HLen.out (cells32_one _) rfl ?_))
      intro w5 hk5 ho5
      have HK5 : Kp _ := ⟨hk5⟩
      clear hk5
      go_wp2
      exact ret_arr rfl rwState rfl HK5.out HLen.out rfl ⟨by first | rfl | rw [HL.out], (hB3.trans (ho.below (by omega))).trans (ho5.below (by omega))⟩

theorem mix_words (l : List UInt8) (j : Nat) (h : j < 4) : ∃ a b c d : UInt8, wd l j = w4 a b c d ∧ wd (mixL l 16) j = w4 (xt (a ^^^ b)) (xt (b ^^^ c)) (xt (c ^^^ d)) (xt (d ^^^ a)) ^^^ w4 b c d a ^^^ w4 c d a b ^^^ w4 d a b c := by
  refine ⟨_, _, _, _, rfl, ?_⟩
  have h2 := mix_wd l j h
  apply UInt32.toNat_inj.1
  rw [← h2]
  unfold wd
  rw [mix_w4, w4_xor, w4_xor, w4_xor]
theorem plainU32 : Plain1 Try.prog 51 := ⟨by kernel_rfl, by kernel_rfl⟩
theorem turn_8 (a b c d : UInt8) (w : World) : Calls Try.prog 39 #[.int .u32 (w4 a b c d).toNat, .int .i64 8] w fun e w' => e = .returned (.int .u32 (w4 b c d a).toNat) ∧ ∃ q, w' = w.drewN q := by
  have h := turn32_any (w4 a b c d) 8 w (by decide) (by decide)
  rw [rot8] at h; exact h
theorem turn_16 (a b c d : UInt8) (w : World) : Calls Try.prog 39 #[.int .u32 (w4 a b c d).toNat, .int .i64 16] w fun e w' => e = .returned (.int .u32 (w4 c d a b).toNat) ∧ ∃ q, w' = w.drewN q := by
  have h := turn32_any (w4 a b c d) 16 w (by decide) (by decide)
  rw [rot16] at h; exact h
theorem turn_24 (a b c d : UInt8) (w : World) : Calls Try.prog 39 #[.int .u32 (w4 a b c d).toNat, .int .i64 24] w fun e w' => e = .returned (.int .u32 (w4 d a b c).toNat) ∧ ∃ q, w' = w.drewN q := by
  have h := turn32_any (w4 a b c d) 24 w (by decide) (by decide)
  rw [rot24] at h; exact h
theorem dblAll_w4 (a b c d : UInt8) (w : World) : Calls Try.prog 46 #[.int .u32 (w4 (a ^^^ b) (b ^^^ c) (c ^^^ d) (d ^^^ a)).toNat] w fun e w' => e = .returned (.int .u32 (w4 (xt (a ^^^ b)) (xt (b ^^^ c)) (xt (c ^^^ d)) (xt (d ^^^ a))).toNat) ∧ w' = w := by
  have h := dblAll_any (w4 (a ^^^ b) (b ^^^ c) (c ^^^ d) (d ^^^ a)) w
  rw [dbl_w4] at h; exact h
set_option maxRecDepth 100000 in
set_option maxHeartbeats 4000000 in
theorem mix_any (l : List UInt8) (w : World) :
    Calls Try.prog 41 #[.agg (cells32 (wordsL l)).toArray] w fun e w' => e = .returned (.agg (cells32 (wordsL (mixL l 16))).toArray) ∧ Below w.heap.size w w' := by
  go_enter Try.func41, Try.ntmps41
  go_wp2_with (with_reducible refine wpList_box (o := ⟨some 1, _, _, _, _, _⟩) rfl (.tmp 0) rfl rfl ?_)
  intro w1 hk1 hb1 hs1
  have HK1 : Kp _ := ⟨hk1⟩
  clear hk1 hs1
  go_wp2_with (with_reducible refine wpList_alloc (o := ⟨some 2, _, _, _, _, _⟩) tyState rfl rfl ?_)
  intro w2 hk2 hb2 hs2
  have HR2 : Kp _ := ⟨hk2⟩
  have HK12 : Kp (Blk w2 w.heap.size 61 (cells32 (partW (wd (mixL l 16)) (wd l) 4 0))) := ⟨by rw [partW_none]; exact HK1.out.below hb2 HK1.out.lt⟩
  have HW : Kp _ := ⟨HK1.out.below hb2 HK1.out.lt⟩
  have HLw : Kp ((cells32 (wordsL l)).length = 4) := ⟨by rw [cells32_length, wordsL_length]⟩
  have hB2 : Below w.heap.size w w2 := hb1.trans (hb2.mono hb1.size)
  have n1 : w.heap.size < w1.heap.size := HK1.out.lt
  obtain ⟨g1, hg1⟩ : ∃ g, g = w1.heap.size := ⟨_, rfl⟩
  rw [← hg1] at HR2 n1 ⊢
  clear hk2 hs2 hb1 hb2 HK1 hg1
  go_wp2_with (with_reducible refine wpList_loadAll (o := ⟨some 6, _, _, _, _, _⟩) rwState rfl (.tmp 1) rfl rfl HW.out HLw.out ?_)
  clear HW HLw
  go_wp2
  go_loopw [7] (fun vi wr => ∃ i : Nat, i ≤ 4 ∧ vi = .int .i64 i ∧ Kp (Blk wr w.heap.size 61 (cells32 (partW (wd (mixL l 16)) (wd l) 4 i))) ∧ Only w.heap.size w2 wr) (fun vi _ => 4 - (intOf vi).toNat)
  case atStart => exact ⟨0, by omega, rfl, HK12, Only.refl _ _⟩
  case round =>
    clear HK12
    obtain ⟨i, hi, rfl, HB, ho⟩ := hrel
    by_cases hlt : i < 4
    · have hco := (HB.out.cell? i).trans (partW_at (wd (mixL l 16)) (wd l) 4 i hlt)
      have hfo := HB.out.frozen i
      have HSet : Kp _ := ⟨partW_set (wd (mixL l 16)) (wd l) 4 i⟩
      obtain ⟨a, b, c, d, hx, hy⟩ := mix_words l i hlt
      have hidx := run_index_agg (P := Try.prog) (t := 61) Try.underlying61 plainU32 (cells32 (wordsL l)) .i64 i hlt _ (wordsL_at l i hlt) wr
      rw [hx] at hco hidx
      have HY : Kp _ := ⟨hy⟩
      have hi4 : (i : Int) < 4 := by omega
      have hxx : bits .xor .u32 ((w4 a b c d).toNat : Int) ((w4 b c d a).toNat : Int) = ((w4 (a ^^^ b) (b ^^^ c) (c ^^^ d) (d ^^^ a)).toNat : Int) := by rw [u32_xor', w4_xor]
      clear hx hy
      go_wp2_with fail
      refine (turn_8 a b c d _).mono ?_
      rintro e w' ⟨rfl, q8, rfl⟩
      clear hidx
      go_wp2_with fail
      refine (dblAll_w4 a b c d _).mono ?_
      rintro e w' ⟨rfl, rfl⟩
      generalize hD : w4 (xt (a ^^^ b)) (xt (b ^^^ c)) (xt (c ^^^ d)) (xt (d ^^^ a)) = D at *
      clear hxx hD
      go_wp2_with fail
      refine (turn_16 a b c d _).mono ?_
      rintro e w' ⟨rfl, q16, rfl⟩
      go_wp2_with fail
      refine (turn_24 a b c d _).mono ?_
      rintro e w' ⟨rfl, q24, rfl⟩
      have HB2 : Kp _ := ⟨HB.out.drewN (q8 + q16 + q24)⟩
      have ho2 := ho.drewN (q8 + q16 + q24)
      generalize w4 a b c d = W0 at *
      generalize w4 b c d a = W8 at *
      generalize w4 c d a b = W16 at *
      generalize w4 d a b c = W24 at *
      clear HB ho
      go_wp2
      refine ⟨⟨i + 1, by omega, by go_num, ⟨?_⟩, ho2.trans (Only.setCell (wr.drewN (q8 + q16 + q24)) ⟨w.heap.size, i, none⟩ _)⟩, by simp [intOf]; omega⟩
      rw [u32_xor', u32_xor', u32_xor', ← HY.out]
      have h3 := HB2.out.set i (.int .u32 ((wd (mixL l 16) i).toNat : Int))
      rw [HSet.out] at h3
      exact h3
    · obtain rfl : i = 4 := by omega
      have HD : Kp (Blk wr w.heap.size 61 (cells32 (wordsL (mixL l 16)))) := ⟨by
        have h := HB.out
        rw [partW_done] at h
        exact h⟩
      have HLen : Kp ((cells32 (wordsL (mixL l 16))).length = 4) := ⟨by rw [cells32_length, wordsL_length]⟩
      have HZ : Kp (zero4.length = 4) := ⟨rfl⟩
      have HRr : Kp _ := ⟨HR2.out.only ho (by omega)⟩
      generalize hL : wordsL (mixL l 16) = L at *
      have HL : Kp _ := ⟨hL⟩
      clear HB hL
      go_wp2_with (first
        | (with_reducible refine wpList_loadAll (o := ⟨some 28, _, _, _, _, _⟩) rwState rfl (.tmp 1) rfl rfl HD.out HLen.out ?_)
        | (with_reducible refine wpList_storeAll (o := ⟨none, _, _, _, _, _⟩) (vs := cells32 L) rwState rfl (.tmp 2) (.tmp 28) rfl rfl HRr.out HZ.out HLen.out (cells32_one _) rfl ?_))
      intro w5 hk5 ho5
      have HK5 : Kp _ := ⟨hk5⟩
      clear hk5
      go_wp2
      exact ret_arr rfl rwState rfl HK5.out HLen.out rfl ⟨by first | rfl | rw [HL.out], (hB2.trans (ho.below (by omega))).trans (ho5.below (by omega))⟩
end Go.Proofs.Ytleplilcpcgacaa
