/- The contracts of package aes's columns, bytes and add. -/
import Derived.Test.YtleplilcpcgacaaAesRound
namespace Go.Proofs.Ytleplilcpcgacaa
open Go.RowKit

theorem col_val (b : List UInt8) (q c : Nat) : bits .or .u32 (IntKind.u32.wrap (((colA b q c).toNat : Int) * 256)) (IntKind.u32.wrap ((b.getD (4 * q + c) 0).toNat : Int)) = ((colA b q (c + 1)).toNat : Int) := by
  have hy := (b.getD (4 * q + c) 0).toNat_lt
  have e1 : IntKind.u32.wrap (((colA b q c).toNat : Int) * 256) = (((colA b q c).toNat * 256 % 4294967296 : Nat) : Int) := by rw [IntKind.wrap_u32]; omega
  have e2 : IntKind.u32.wrap ((b.getD (4 * q + c) 0).toNat : Int) = ((b.getD (4 * q + c) 0).toNat : Int) := by rw [IntKind.wrap_u32]; omega
  rw [e1, e2, u32_or_nat _ _ (Nat.mod_lt _ (by decide)) (by omega), or_low, ← colA_nat]
set_option maxRecDepth 100000 in
set_option maxHeartbeats 4000000 in
theorem columns_any (b : List UInt8) (w : World) (hb : b.length = 16) : Calls Try.prog 31 #[.agg (cells8 b).toArray] w fun e w' => e = .returned (.agg (cells32 (wordsL b)).toArray) ∧ Below w.heap.size w w' := by
  have HLb : Kp (b.length = 16) := ⟨hb⟩
  clear hb
  go_enter Try.func31, Try.ntmps31
  go_wp2_with (with_reducible refine wpList_box (o := ⟨some 1, _, _, _, _, _⟩) rfl (.tmp 0) rfl rfl ?_)
  intro w1 hk1 hb1 hs1
  have HK1 : Kp _ := ⟨hk1⟩
  clear hk1 hs1
  go_wp2_with (with_reducible refine wpList_alloc (o := ⟨some 2, _, _, _, _, _⟩) tyState rfl rfl ?_)
  intro w2 hk2 hb2 hs2
  have HR2 : Kp _ := ⟨hk2⟩
  have HK12 : Kp _ := ⟨HK1.out.below hb2 HK1.out.lt⟩
  have hB2 : Below w.heap.size w w2 := hb1.trans (hb2.mono hb1.size)
  have n1 : w.heap.size < w1.heap.size := HK1.out.lt
  clear hk2 hs2 hb1 hb2 HK1
  go_wp2_with (with_reducible refine wpList_alloc (o := ⟨some 3, _, _, _, _, _⟩) tyState rfl rfl ?_)
  intro w3 hk3 hb3 hs3
  have HR3 : Kp _ := ⟨HR2.out.below hb3 HR2.out.lt⟩
  have HK13 : Kp _ := ⟨HK12.out.below hb3 HK12.out.lt⟩
  have HK3 : Kp (Blk w3 w2.heap.size 61 (cells32 (colS b 0))) := ⟨by rw [colS_none]; exact hk3⟩
  have n2 : w1.heap.size < w2.heap.size := HR2.out.lt
  have hB3 : Below w.heap.size w w3 := hB2.trans (hb3.mono hB2.size)
  obtain ⟨g1, hg1⟩ : ∃ g, g = w1.heap.size := ⟨_, rfl⟩
  obtain ⟨g2, hg2⟩ : ∃ g, g = w2.heap.size := ⟨_, rfl⟩
  rw [← hg1] at HR3 n1 n2 ⊢
  rw [← hg2] at HK3 n2 ⊢
  clear hk3 hs3 hb3 HR2 HK12 hB2 hg1 hg2
  go_wp2
  go_loopw [5] (fun vi wr => ∃ i : Nat, i ≤ 16 ∧ vi = .int .i64 i ∧ Kp (Blk wr g2 61 (cells32 (colS b i))) ∧ Only g2 w3 wr) (fun vi _ => 16 - (intOf vi).toNat)
  case atStart => exact ⟨0, by omega, rfl, HK3, Only.refl _ _⟩
  case round =>
    clear HK3
    obtain ⟨i, hi, rfl, HB, ho⟩ := hrel
    by_cases hlt : i < 16
    · have cs := (HB.out.cell? (i / 4)).trans (colS_at b i hlt)
      have cb : wr.cell? ⟨w.heap.size, i, none⟩ = some (.int .u8 ((b.getD i 0).toNat : Int)) := by
        rw [(HK13.out.only ho (by omega)).cell? i, cells8_at b i (by rw [HLb.out]; exact hlt)]
        simp [List.getD, List.getElem?_eq_getElem (show i < b.length by rw [HLb.out]; exact hlt)]
      have hfo := HB.out.frozen (i / 4)
      have HSet : Kp _ := ⟨colS_set b i⟩
      have HV : Kp _ := ⟨col_val b (i / 4) (i % 4)⟩
      rw [show 4 * (i / 4) + i % 4 = i by omega] at HV
      obtain ⟨q, hq⟩ : ∃ q, q = i / 4 := ⟨_, rfl⟩
      rw [← hq] at cs hfo HSet HV
      generalize colA b q (i % 4) = x at *
      generalize colA b q (i % 4 + 1) = y at *
      generalize b.getD i 0 = z at *
      have hq1 : (i : Int) / 4 = (q : Int) := by omega
      have hq2 : (i : Int).tdiv 4 = (q : Int) := by rw [Int.tdiv_eq_ediv_of_nonneg (by omega)]; exact hq1
      have hq3 : IntKind.i64.wrap (q : Int) = (q : Int) := by rw [IntKind.wrap_i64]; omega
      have hq4 : (q : Int) < 4 := by omega
      have hi16 : (i : Int) < 16 := by omega
      clear hq
      go_wp2_with fail
      go_still_tail 12, (by kernel_rfl)
      change wpList _ _ _ _ _ wr.drew
      go_wp2
      refine ⟨⟨i + 1, by omega, by go_num, ⟨?_⟩, (ho.trans (Only.setCell wr ⟨g2, q, none⟩ _)).drew⟩, by simp [intOf]; omega⟩
      have HV2 := HV.out
      rw [IntKind.wrap_u32, IntKind.wrap_u32] at HV2
      rw [HV2]
      have h3 := (HB.out.set q (.int .u32 (y.toNat : Int))).drew
      rw [HSet.out] at h3
      exact h3
    · obtain rfl : i = 16 := by omega
      have HD : Kp (Blk wr g2 61 (cells32 (wordsL b))) := ⟨by rw [← colS_done]; exact HB.out⟩
      have HLen : Kp ((cells32 (wordsL b)).length = 4) := ⟨by rw [cells32_length, wordsL_length]⟩
      have HZ : Kp (zero4.length = 4) := ⟨rfl⟩
      have HRr : Kp _ := ⟨HR3.out.only ho (by omega)⟩
      generalize hL : wordsL b = L at *
      have HL : Kp _ := ⟨hL⟩
      clear HB hL
      go_wp2_with (first
        | (with_reducible refine wpList_loadAll (o := ⟨some 22, _, _, _, _, _⟩) rwState rfl (.tmp 3) rfl rfl HD.out HLen.out ?_)
        | (with_reducible refine wpList_storeAll (o := ⟨none, _, _, _, _, _⟩) (vs := cells32 L) rwState rfl (.tmp 2) (.tmp 22) rfl rfl HRr.out HZ.out HLen.out (cells32_one _) rfl ?_))
      intro w5 hk5 ho5
      have HK5 : Kp _ := ⟨hk5⟩
      clear hk5
      go_wp2
      exact ret_arr rfl rwState rfl HK5.out HLen.out rfl ⟨by first | rfl | rw [HL.out], (hB3.trans (ho.below (by omega))).trans (ho5.below (by omega))⟩

set_option maxRecDepth 100000 in
set_option maxHeartbeats 4000000 in
theorem bytes_any (l : List UInt8) (w : World) (hl : l.length = 16) : Calls Try.prog 33 #[.agg (cells32 (wordsL l)).toArray] w fun e w' => e = .returned (.agg (cells8 l).toArray) ∧ Below w.heap.size w w' := by
  have HLl : Kp (l.length = 16) := ⟨hl⟩
  clear hl
  go_enter Try.func33, Try.ntmps33
  go_wp2_with (with_reducible refine wpList_box (o := ⟨some 1, _, _, _, _, _⟩) rfl (.tmp 0) rfl rfl ?_)
  intro w1 hk1 hb1 hs1
  have HK1 : Kp _ := ⟨hk1⟩
  clear hk1 hs1
  go_wp2_with (with_reducible refine wpList_alloc (o := ⟨some 2, _, _, _, _, _⟩) tyBytes rfl rfl ?_)
  intro w2 hk2 hb2 hs2
  have HR2 : Kp _ := ⟨hk2⟩
  have HK12 : Kp _ := ⟨HK1.out.below hb2 HK1.out.lt⟩
  have hB2 : Below w.heap.size w w2 := hb1.trans (hb2.mono hb1.size)
  have n1 : w.heap.size < w1.heap.size := HK1.out.lt
  clear hk2 hs2 hb1 hb2 HK1
  go_wp2_with (with_reducible refine wpList_alloc (o := ⟨some 3, _, _, _, _, _⟩) tyBytes rfl rfl ?_)
  intro w3 hk3 hb3 hs3
  have HR3 : Kp _ := ⟨HR2.out.below hb3 HR2.out.lt⟩
  have HK13 : Kp _ := ⟨HK12.out.below hb3 HK12.out.lt⟩
  have HK3 : Kp (Blk w3 w2.heap.size 29 (cells8 (fillU (fun i => by4 (wd l (i / 4)) (i % 4)) 16 0))) := ⟨by rw [fillU_none]; exact hk3⟩
  have n2 : w1.heap.size < w2.heap.size := HR2.out.lt
  have hB3 : Below w.heap.size w w3 := hB2.trans (hb3.mono hB2.size)
  obtain ⟨g1, hg1⟩ : ∃ g, g = w1.heap.size := ⟨_, rfl⟩
  obtain ⟨g2, hg2⟩ : ∃ g, g = w2.heap.size := ⟨_, rfl⟩
  rw [← hg1] at HR3 n1 n2 ⊢
  rw [← hg2] at HK3 n2 ⊢
  clear hk3 hs3 hb3 HR2 HK12 hB2 hg1 hg2
  go_wp2
  go_loopw [5] (fun vi wr => ∃ i : Nat, i ≤ 16 ∧ vi = .int .i64 i ∧ Kp (Blk wr g2 29 (cells8 (fillU (fun i => by4 (wd l (i / 4)) (i % 4)) 16 i))) ∧ Only g2 w3 wr) (fun vi _ => 16 - (intOf vi).toNat)
  case atStart => exact ⟨0, by omega, rfl, HK3, Only.refl _ _⟩
  case round =>
    clear HK3
    obtain ⟨i, hi, rfl, HB, ho⟩ := hrel
    by_cases hlt : i < 16
    · have cs := ((HK13.out.only ho (by omega)).cell? (i / 4)).trans (wordsL_at l (i / 4) (by omega))
      have hll : i < (cells8 (fillU (fun i => by4 (wd l (i / 4)) (i % 4)) 16 i)).length := by rw [cells8_length, fillU_length]; exact hlt
      have hco := HB.out.cell (i := i) hll
      have hfo := HB.out.frozen i
      have HSet : Kp _ := ⟨fillU_set (fun i => by4 (wd l (i / 4)) (i % 4)) 16 i⟩
      generalize (cells8 (fillU (fun i => by4 (wd l (i / 4)) (i % 4)) 16 i))[i]'_ = old at hco
      obtain ⟨q, hq⟩ : ∃ q, q = i / 4 := ⟨_, rfl⟩
      obtain ⟨r, hr⟩ : ∃ r, r = i % 4 := ⟨_, rfl⟩
      rw [← hq] at cs
      have hq1 : (i : Int) / 4 = (q : Int) := by omega
      have hq2 : (i : Int) % 4 = (r : Int) := by omega
      have hq4 : (q : Int) < 4 := by omega
      have hr3 : Kp (r ≤ 3) := ⟨by omega⟩
      have hi16 : (i : Int) < 16 := by omega
      have HV : Kp (by4 (wd l (i / 4)) (i % 4) = by4 (wd l q) r) := ⟨by rw [hq, hr]⟩
      generalize wd l q = x at *
      clear hq hr hll
      go_wp2_with fail
      refine (row_any x r _ hr3.out).mono ?_
      rintro e w' ⟨rfl, rfl⟩
      generalize by4 x r = y at *
      go_wp2
      refine ⟨⟨i + 1, by omega, by go_num, ⟨?_⟩, ho.trans (Only.setCell w' ⟨g2, i, none⟩ _)⟩, by simp [intOf]; omega⟩
      have h3 := HB.out.set i (.int .u8 (y.toNat : Int))
      have h4 := HSet.out
      simp only [HV.out] at h4
      rw [h4] at h3
      exact h3
    · obtain rfl : i = 16 := by omega
      have HD : Kp (Blk wr g2 29 (cells8 l)) := ⟨by
        have h := HB.out
        rw [fillU_done] at h
        simp only [by4_wd] at h
        rw [range_getD l 16 HLl.out] at h
        exact h⟩
      have HLen : Kp ((cells8 l).length = 16) := ⟨by rw [cells8_length, HLl.out]⟩
      have HZ : Kp (zero16.length = 16) := ⟨rfl⟩
      have HRr : Kp _ := ⟨HR3.out.only ho (by omega)⟩
      clear HB
      go_wp2_with (first
        | (with_reducible refine wpList_loadAll (o := ⟨some 18, _, _, _, _, _⟩) rwBytes rfl (.tmp 3) rfl rfl HD.out HLen.out ?_)
        | (with_reducible refine wpList_storeAll (o := ⟨none, _, _, _, _, _⟩) (vs := cells8 l) rwBytes rfl (.tmp 2) (.tmp 18) rfl rfl HRr.out HZ.out HLen.out (cells8_one _) rfl ?_))
      intro w5 hk5 ho5
      have HK5 : Kp _ := ⟨hk5⟩
      clear hk5
      go_wp2
      exact ret_arr rfl rwBytes rfl HK5.out HLen.out rfl ⟨rfl, (hB3.trans (ho.below (by omega))).trans (ho5.below (by omega))⟩

set_option maxRecDepth 100000 in
set_option maxHeartbeats 4000000 in
theorem add_any (l m : List UInt8) (w : World) : Calls Try.prog 40 #[.agg (cells32 (wordsL l)).toArray, .agg (cells32 (wordsL m)).toArray] w fun e w' => e = .returned (.agg (cells32 (wordsL (addL l m 16))).toArray) ∧ Below w.heap.size w w' := by
  go_enter Try.func40, Try.ntmps40
  go_wp2_with (with_reducible refine wpList_box (o := ⟨some 2, _, _, _, _, _⟩) rfl (.tmp 0) rfl rfl ?_)
  intro w1 hk1 hb1 hs1
  have HK1 : Kp _ := ⟨hk1⟩
  clear hk1 hs1
  go_wp2_with (with_reducible refine wpList_box (o := ⟨some 3, _, _, _, _, _⟩) rfl (.tmp 1) rfl rfl ?_)
  intro w2 hk2 hb2 hs2
  have HR2 : Kp _ := ⟨hk2⟩
  have HK12 : Kp _ := ⟨HK1.out.below hb2 HK1.out.lt⟩
  have hB2 : Below w.heap.size w w2 := hb1.trans (hb2.mono hb1.size)
  have n1 : w.heap.size < w1.heap.size := HK1.out.lt
  clear hk2 hs2 hb1 hb2 HK1
  go_wp2_with (with_reducible refine wpList_alloc (o := ⟨some 4, _, _, _, _, _⟩) tyState rfl rfl ?_)
  intro w3 hk3 hb3 hs3
  have HR3 : Kp _ := ⟨HR2.out.below hb3 HR2.out.lt⟩
  have HK13 : Kp (Blk w3 w.heap.size 61 (cells32 (partW (fun j => wd l j ^^^ wd m j) (wd l) 4 0))) := ⟨by rw [partW_none]; exact HK12.out.below hb3 HK12.out.lt⟩
  have HK3 : Kp _ := ⟨hk3⟩
  have n2 : w1.heap.size < w2.heap.size := HR2.out.lt
  have hB3 : Below w.heap.size w w3 := hB2.trans (hb3.mono hB2.size)
  obtain ⟨g1, hg1⟩ : ∃ g, g = w1.heap.size := ⟨_, rfl⟩
  obtain ⟨g2, hg2⟩ : ∃ g, g = w2.heap.size := ⟨_, rfl⟩
  rw [← hg1] at HR3 n1 n2 ⊢
  rw [← hg2] at HK3 n2 ⊢
  clear hk3 hs3 hb3 HR2 HK12 hB2 hg1 hg2
  go_wp2
  go_loopw [6] (fun vi wr => ∃ i : Nat, i ≤ 4 ∧ vi = .int .i64 i ∧ Kp (Blk wr w.heap.size 61 (cells32 (partW (fun j => wd l j ^^^ wd m j) (wd l) 4 i))) ∧ Only w.heap.size w3 wr) (fun vi _ => 4 - (intOf vi).toNat)
  case atStart => exact ⟨0, by omega, rfl, HK13, Only.refl _ _⟩
  case round =>
    clear HK13
    obtain ⟨i, hi, rfl, HB, ho⟩ := hrel
    by_cases hlt : i < 4
    · have cs := (HB.out.cell? i).trans (partW_at (fun j => wd l j ^^^ wd m j) (wd l) 4 i hlt)
      have cx := ((HR3.out.only ho (by omega)).cell? i).trans (wordsL_at m i hlt)
      have hfo := HB.out.frozen i
      have HSet : Kp _ := ⟨partW_set (fun j => wd l j ^^^ wd m j) (wd l) 4 i⟩
      generalize hp : wd l i = x at cs
      generalize hq : wd m i = y at cx
      simp only [hp, hq] at HSet
      have hv := u32_xor' x y
      clear hp hq
      have hi16 : (i : Int) < 4 := by omega
      go_wp2_with fail
      go_still_tail 7, (by kernel_rfl)
      change wpList _ _ _ _ _ wr.drew
      go_wp2
      refine ⟨⟨i + 1, by omega, by go_num, ⟨?_⟩, (ho.trans (Only.setCell wr ⟨w.heap.size, i, none⟩ _)).drew⟩, by simp [intOf]; omega⟩
      have h3 := (HB.out.set i (.int .u32 ((x ^^^ y).toNat : Int))).drew
      rw [HSet.out] at h3
      first | exact h3 | (rw [← hv] at h3; exact h3)
    · obtain rfl : i = 4 := by omega
      have HD : Kp (Blk wr w.heap.size 61 (cells32 (wordsL (addL l m 16)))) := ⟨by
        have h := HB.out
        rw [partW_done, wordsL_of _ (addL l m 16) (fun j hj => add_wd l m j hj)] at h
        exact h⟩
      have HLen : Kp ((cells32 (wordsL (addL l m 16))).length = 4) := ⟨by rw [cells32_length, wordsL_length]⟩
      have HZ : Kp (zero4.length = 4) := ⟨rfl⟩
      have HRr : Kp _ := ⟨HK3.out.only ho (by omega)⟩
      generalize hL : wordsL (addL l m 16) = L at *
      have HL : Kp _ := ⟨hL⟩
      clear HB hL
      go_wp2_with (first
        | (with_reducible refine wpList_loadAll (o := ⟨some 18, _, _, _, _, _⟩) rwState rfl (.tmp 2) rfl rfl HD.out HLen.out ?_)
        | (with_reducible refine wpList_storeAll (o := ⟨none, _, _, _, _, _⟩) (vs := cells32 L) rwState rfl (.tmp 4) (.tmp 18) rfl rfl HRr.out HZ.out HLen.out (cells32_one _) rfl ?_))
      intro w5 hk5 ho5
      have HK5 : Kp _ := ⟨hk5⟩
      clear hk5
      go_wp2
      exact ret_arr rfl rwState rfl HK5.out HLen.out rfl ⟨by first | rfl | rw [HL.out], (hB3.trans (ho.below (by omega))).trans (ho5.below (by omega))⟩
end Go.Proofs.Ytleplilcpcgacaa
