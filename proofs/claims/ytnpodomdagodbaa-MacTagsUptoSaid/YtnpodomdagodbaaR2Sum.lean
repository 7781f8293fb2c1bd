/- The contract of sacristanref02.Sum. -/
import Derived.Test.YtnpodomdagodbaaR2Step
import Derived.Test.YtnpodomdagodbaaDig
import Derived.Test.YtnpodomdagodbaaPadded
namespace Go.Proofs.Ytnpodomdagodbaa
open Go.RowKit

theorem st0_laid (w : World) : Us (w.alloc (.cells #[.int .u32 1779033703, .int .u32 3144134277, .int .u32 1013904242, .int .u32 2773480762, .int .u32 1359893119, .int .u32 2600822924, .int .u32 528734635, .int .u32 1541459225] 50)) (w.alloc (.cells #[.int .u32 1779033703, .int .u32 3144134277, .int .u32 1013904242, .int .u32 2773480762, .int .u32 1359893119, .int .u32 2600822924, .int .u32 528734635, .int .u32 1541459225] 50)).heap.size (some ⟨w.heap.size, 0, none⟩) 8 8 St0.list := by
  have h := (Us.laid w 50 St0.list (by decide)).more (B' := (w.alloc (.cells (cells32 St0.list).toArray 50)).heap.size) (by simp)
  have e : (cells32 St0.list).toArray = #[.int .u32 1779033703, .int .u32 3144134277, .int .u32 1013904242, .int .u32 2773480762, .int .u32 1359893119, .int .u32 2600822924, .int .u32 528734635, .int .u32 1541459225] := by rfl
  rw [e] at h
  exact h

set_option maxRecDepth 100000 in
set_option maxHeartbeats 4000000 in
theorem refsum_any (A : Option Addr) (n c : Nat) (l : List UInt8) (w : World) (ha : Bs w w.heap.size A n c l) (hn : n ≤ 1048576) :
    Calls Try.prog 18 #[.slice A n c] w fun e w' => e = .returned (.agg (cells8 (shaL l)).toArray) ∧ Below w.heap.size w w' := by
  have HL := Lib.hid ha.len
  go_enter Try.func18, Try.ntmps18
  go_wp2_with (with_reducible refine wpList_alloc (o := ⟨some 2, _, _, _, _, _⟩) tyDig rfl rfl ?_)
  intro w1 hk1 hb1 hs1
  have HA := Lib.hid (ha.below hb1)
  have HK := Lib.hid hk1
  have hlt : w.heap.size < w1.heap.size := hk1.lt
  clear ha hk1 hs1
  go_wp2_with (at_builtin; refine wpList_app el8 rfl _ _ rfl w1.heap.size _ 0 [] rfl (own_nil _ _ _) A n c (cells8 l) rfl (by rw [cells8_length, HL.out]) ?_ HA.out.news (cells8_one _) (by simp only [maxLen]; omega) (by omega) (Nat.le_refl _) ?_)
  · exact fun h => ⟨by have := HA.out.nil h; have := HA.out.cap; omega, HA.out.nil h⟩
  intro v2 w2 hown2 hg2 _
  have hb2 : Below w1.heap.size w1 w2 := below_of_grown (own_nil w1 w1.heap.size 5) (Nat.le_refl _) hg2
  have H2 := Lib.hid hown2
  clear hown2 hg2
  go_wp2_with (at_builtin; refine wpList_app1 el8 rfl _ _ rfl w1.heap.size _ n _ rfl H2.out rfl rfl (by simp only [maxLen]; omega) (by omega) hb2.size ?_)
  intro v3 w3 H3 hb3 _ _
  have hB3 : Below w1.heap.size w1 w3 := hb2.trans hb3
  obtain ⟨A3, c3, rfl, _⟩ := own_form H3.out
  have H4 : Hid (w3.ownsRow w1.heap.size 5 1 (.slice A3 (n + 1) c3) (n + 1) (cells8 (padTo l (n + 1)))) := by
    show World.ownsRow _ _ _ _ _ _ _
    rw [← HL.out, padTo_first, HL.out, cells8_append]
    exact H3.out
  clear H2 H3 hb2 hb3
  go_wp2
  go_loopw [3] (fun v wr => ∃ m A' c', n + 1 ≤ m ∧ m ≤ n + 1 + padZ n ∧ v = .slice A' m c' ∧ Hid (wr.ownsRow w1.heap.size 5 1 (.slice A' m c') m (cells8 (padTo l m))) ∧ Below w1.heap.size w1 wr) (fun v _ => n + 1 + padZ n - slen v)
  case atStart => exact ⟨n + 1, A3, c3, Nat.le_refl _, by omega, rfl, H4, hB3⟩
  case round =>
    clear H4 hB3
    obtain ⟨m, A', c', hm1, hm2, rfl, H, hB⟩ := hrel
    have hp := pad_le n
    by_cases hlt2 : m < n + 1 + padZ n
    · have ht1 : ((m : Int) % 64 == 56) = false := by
        have := pad_at n (m - (n + 1)) (by omega)
        rw [show n + 1 + (m - (n + 1)) = m by omega] at this
        rw [beq_eq_false_iff_ne]; omega
      have ht2 : ((m : Int) % 64 != 56) = true := by simp only [bne, ht1]; rfl
      go_wp2_with (at_builtin; refine wpList_app1 el8 rfl _ _ rfl w1.heap.size _ m _ rfl H.out rfl rfl (by simp only [maxLen]; omega) (by omega) hB.size ?_)
      intro v5 w5 H5 hb5 _ _
      obtain ⟨A5, c5, rfl, _⟩ := own_form H5.out
      have H6 : Hid (w5.ownsRow w1.heap.size 5 1 (.slice A5 (m + 1) c5) (m + 1) (cells8 (padTo l (m + 1)))) := by
        show World.ownsRow _ _ _ _ _ _ _
        rw [padTo_next l m (by rw [HL.out]; exact hm1), cells8_append]
        exact H5.out
      clear H H5 ht1 ht2
      go_wp2
      go_roundw
      case rel => exact ⟨m + 1, A5, c5, by omega, by omega, rfl, H6, hB.trans hb5⟩
      case measure => simp [slen]; omega
    · have HM := Lib.hid (show m = n + 1 + padZ n by omega)
      have hmb : m ≤ 1048640 := by omega
      have hBw : Below w.heap.size w wr := hb1.trans (hB.mono (Nat.le_of_lt hlt))
      have HKr := Lib.hid (HK.out.below hB hlt)
      have hltr : w.heap.size < wr.heap.size := Nat.lt_of_lt_of_le hlt hB.size
      obtain ⟨wz, rfl⟩ : ∃ x, x = wr := ⟨wr, rfl⟩
      have ht1 : ((m : Int) % 64 == 56) = true := by
        have := pad_end n
        rw [← HM.out] at this
        rw [beq_iff_eq]; omega
      have ht2 : ((m : Int) % 64 != 56) = false := by simp only [bne, ht1]; rfl
      have HE := Lib.hid (padTo_end l)
      clear HK HA
      go_wp2_with fail
      have hput := refput_any (8 * n) 8 wz (by omega)
      rw [show ((8 * n : Nat) : Int) = 8 * (n : Int) by omega] at hput
      have e8 : (min (max (8 : Int) 0) 8).toNat = 8 := by decide
      rw [e8] at hput
      have HP := Lib.hid hput
      clear hput e8
      refine HP.out.mono ?_
      rintro e w7 ⟨v7, rfl, hown7, hb7⟩
      obtain ⟨A7, c7, rfl, hbs7⟩ := Bs.of_own hown7
      have H7 := Lib.hid hbs7
      have HO := Lib.hid (own_below H.out hb7)
      clear hown7 hbs7 HP H
      go_wp2_with (at_builtin; refine wpList_app el8 rfl _ _ rfl w1.heap.size _ m _ rfl HO.out A7 8 c7 (cells8 (putN (8 * n) 8)) rfl (by rw [cells8_length, putN_length]) ?_ H7.out.news (cells8_one _) (by simp only [maxLen]; omega) (by omega) (Nat.le_trans hB.size hb7.size) ?_)
      · exact fun h => absurd (H7.out.nil h) (by have := H7.out.cap; omega)
      intro v8 w8 hown8 hg8 _
      have hb8 : Below w1.heap.size w7 w8 := below_of_grown HO.out (Nat.le_trans hB.size hb7.size) hg8
      rw [← cells8_append] at hown8
      have hown8' : w8.ownsRow w1.heap.size 5 1 v8 (m + 8) (cells8 (padded l)) := by
        have e1 := HE.out
        rw [HL.out, ← HM.out] at e1
        rw [← e1]
        exact hown8
      obtain ⟨A8, c8, rfl, hbs8⟩ := Bs.of_own hown8'
      have H8 := Lib.hid hbs8
      have hB18 : Below w1.heap.size w1 w8 := (hB.trans (hb7.mono hB.size)).trans hb8
      have hBw8 : Below w.heap.size w w8 := hb1.trans (hB18.mono (by have := hb1.size; omega))
      have HK8 := Lib.hid (HKr.out.below (hb7.mono (Nat.le_refl _)) hltr |>.below hb8 hlt)
      clear hown8 hown8' hbs8 hg8 HO H7 hb8 HE ht1 ht2
      have HM64 := Lib.hid (show (m + 8) % 64 = 0 by have := pad_end n; rw [← HM.out] at this; omega)
      have HPL := Lib.hid (show (padded l).length = m + 8 by rw [padded_length, HL.out]; have := HM.out; omega)
      have hlt8 : w.heap.size < w8.heap.size := Nat.lt_of_lt_of_le hlt hB18.size
      clear HKr hB hb7 hB18 HM
      go_wp2
      go_loopw [4, 5] (fun s i wr => ∃ k j : Nat, ∃ A' c', j ≤ m + 8 ∧ i = .int .i64 j ∧ s = .slice A' 8 c' ∧ Hid (j = 64 * k) ∧ Hid (Us wr wr.heap.size A' 8 c' (foldB (padded l) k).list) ∧ Below w8.heap.size w8 wr) (fun _ i _ => m + 8 - (intOf i).toNat)
      case atStart =>
        refine ⟨0, 0, some ⟨w8.heap.size, 0, none⟩, 8, Nat.zero_le _, rfl, rfl, rfl, ?_, (Below.refl _ _).alloc (Nat.le_refl _) _⟩
        exact st0_laid w8
      case round =>
        obtain ⟨k, j, A', c', hj, rfl, rfl, HJ, HU, hbr⟩ := hrel
        by_cases hlt3 : j < m + 8
        · have hj64 : j + 64 ≤ m + 8 := by have := HJ.out; have := HM64.out; omega
          have HF : Hid (foldB (padded l) (k + 1) = stepS (foldB (padded l) k) (((padded l).take (j + 64)).drop j)) := by show _ = _; rw [HJ.out]; rfl
          have hbx := H8.out.below hbr
          go_wp2_with (with_reducible refine wpList_cut_lh (o := ⟨some 42, _, _, _, _, _⟩) el8 rfl _ _ _ rfl rfl hbx _ _ _ _ j (j + 64) rfl rfl rfl (by omega) (by omega) (by omega) ?_)
          intro A1 m1 d1 h1
          obtain rfl : m1 = 64 := by have := h1.len; simp [HPL.out] at this; omega
          have H1 := Lib.hid (h1.more (B' := wr.heap.size) hbr.size)
          clear h1 hbx
          go_wp2_with fail
          refine (step_any _ _ _ _ _ _ _ HU.out H1.out).mono ?_
          rintro e w9 ⟨v9, rfl, hown9, hb9⟩
          obtain ⟨A9, c9, rfl, hu9⟩ := Us.of_own hown9
          have HU9 : Hid (Us w9 w9.heap.size A9 8 c9 (foldB (padded l) (k + 1)).list) := by
            show Us _ _ _ _ _ _
            rw [HF.out]
            exact hu9
          clear hown9 hu9 HU HF H1
          go_wp2
          go_roundw
          case rel => exact ⟨k + 1, j + 64, A9, c9, by omega, by go_num, rfl, by have := HJ.out; show _ = _; omega, HU9, hbr.trans (hb9.mono hbr.size)⟩
          case measure => simp [intOf]; omega
        · have HJ2 := Lib.hid (show j = m + 8 by omega)
          have HDG : Hid (shaL l = digestL (foldB (padded l) k)) := by
            show _ = _
            unfold shaL
            rw [show (padded l).length / 64 = k by rw [HPL.out]; have := HJ.out; have := HJ2.out; omega]
          generalize foldB (padded l) k = S at *
          have HKb := Lib.hid (HK8.out.below hbr hlt8)
          have hltb : w.heap.size < wr.heap.size := Nat.lt_of_lt_of_le hlt8 hbr.size
          have hBwb : Below w.heap.size w wr := hBw8.trans (hbr.mono (Nat.le_of_lt hlt8))
          obtain ⟨wb, rfl⟩ : ∃ x, x = wr := ⟨wr, rfl⟩
          clear HJ HJ2 HM64 HPL H8 HK8 hbr hBw8 hBw hb1 hltr
          go_wp2_with (with_reducible refine wpList_alloc (o := ⟨some 6, _, _, _, _, _⟩) tyDig rfl rfl ?_)
          intro w10 hk10 hb10 hs10
          have HK10 := Lib.hid hk10
          have hlt10 : wb.heap.size < w10.heap.size := hk10.lt
          clear hk10 hs10
          go_wp2_with (with_reducible refine wpList_store (o := ⟨none, _, _, _, _, _⟩) (vs := zero32) rwDig rfl (.tmp 6) (.tmp 44) rfl rfl ?_ HK10.out ?_ ?_ ?_ ?_)
          · rfl
          · rfl
          · decide
          · exact cells8_one _
          intro w11 hk11 ho11
          have hk12 : Blk w11 wb.heap.size 27 (cells8 (outAt (digestL S) (4 * 0))) := by
            have e1 : zero32.take 0 ++ zero32 ++ zero32.drop (0 + 32) = cells8 (outAt (digestL S) (4 * 0)) := by
              simp [outAt, zero32, cells8]
            rw [← e1]; exact hk11
          have hB11 : Below wb.heap.size wb w11 := hb10.trans (ho11.below (Nat.le_refl _))
          have hlt11 : wb.heap.size < w11.heap.size := hk12.lt
          clear hk11 ho11 hb10 HK10 hlt10
          go_wp2
          go_loopw [7] (fun v wr => ∃ i : Nat, i ≤ 8 ∧ v = .int .i64 i ∧ Hid (Blk wr wb.heap.size 27 (cells8 (outAt (digestL S) (4 * i)))) ∧ Below wb.heap.size wb wr ∧ wb.heap.size < wr.heap.size) (fun v _ => 8 - (intOf v).toNat)
          case atStart => exact ⟨0, Nat.zero_le _, rfl, hk12, hB11, hlt11⟩
          case round =>
            clear hk12 hB11 hlt11
            obtain ⟨i, hi, rfl, HB, hbr, hltr⟩ := hrel
            by_cases hlt4 : i < 8
            · obtain ⟨gs, os, rfl, hgs, hcs⟩ := (HU.out.below hbr).getD hlt4
              have HDD := Lib.hid (fun k (hk : k < 4) => digest_at S i k hlt4 hk)
              generalize S.list.getD i 0 = x at *
              go_wp2_with fail
              rw [u64_of_u32 x]
              have hput := refput_any x.toNat 4 wr (u32_lt64 x)
              have e4 : (min (max (4 : Int) 0) 8).toNat = 4 := by decide
              rw [e4] at hput
              have HP := Lib.hid hput
              clear hput e4
              refine HP.out.mono ?_
              rintro e wp ⟨vp, rfl, hownp, hbp⟩
              obtain ⟨gx, cx, rfl, _, hgx, _⟩ := own_some hownp (by omega)
              have HX := Lib.hid hownp
              have HBp := Lib.hid (HB.out.below hbp hltr)
              clear HP hownp HB
              go_wp2
              go_loopw [9] (fun v wq => ∃ k : Nat, k ≤ 4 ∧ v = .int .i64 k ∧ Hid (Blk wq wb.heap.size 27 (cells8 (outAt (digestL S) (4 * i + k)))) ∧ Only wb.heap.size wp wq) (fun v _ => 4 - (intOf v).toNat)
              case atStart => exact ⟨0, Nat.zero_le _, rfl, HBp, Only.refl _ _⟩
              case round =>
                clear HBp
                obtain ⟨k, hk, rfl, HB, ho⟩ := hrel
                by_cases hlt5 : k < 4
                · have hcx : wr.cell? ⟨gx, k, none⟩ = some (.int .u8 (((digestL S).getD (4 * i + k) 0).toNat : Int)) := by
                    have h1 := HDD.out k hlt5
                    have h2 := HX.out.cells (g := gx) rfl k (.int .u8 (((digestL S).getD (4 * i + k) 0).toNat : Int)) (by simp only [cells8, List.getElem?_map, h1]; rfl)
                    rw [Addr.add_lit, Nat.zero_add] at h2
                    rw [← h2]
                    exact World.cell?_of_block (w := wp) (ho.block gx (by omega))
                  have hle : 4 * i + k < (cells8 (outAt (digestL S) (4 * i + k))).length := by rw [cells8_length, outAt_length _ (digestL_length S) _ (by omega)]; omega
                  have hco := HB.out.cell hle
                  have hfo := HB.out.frozen (4 * i + k)
                  have HSet := Lib.hid (outAt_set (digestL S) (digestL_length S) (4 * i + k) (by omega))
                  generalize (digestL S).getD (4 * i + k) 0 = y at *
                  generalize hq : (cells8 (outAt (digestL S) (4 * i + k)))[4 * i + k]'hle = q at hco
                  clear hq hle
                  go_wp2
                  refine ⟨⟨k + 1, by omega, by go_num, ?_, ho.trans (Only.setCell wr ⟨wb.heap.size, _, none⟩ _)⟩, by simp [intOf]; omega⟩
                  have h3 := HB.out.set (4 * i + k) (.int .u8 (y.toNat : Int))
                  rw [HSet.out] at h3
                  exact h3
                · have HK4 := Lib.hid (show k = 4 by omega)
                  have HB4 : Hid (Blk wr wb.heap.size 27 (cells8 (outAt (digestL S) (4 * (i + 1))))) := by
                    have h1 := HB.out
                    rw [HK4.out] at h1
                    exact h1
                  have hb4 : Below wb.heap.size wb wr := (hbr.trans (hbp.mono (Nat.le_of_lt hltr))).trans (ho.below (Nat.le_refl _))
                  have hl4 : wb.heap.size < wr.heap.size := by have := ho.size; have := hbp.size; omega
                  clear HB ho HX HDD hcs
                  go_wp2
                  go_roundw
                  case rel => exact ⟨i + 1, by omega, by go_num, HB4, hb4, hl4⟩
                  case measure => simp [intOf]; omega
            · have HI8 := Lib.hid (show i = 8 by omega)
              have HB8 : Hid (Blk wr wb.heap.size 27 (cells8 (shaL l))) := by
                have h1 := HB.out
                rw [HI8.out] at h1
                rw [show (4 * 8 : Nat) = 32 from rfl, outAt_end _ (digestL_length S), ← HDG.out] at h1
                exact h1
              have HLen := Lib.hid (show (cells8 (shaL l)).length = 32 by rw [cells8_length, HDG.out, digestL_length])
              have HKr := Lib.hid (HKb.out.below hbr hltb)
              clear HB
              go_wp2_with (first
                | (with_reducible refine wpList_loadAll (o := ⟨some 68, _, _, _, _, _⟩) rwDig rfl (.tmp 6) rfl rfl HB8.out HLen.out ?_)
                | (with_reducible refine wpList_storeAll (o := ⟨none, _, _, _, _, _⟩) (vs := cells8 (shaL l)) rwDig rfl (.tmp 2) (.tmp 68) rfl rfl HKr.out rfl HLen.out (cells8_one _) rfl ?_))
              intro w13 hk14 ho13
              have HK14 := Lib.hid hk14
              clear hk14
              go_wp2
              exact ret_arr rfl rwDig rfl HK14.out HLen.out rfl ⟨rfl, (hBwb.trans (hbr.mono (Nat.le_of_lt hltb))).trans (ho13.below (Nat.le_refl _))⟩
end Go.Proofs.Ytnpodomdagodbaa
