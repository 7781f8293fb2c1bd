/- The contract of sacristanref02.Sum.
   The contracts of sacristanref03's Slice and pad.
   The contract of sacristanref03.Tag.
   The contracts of package sha's small functions on words.
   The contract of package sha's schedule. -/
import Derived.Test.YtjllfaeamjadcaaG02
import Derived.Test.YtjllfaeamjadcaaG01
import Derived.BigQuiet
import Derived.Deep.QuietTactic
import Derived.StillTailTactics
namespace Go.Proofs.Ytjllfaeamjadcaa
open Go.RowKit

theorem st0_laid (w : World) : Us (w.alloc (.cells #[.int .u32 1779033703, .int .u32 3144134277, .int .u32 1013904242, .int .u32 2773480762, .int .u32 1359893119, .int .u32 2600822924, .int .u32 528734635, .int .u32 1541459225] 70)) (w.alloc (.cells #[.int .u32 1779033703, .int .u32 3144134277, .int .u32 1013904242, .int .u32 2773480762, .int .u32 1359893119, .int .u32 2600822924, .int .u32 528734635, .int .u32 1541459225] 70)).heap.size (some ⟨w.heap.size, 0, none⟩) 8 8 St0.list := by
  have h := (Us.laid w 70 St0.list (by decide)).more (B' := (w.alloc (.cells (cells32 St0.list).toArray 70)).heap.size) (by simp)
  have e : (cells32 St0.list).toArray = #[.int .u32 1779033703, .int .u32 3144134277, .int .u32 1013904242, .int .u32 2773480762, .int .u32 1359893119, .int .u32 2600822924, .int .u32 528734635, .int .u32 1541459225] := by rfl
  rw [e] at h
  exact h

set_option maxRecDepth 100000 in
set_option maxHeartbeats 4000000 in
theorem refsum_any (A : Option Addr) (n c : Nat) (l : List UInt8) (w : World) (ha : Bs w w.heap.size A n c l) (hn : n ≤ 1048576) :
    Calls Try.prog 42 #[.slice A n c] w fun e w' => e = .returned (.agg (cells8 (shaL l)).toArray) ∧ Below w.heap.size w w' := by
  have HL := Lib.hid ha.len
  go_enter Try.func42, Try.ntmps42
  go_wp2_with (with_reducible refine wpList_alloc (o := ⟨some 2, _, _, _, _, _⟩) tyDig rfl rfl ?_)
  intro w1 hk1 hb1 hs1
  have HA := Lib.hid (ha.below hb1)
  have HK := Lib.hid hk1
  have hlt : w.heap.size < w1.heap.size := hk1.lt
  clear ha hk1 hs1
  go_wp2_with (at_builtin; refine wpList_app el8 rfl _ _ rfl w1.heap.size _ 0 [] rfl (own_nil _ _ _) A n c (cells8 l) rfl (by rw [cells8_length, HL.out]) ?_ HA.out.news (cells8_one _) (by simp only [maxLen]; omega) (by omega) (Nat.le_refl _) ?_)
  · exact fun h => ⟨by have := HA.out.nil h; have := HA.out.cap; omega, HA.out.nil h⟩
  intro v2 w2 hown2 hg2 _
  have hb2 : Below w1.heap.size w1 w2 := below_of_grown (own_nil w1 w1.heap.size 5) (Nat.le_refl _) hg2
  have H2 := Lib.hid hown2
  clear hown2 hg2
  go_wp2_with (at_builtin; refine wpList_app1 el8 rfl _ _ rfl w1.heap.size _ n _ rfl H2.out rfl rfl (by simp only [maxLen]; omega) (by omega) hb2.size ?_)
  intro v3 w3 H3 hb3 _ _
  have hB3 : Below w1.heap.size w1 w3 := hb2.trans hb3
  obtain ⟨A3, c3, rfl, _⟩ := own_form H3.out
  have H4 : Hid (w3.ownsRow w1.heap.size 5 1 (.slice A3 (n + 1) c3) (n + 1) (cells8 (padTo l (n + 1)))) := by
    show World.ownsRow _ _ _ _ _ _ _
    rw [← HL.out, padTo_first, HL.out, cells8_append]
    exact H3.out
  clear H2 H3 hb2 hb3
  go_wp2
  go_loopw [3] (fun v wr => ∃ m A' c', n + 1 ≤ m ∧ m ≤ n + 1 + padZ n ∧ v = .slice A' m c' ∧ Hid (wr.ownsRow w1.heap.size 5 1 (.slice A' m c') m (cells8 (padTo l m))) ∧ Below w1.heap.size w1 wr) (fun v _ => n + 1 + padZ n - slen v)
  case atStart => exact ⟨n + 1, A3, c3, Nat.le_refl _, by omega, rfl, H4, hB3⟩
  case round =>
    clear H4 hB3
    obtain ⟨m, A', c', hm1, hm2, rfl, H, hB⟩ := hrel
    have hp := pad_le n
    by_cases hlt2 : m < n + 1 + padZ n
    · have ht1 : ((m : Int) % 64 == 56) = false := by
        have := pad_at n (m - (n + 1)) (by omega)
        rw [show n + 1 + (m - (n + 1)) = m by omega] at this
        rw [beq_eq_false_iff_ne]; omega
      have ht2 : ((m : Int) % 64 != 56) = true := by simp only [bne, ht1]; rfl
      go_wp2_with (at_builtin; refine wpList_app1 el8 rfl _ _ rfl w1.heap.size _ m _ rfl H.out rfl rfl (by simp only [maxLen]; omega) (by omega) hB.size ?_)
      intro v5 w5 H5 hb5 _ _
      obtain ⟨A5, c5, rfl, _⟩ := own_form H5.out
      have H6 : Hid (w5.ownsRow w1.heap.size 5 1 (.slice A5 (m + 1) c5) (m + 1) (cells8 (padTo l (m + 1)))) := by
        show World.ownsRow _ _ _ _ _ _ _
        rw [padTo_next l m (by rw [HL.out]; exact hm1), cells8_append]
        exact H5.out
      clear H H5 ht1 ht2
      go_wp2
      go_roundw
      case rel => exact ⟨m + 1, A5, c5, by omega, by omega, rfl, H6, hB.trans hb5⟩
      case measure => simp [slen]; omega
    · have HM := Lib.hid (show m = n + 1 + padZ n by omega)
      have hmb : m ≤ 1048640 := by omega
      have hBw : Below w.heap.size w wr := hb1.trans (hB.mono (Nat.le_of_lt hlt))
      have HKr := Lib.hid (HK.out.below hB hlt)
      have hltr : w.heap.size < wr.heap.size := Nat.lt_of_lt_of_le hlt hB.size
      obtain ⟨wz, rfl⟩ : ∃ x, x = wr := ⟨wr, rfl⟩
      have ht1 : ((m : Int) % 64 == 56) = true := by
        have := pad_end n
        rw [← HM.out] at this
        rw [beq_iff_eq]; omega
      have ht2 : ((m : Int) % 64 != 56) = false := by simp only [bne, ht1]; rfl
      have HE := Lib.hid (padTo_end l)
      clear HK HA
      go_wp2_with fail
      have hput := refput_any (8 * n) 8 wz (by omega)
      rw [show ((8 * n : Nat) : Int) = 8 * (n : Int) by omega] at hput
      have e8 : (min (max (8 : Int) 0) 8).toNat = 8 := by decide
      rw [e8] at hput
      have HP := Lib.hid hput
      clear hput e8
      refine HP.out.mono ?_
      rintro e w7 ⟨v7, rfl, hown7, hb7⟩
      obtain ⟨A7, c7, rfl, hbs7⟩ := Bs.of_own hown7
      have H7 := Lib.hid hbs7
      have HO := Lib.hid (own_below H.out hb7)
      clear hown7 hbs7 HP H
      go_wp2_with (at_builtin; refine wpList_app el8 rfl _ _ rfl w1.heap.size _ m _ rfl HO.out A7 8 c7 (cells8 (putN (8 * n) 8)) rfl (by rw [cells8_length, putN_length]) ?_ H7.out.news (cells8_one _) (by simp only [maxLen]; omega) (by omega) (Nat.le_trans hB.size hb7.size) ?_)
      · exact fun h => absurd (H7.out.nil h) (by have := H7.out.cap; omega)
      intro v8 w8 hown8 hg8 _
      have hb8 : Below w1.heap.size w7 w8 := below_of_grown HO.out (Nat.le_trans hB.size hb7.size) hg8
      rw [← cells8_append] at hown8
      have hown8' : w8.ownsRow w1.heap.size 5 1 v8 (m + 8) (cells8 (padded l)) := by
        have e1 := HE.out
        rw [HL.out, ← HM.out] at e1
        rw [← e1]
        exact hown8
      obtain ⟨A8, c8, rfl, hbs8⟩ := Bs.of_own hown8'
      have H8 := Lib.hid hbs8
      have hB18 : Below w1.heap.size w1 w8 := (hB.trans (hb7.mono hB.size)).trans hb8
      have hBw8 : Below w.heap.size w w8 := hb1.trans (hB18.mono (by have := hb1.size; omega))
      have HK8 := Lib.hid (HKr.out.below (hb7.mono (Nat.le_refl _)) hltr |>.below hb8 hlt)
      clear hown8 hown8' hbs8 hg8 HO H7 hb8 HE ht1 ht2
      have HM64 := Lib.hid (show (m + 8) % 64 = 0 by have := pad_end n; rw [← HM.out] at this; omega)
      have HPL := Lib.hid (show (padded l).length = m + 8 by rw [padded_length, HL.out]; have := HM.out; omega)
      have hlt8 : w.heap.size < w8.heap.size := Nat.lt_of_lt_of_le hlt hB18.size
      clear HKr hB hb7 hB18 HM
      go_wp2
      go_loopw [4, 5] (fun s i wr => ∃ k j : Nat, ∃ A' c', j ≤ m + 8 ∧ i = .int .i64 j ∧ s = .slice A' 8 c' ∧ Hid (j = 64 * k) ∧ Hid (Us wr wr.heap.size A' 8 c' (foldB (padded l) k).list) ∧ Below w8.heap.size w8 wr) (fun _ i _ => m + 8 - (intOf i).toNat)
      case atStart =>
        refine ⟨0, 0, some ⟨w8.heap.size, 0, none⟩, 8, Nat.zero_le _, rfl, rfl, rfl, ?_, (Below.refl _ _).alloc (Nat.le_refl _) _⟩
        exact st0_laid w8
      case round =>
        obtain ⟨k, j, A', c', hj, rfl, rfl, HJ, HU, hbr⟩ := hrel
        by_cases hlt3 : j < m + 8
        · have hj64 : j + 64 ≤ m + 8 := by have := HJ.out; have := HM64.out; omega
          have HF : Hid (foldB (padded l) (k + 1) = stepS (foldB (padded l) k) (((padded l).take (j + 64)).drop j)) := by show _ = _; rw [HJ.out]; rfl
          have hbx := H8.out.below hbr
          go_wp2_with (with_reducible refine wpList_cut_lh (o := ⟨some 42, _, _, _, _, _⟩) el8 rfl _ _ _ rfl rfl hbx _ _ _ _ j (j + 64) rfl rfl rfl (by omega) (by omega) (by omega) ?_)
          intro A1 m1 d1 h1
          obtain rfl : m1 = 64 := by have := h1.len; simp [HPL.out] at this; omega
          have H1 := Lib.hid (h1.more (B' := wr.heap.size) hbr.size)
          clear h1 hbx
          go_wp2_with fail
          refine (step_any _ _ _ _ _ _ _ HU.out H1.out).mono ?_
          rintro e w9 ⟨v9, rfl, hown9, hb9⟩
          obtain ⟨A9, c9, rfl, hu9⟩ := Us.of_own hown9
          have HU9 : Hid (Us w9 w9.heap.size A9 8 c9 (foldB (padded l) (k + 1)).list) := by
            show Us _ _ _ _ _ _
            rw [HF.out]
            exact hu9
          clear hown9 hu9 HU HF H1
          go_wp2
          go_roundw
          case rel => exact ⟨k + 1, j + 64, A9, c9, by omega, by go_num, rfl, by have := HJ.out; show _ = _; omega, HU9, hbr.trans (hb9.mono hbr.size)⟩
          case measure => simp [intOf]; omega
        · have HJ2 := Lib.hid (show j = m + 8 by omega)
          have HDG : Hid (shaL l = digestL (foldB (padded l) k)) := by
            show _ = _
            unfold shaL
            rw [show (padded l).length / 64 = k by rw [HPL.out]; have := HJ.out; have := HJ2.out; omega]
          generalize foldB (padded l) k = S at *
          have HKb := Lib.hid (HK8.out.below hbr hlt8)
          have hltb : w.heap.size < wr.heap.size := Nat.lt_of_lt_of_le hlt8 hbr.size
          have hBwb : Below w.heap.size w wr := hBw8.trans (hbr.mono (Nat.le_of_lt hlt8))
          obtain ⟨wb, rfl⟩ : ∃ x, x = wr := ⟨wr, rfl⟩
          clear HJ HJ2 HM64 HPL H8 HK8 hbr hBw8 hBw hb1 hltr
          go_wp2_with (with_reducible refine wpList_alloc (o := ⟨some 6, _, _, _, _, _⟩) tyDig rfl rfl ?_)
          intro w10 hk10 hb10 hs10
          have HK10 := Lib.hid hk10
          have hlt10 : wb.heap.size < w10.heap.size := hk10.lt
          clear hk10 hs10
          go_wp2_with (with_reducible refine wpList_store (o := ⟨none, _, _, _, _, _⟩) (vs := zero32) rwDig rfl (.tmp 6) (.tmp 44) rfl rfl ?_ HK10.out ?_ ?_ ?_ ?_)
          · rfl
          · rfl
          · decide
          · exact cells8_one _
          intro w11 hk11 ho11
          have hk12 : Blk w11 wb.heap.size 23 (cells8 (outAt (digestL S) (4 * 0))) := by
            have e1 : zero32.take 0 ++ zero32 ++ zero32.drop (0 + 32) = cells8 (outAt (digestL S) (4 * 0)) := by
              simp [outAt, zero32, cells8]
            rw [← e1]; exact hk11
          have hB11 : Below wb.heap.size wb w11 := hb10.trans (ho11.below (Nat.le_refl _))
          have hlt11 : wb.heap.size < w11.heap.size := hk12.lt
          clear hk11 ho11 hb10 HK10 hlt10
          go_wp2
          go_loopw [7] (fun v wr => ∃ i : Nat, i ≤ 8 ∧ v = .int .i64 i ∧ Hid (Blk wr wb.heap.size 23 (cells8 (outAt (digestL S) (4 * i)))) ∧ Below wb.heap.size wb wr ∧ wb.heap.size < wr.heap.size) (fun v _ => 8 - (intOf v).toNat)
          case atStart => exact ⟨0, Nat.zero_le _, rfl, hk12, hB11, hlt11⟩
          case round =>
            clear hk12 hB11 hlt11
            obtain ⟨i, hi, rfl, HB, hbr, hltr⟩ := hrel
            by_cases hlt4 : i < 8
            · obtain ⟨gs, os, rfl, hgs, hcs⟩ := (HU.out.below hbr).getD hlt4
              have HDD := Lib.hid (fun k (hk : k < 4) => digest_at S i k hlt4 hk)
              generalize S.list.getD i 0 = x at *
              go_wp2_with fail
              rw [u64_of_u32 x]
              have hput := refput_any x.toNat 4 wr (u32_lt64 x)
              have e4 : (min (max (4 : Int) 0) 8).toNat = 4 := by decide
              rw [e4] at hput
              have HP := Lib.hid hput
              clear hput e4
              refine HP.out.mono ?_
              rintro e wp ⟨vp, rfl, hownp, hbp⟩
              obtain ⟨gx, cx, rfl, _, hgx, _⟩ := own_some hownp (by omega)
              have HX := Lib.hid hownp
              have HBp := Lib.hid (HB.out.below hbp hltr)
              clear HP hownp HB
              go_wp2
              go_loopw [9] (fun v wq => ∃ k : Nat, k ≤ 4 ∧ v = .int .i64 k ∧ Hid (Blk wq wb.heap.size 23 (cells8 (outAt (digestL S) (4 * i + k)))) ∧ Only wb.heap.size wp wq) (fun v _ => 4 - (intOf v).toNat)
              case atStart => exact ⟨0, Nat.zero_le _, rfl, HBp, Only.refl _ _⟩
              case round =>
                clear HBp
                obtain ⟨k, hk, rfl, HB, ho⟩ := hrel
                by_cases hlt5 : k < 4
                · have hcx : wr.cell? ⟨gx, k, none⟩ = some (.int .u8 (((digestL S).getD (4 * i + k) 0).toNat : Int)) := by
                    have h1 := HDD.out k hlt5
                    have h2 := HX.out.cells (g := gx) rfl k (.int .u8 (((digestL S).getD (4 * i + k) 0).toNat : Int)) (by simp only [cells8, List.getElem?_map, h1]; rfl)
                    rw [Addr.add_lit, Nat.zero_add] at h2
                    rw [← h2]
                    exact World.cell?_of_block (w := wp) (ho.block gx (by omega))
                  have hle : 4 * i + k < (cells8 (outAt (digestL S) (4 * i + k))).length := by rw [cells8_length, outAt_length _ (digestL_length S) _ (by omega)]; omega
                  have hco := HB.out.cell hle
                  have hfo := HB.out.frozen (4 * i + k)
                  have HSet := Lib.hid (outAt_set (digestL S) (digestL_length S) (4 * i + k) (by omega))
                  generalize (digestL S).getD (4 * i + k) 0 = y at *
                  generalize hq : (cells8 (outAt (digestL S) (4 * i + k)))[4 * i + k]'hle = q at hco
                  clear hq hle
                  go_wp2
                  refine ⟨⟨k + 1, by omega, by go_num, ?_, ho.trans (Only.setCell wr ⟨wb.heap.size, _, none⟩ _)⟩, by simp [intOf]; omega⟩
                  have h3 := HB.out.set (4 * i + k) (.int .u8 (y.toNat : Int))
                  rw [HSet.out] at h3
                  exact h3
                · have HK4 := Lib.hid (show k = 4 by omega)
                  have HB4 : Hid (Blk wr wb.heap.size 23 (cells8 (outAt (digestL S) (4 * (i + 1))))) := by
                    have h1 := HB.out
                    rw [HK4.out] at h1
                    exact h1
                  have hb4 : Below wb.heap.size wb wr := (hbr.trans (hbp.mono (Nat.le_of_lt hltr))).trans (ho.below (Nat.le_refl _))
                  have hl4 : wb.heap.size < wr.heap.size := by have := ho.size; have := hbp.size; omega
                  clear HB ho HX HDD hcs
                  go_wp2
                  go_roundw
                  case rel => exact ⟨i + 1, by omega, by go_num, HB4, hb4, hl4⟩
                  case measure => simp [intOf]; omega
            · have HI8 := Lib.hid (show i = 8 by omega)
              have HB8 : Hid (Blk wr wb.heap.size 23 (cells8 (shaL l))) := by
                have h1 := HB.out
                rw [HI8.out] at h1
                rw [show (4 * 8 : Nat) = 32 from rfl, outAt_end _ (digestL_length S), ← HDG.out] at h1
                exact h1
              have HLen := Lib.hid (show (cells8 (shaL l)).length = 32 by rw [cells8_length, HDG.out, digestL_length])
              have HKr := Lib.hid (HKb.out.below hbr hltb)
              clear HB
              go_wp2_with (first
                | (with_reducible refine wpList_loadAll (o := ⟨some 68, _, _, _, _, _⟩) rwDig rfl (.tmp 6) rfl rfl HB8.out HLen.out ?_)
                | (with_reducible refine wpList_storeAll (o := ⟨none, _, _, _, _, _⟩) (vs := cells8 (shaL l)) rwDig rfl (.tmp 2) (.tmp 68) rfl rfl HKr.out rfl HLen.out (cells8_one _) rfl ?_))
              intro w13 hk14 ho13
              have HK14 := Lib.hid hk14
              clear hk14
              go_wp2
              exact ret_arr rfl rwDig rfl HK14.out HLen.out rfl ⟨rfl, (hBwb.trans (hbr.mono (Nat.le_of_lt hltb))).trans (ho13.below (Nat.le_refl _))⟩
end Go.Proofs.Ytjllfaeamjadcaa

namespace Go.Proofs.Ytjllfaeamjadcaa
open Go.RowKit

set_option maxHeartbeats 1000000 in
theorem slice_any (D : List UInt8) (hD : D.length = 32) (w : World) :
    Calls Try.prog 41 #[.agg (cells8 D).toArray] w fun e w' => ∃ v, e = .returned v ∧ w'.ownsRow (w.heap.size + 1) 5 1 v 32 (cells8 D) ∧ Below w.heap.size w w' := by
  have HB0 : Kp _ := ⟨Blk.new w 23 (cells8 D)⟩
  have HD : Kp _ := ⟨hD⟩
  clear hD
  go_enter Try.func41, Try.ntmps41
  go_wp2_with fail
  go_loopw [3, 4] (fun v i wr => ∃ k : Nat, k ≤ 32 ∧ i = .int .i64 k ∧ Hid (wr.ownsRow (w.heap.size + 1) 5 1 v k (cells8 (D.take k))) ∧ Below (w.heap.size + 1) (w.alloc (.cells (cells8 D).toArray 23)) wr) (fun _ i _ => 32 - (intOf i).toNat)
  case atStart => exact ⟨0, Nat.zero_le _, rfl, own_nil _ _ _, Below.refl _ _⟩
  case round =>
    obtain ⟨k, hk, rfl, H, hB⟩ := hrel
    by_cases hlt : k < 32
    · have hkD : k < D.length := by rw [HD.out]; exact hlt
      have hc : wr.cell? ⟨w.heap.size, k, none⟩ = some (.int .u8 (D[k].toNat : Int)) := by
        rw [(HB0.out.below hB (by omega)).cell? k, cells8_at D k hkD]
      have HT : Kp _ := ⟨List.take_succ_eq_append_getElem hkD⟩
      generalize D[k] = x at *
      go_wp2_with (at_builtin; refine wpList_app1 el8 rfl _ _ rfl (w.heap.size + 1) _ k _ rfl H.out rfl rfl (by simp only [maxLen]; omega) (by omega) (by have := hB.size; simpa using this) ?_)
      intro v' w' H' hb' _ _
      have H2 : Hid (w'.ownsRow (w.heap.size + 1) 5 1 v' (k + 1) (cells8 (D.take (k + 1)))) := by
        show World.ownsRow _ _ _ _ _ _ _
        rw [HT.out, cells8_append]
        exact H'.out
      clear H H'
      go_wp2
      go_roundw
      case rel => exact ⟨k + 1, by omega, by go_num, H2, hB.trans hb'⟩
      case measure => simp [intOf]; omega
    · obtain rfl : k = 32 := by omega
      have H2 : Hid (wr.ownsRow (w.heap.size + 1) 5 1 u3 32 (cells8 D)) := by
        have h1 := H.out
        rw [List.take_of_length_le (by rw [HD.out]; exact Nat.le_refl _)] at h1
        exact h1
      clear H
      go_wp2
      go_ret
      exact ⟨_, rfl, H2.out, ((Below.refl _ _).alloc (Nat.le_refl _) _).trans (hB.mono (by omega))⟩

/-- a key's pad: its bytes and noughts, each with a byte -/
def padK (key : List UInt8) (c : UInt8) (j : Nat) : List UInt8 := (List.range j).map fun i => (key.getD i 0) ^^^ c
theorem padK_succ (key : List UInt8) (c : UInt8) (j : Nat) : padK key c (j + 1) = padK key c j ++ [key.getD j 0 ^^^ c] := by
  simp [padK, List.range_succ]
theorem padK_length (key : List UInt8) (c : UInt8) (j : Nat) : (padK key c j).length = j := by simp [padK]
theorem u8_xor (a b : UInt8) : bits .xor .u8 (a.toNat : Int) (b.toNat : Int) = ((a ^^^ b).toNat : Int) := by
  rw [u8_xor_nat _ _ a.toNat_lt b.toNat_lt, UInt8.toNat_xor]

section
attribute [local go_sem] u8_xor
set_option maxHeartbeats 1000000 in
theorem refpad_any (A : Option Addr) (n d : Nat) (key : List UInt8) (c : UInt8) (w : World) (L : Nat) (hL : L ≤ w.heap.size) (ha : Bs w L A n d key) :
    Calls Try.prog 43 #[.slice A n d, .int .u8 c.toNat] w fun e w' => ∃ v, e = .returned v ∧ w'.ownsRow w.heap.size 5 1 v 64 (cells8 (padK key c 64)) ∧ Below w.heap.size w w' := by
  have hn := ha.le
  have HA : Kp _ := ⟨ha⟩
  have HN : Kp _ := ⟨ha.len⟩
  clear ha
  go_enter Try.func43, Try.ntmps43
  go_wp2_with fail
  go_loopw [5, 6] (fun v i wr => ∃ k : Nat, k ≤ 64 ∧ i = .int .i64 k ∧ Hid (wr.ownsRow w.heap.size 5 1 v k (cells8 (padK key c k))) ∧ Below w.heap.size w wr) (fun _ i _ => 64 - (intOf i).toNat)
  case atStart => exact ⟨0, Nat.zero_le _, rfl, own_nil _ _ _, Below.refl _ _⟩
  case round =>
    obtain ⟨k, hk, rfl, H, hB⟩ := hrel
    by_cases hlt : k < 64
    · have HS : Kp _ := ⟨padK_succ key c k⟩
      by_cases hkn : k < n
      · have hky : k < key.length := by rw [HN.out]; exact hkn
        obtain ⟨b, o, rfl, _, hc⟩ := (HA.out.below (hB.mono hL)).cell hkn
        have HX : Kp (key.getD k 0 = key[k]) := ⟨by simp [List.getD, List.getElem?_eq_getElem hky]⟩
        rw [← HX.out] at hc
        generalize key.getD k 0 = x at *
        go_wp2_with (at_builtin; refine wpList_app1 el8 rfl _ _ rfl w.heap.size _ k _ rfl H.out rfl rfl (by simp only [maxLen]; omega) (by omega) hB.size ?_)
        intro v' w' H' hb' _ _
        have H2 : Hid (w'.ownsRow w.heap.size 5 1 v' (k + 1) (cells8 (padK key c (k + 1)))) := by
          show World.ownsRow _ _ _ _ _ _ _
          rw [HS.out, cells8_append]
          exact H'.out
        clear H H'
        go_wp2
        go_roundw
        case rel => exact ⟨k + 1, by omega, by go_num, H2, hB.trans hb'⟩
        case measure => simp [intOf]; omega
      · have HX : Kp (key.getD k 0 = 0) := ⟨by simp [List.getD, List.getElem?_eq_none (show key.length ≤ k by rw [HN.out]; omega)]⟩
        rw [HX.out, UInt8.zero_xor] at HS
        have hx0 : bits .xor .u8 (0 : Int) (c.toNat : Int) = (c.toNat : Int) := by have := u8_xor 0 c; rwa [UInt8.zero_xor] at this
        go_wp2_with (at_builtin; refine wpList_app1 el8 rfl _ _ rfl w.heap.size _ k _ rfl H.out rfl rfl (by simp only [maxLen]; omega) (by omega) hB.size ?_)
        intro v' w' H' hb' _ _
        have H2 : Hid (w'.ownsRow w.heap.size 5 1 v' (k + 1) (cells8 (padK key c (k + 1)))) := by
          show World.ownsRow _ _ _ _ _ _ _
          rw [HS.out, cells8_append]
          exact H'.out
        clear H H'
        go_wp2
        go_roundw
        case rel => exact ⟨k + 1, by omega, by go_num, H2, hB.trans hb'⟩
        case measure => simp [intOf]; omega
    · obtain rfl : k = 64 := by omega
      go_wp2
      go_ret
      exact ⟨_, rfl, H.out, hB⟩
end
end Go.Proofs.Ytjllfaeamjadcaa

namespace Go.Proofs.Ytjllfaeamjadcaa
open Go.RowKit

/-- a key of more than a block is its digest -/
def keyL (key : List UInt8) : List UInt8 := if 64 < key.length then shaL key else key
/-- HMAC-SHA256 -/
def hmacL (key b : List UInt8) : List UInt8 := shaL (padK (keyL key) 92 64 ++ shaL (padK (keyL key) 54 64 ++ b))
theorem shaL_len (l : List UInt8) : (shaL l).length = 32 := by unfold shaL; rw [digestL_length]

set_option maxRecDepth 100000 in
set_option maxHeartbeats 4000000 in
theorem reftag_any (A : Option Addr) (n c : Nat) (key : List UInt8) (B : Option Addr) (m d : Nat) (b : List UInt8) (w : World) (ha : Bs w w.heap.size A n c key) (hb : Bs w w.heap.size B m d b) (hn : n ≤ 1048000) (hm : m ≤ 1048000) :
    Calls Try.prog 29 #[.slice A n c, .slice B m d] w fun e w' => e = .returned (.agg (cells8 (hmacL key b)).toArray) ∧ Below w.heap.size w w' := by
  have HA : Kp _ := ⟨ha⟩
  have HB : Kp _ := ⟨hb⟩
  have HN : Kp _ := ⟨ha.len⟩
  have HM : Kp _ := ⟨hb.len⟩
  clear ha hb
  go_enter Try.func29, Try.ntmps29
  go_wp2_with (with_reducible refine wpList_alloc (o := ⟨some 4, _, _, _, _, _⟩) tyDig rfl rfl ?_)
  intro w0 hk0 hB0 hs0
  have HA0 : Kp _ := ⟨HA.out.next hB0 (Nat.le_refl _)⟩
  have HB0 : Kp _ := ⟨HB.out.next hB0 (Nat.le_refl _)⟩
  have HK0 : Kp _ := ⟨hk0⟩
  have hlt0 := hk0.lt
  clear hk0 HA HB hs0
  by_cases h64 : (64 : Int) < (n : Int)
  · have HK : Kp (keyL key = shaL key) := ⟨by unfold keyL; rw [if_pos (by rw [HN.out]; omega)]⟩
    go_wp2_with fail
    refine (refsum_any _ _ _ _ _ HA0.out (by omega)).mono ?_
    rintro e w1 ⟨rfl, hB1⟩
    have HB1 : Kp _ := ⟨HB0.out.next hB1 (Nat.le_refl _)⟩
    have HK1 : Kp _ := ⟨HK0.out.below hB1 hlt0⟩
    have hs1 := hB1.size
    go_wp2_with fail
    refine (slice_any _ (shaL_len _) _).mono ?_
    rintro e w2 ⟨v2, rfl, hown2, hB2⟩
    obtain ⟨A2, c2, rfl, hbs2⟩ := Bs.of_own hown2
    have HB2 : Kp _ := ⟨HB1.out.next hB2 (Nat.le_refl _)⟩
    have HKc : Kp _ := ⟨HK1.out.below hB2 (by omega)⟩
    have hs2 := hB2.size
    have hlt2 : w.heap.size < w2.heap.size := by omega
    have hle2 : w.heap.size ≤ w2.heap.size := by omega
    have HA2 : Kp (Bs w2 w2.heap.size A2 32 c2 (keyL key)) := ⟨by rw [HK.out]; exact hbs2⟩
    have hB12 := below_next hB0 (below_next hB1 hB2)
    clear hown2 hbs2 hB1 hB2 HA0 HB0 HB1 HK0 HK1 HN HK hB0
    go_wp2_with fail
    refine ((refpad_any _ _ _ _ 54 _ _ (Nat.le_refl _) HA2.out) : Calls _ _ #[_, .int .u8 54] _ _).mono ?_
    rintro e w3 ⟨v3, rfl, hown3, hB3⟩
    have H3 : Kp _ := ⟨hown3⟩
    have HA3 := HA2
    have HB3 : Kp _ := ⟨HB2.out.below hB3⟩
    have HK3 : Kp _ := ⟨HKc.out.below hB3 hlt2⟩
    have hs3 := hB3.size
    have hB13 := below_next hB12 hB3
    clear hown3 HA2 HB2 HKc hB12
    go_wp2_with (at_builtin; refine wpList_app el8 rfl _ _ rfl w2.heap.size _ 64 (cells8 (padK (keyL key) 54 64)) rfl H3.out B m d (cells8 b) rfl (by rw [cells8_length, HM.out]) ?_ HB3.out.news (cells8_one _) (by simp only [maxLen]; omega) (by omega) hs3 ?_)
    · exact fun h => ⟨by have := HB3.out.nil h; have := HB3.out.cap; omega, HB3.out.nil h⟩
    intro v4 w4 hown4 hg4 _
    have hb4 : Below w2.heap.size w3 w4 := below_of_grown H3.out hs3 hg4
    rw [← cells8_append] at hown4
    obtain ⟨A4, c4, rfl, hbs4⟩ := Bs.of_own hown4
    have H4 : Kp _ := ⟨hbs4⟩
    have hB4 : Below w2.heap.size w2 w4 := hB3.trans hb4
    have HA4 : Kp (Bs w4 w4.heap.size A2 32 c2 (keyL key)) := ⟨(HA3.out.below hB4).more hB4.size⟩
    have HK4 : Kp _ := ⟨HK3.out.below hb4 hlt2⟩
    have hB14 := hB13.trans (hb4.mono hle2)
    have hs4 := hB4.size
    clear hown4 hg4 hbs4 H3 HB3 HA3 HK3 hB13 hb4 hB3 hs3
    go_wp2_with fail
    refine ((refpad_any _ _ _ _ 92 _ _ (Nat.le_refl _) HA4.out) : Calls _ _ #[_, .int .u8 92] _ _).mono ?_
    rintro e w5 ⟨v5, rfl, hown5, hB5⟩
    have H5 : Kp _ := ⟨hown5⟩
    have H45 : Kp _ := ⟨H4.out.next hB5 (Nat.le_refl _)⟩
    have HK5 : Kp _ := ⟨HK4.out.below hB5 (by omega)⟩
    have hB15 := hB14.trans (hB5.mono (by have := hB14.size; omega))
    have hs5 := hB5.size
    clear hown5 H4 HA4 HK4 hB14
    go_wp2_with fail
    refine (refsum_any _ _ _ _ _ H45.out (by omega)).mono ?_
    rintro e w6 ⟨rfl, hB6⟩
    have H6 : Kp _ := ⟨own_below H5.out hB6⟩
    have HK6 : Kp _ := ⟨HK5.out.below hB6 (by omega)⟩
    have hB16 := hB15.trans (hB6.mono (by omega))
    have hs6 := hB6.size
    clear H5 H45 HK5 hB15
    go_wp2_with fail
    refine (slice_any _ (shaL_len _) _).mono ?_
    rintro e w7 ⟨v7, rfl, hown7, hB7⟩
    obtain ⟨A7, c7, rfl, hbs7⟩ := Bs.of_own hown7
    have H77 : Kp _ := ⟨hbs7⟩
    have H7 : Kp _ := ⟨own_below H6.out hB7⟩
    have HK7 : Kp _ := ⟨HK6.out.below hB7 (by omega)⟩
    have hB17 := hB16.trans (hB7.mono (by omega))
    have hs7 := hB7.size
    clear hown7 hbs7 H6 HK6 hB16
    go_wp2_with (at_builtin; refine wpList_app el8 rfl _ _ rfl w4.heap.size _ 64 (cells8 (padK (keyL key) 92 64)) rfl H7.out A7 32 c7 (cells8 (shaL (padK (keyL key) 54 64 ++ b))) rfl (by rw [cells8_length, shaL_len]) ?_ H77.out.news (cells8_one _) (by simp only [maxLen]; omega) (by omega) (by omega) ?_)
    · exact fun h => absurd (H77.out.nil h) (by have := H77.out.cap; omega)
    intro v8 w8 hown8 hg8 _
    have hb8 : Below w4.heap.size w7 w8 := below_of_grown H7.out (by omega) hg8
    rw [← cells8_append] at hown8
    obtain ⟨A8, c8, rfl, hbs8⟩ := Bs.of_own hown8
    have H8 : Kp _ := ⟨hbs8⟩
    have HK8 : Kp _ := ⟨HK7.out.below hb8 (by omega)⟩
    have hB18 := hB17.trans (hb8.mono (by omega))
    have hs8 := hb8.size
    clear hown8 hg8 hbs8 H7 H77 HK7 hB17
    go_wp2_with fail
    refine (refsum_any _ _ _ _ _ H8.out (by omega)).mono ?_
    rintro e w9 ⟨rfl, hB9⟩
    have HK9 : Kp _ := ⟨HK8.out.below hB9 (by omega)⟩
    have hB19 := hB18.trans (hB9.mono (by omega))
    have HLen : Kp ((cells8 (hmacL key b)).length = 32) := ⟨by rw [cells8_length]; exact shaL_len _⟩
    have e9 : shaL (padK (keyL key) 92 64 ++ shaL (padK (keyL key) 54 64 ++ b)) = hmacL key b := rfl
    rw [e9]
    clear e9 H8 HK8 hB18
    obtain ⟨R, hR⟩ : ∃ R, R = hmacL key b := ⟨_, rfl⟩
    rw [← hR] at HLen ⊢
    have HR : Kp _ := ⟨hR⟩
    clear hR
    go_wp2_with (with_reducible refine wpList_storeAll (o := ⟨none, _, _, _, _, _⟩) (vs := cells8 R) rwDig rfl (.tmp 4) (.tmp 26) rfl rfl HK9.out rfl HLen.out (cells8_one _) rfl ?_)
    intro w10 hk10 ho10
    have HK10 : Kp _ := ⟨hk10⟩
    clear hk10
    go_wp2
    exact ret_arr rfl rwDig rfl HK10.out HLen.out rfl ⟨by rw [HR.out], hB19.trans (ho10.below (Nat.le_refl _))⟩
  · have HK : Kp (keyL key = key) := ⟨by unfold keyL; rw [if_neg (by rw [HN.out]; omega)]⟩
    have hB12 := hB0
    have HA2 : Kp (Bs w0 w0.heap.size A n c (keyL key)) := ⟨by rw [HK.out]; exact HA0.out⟩
    have HB2 := HB0
    have HKc := HK0
    have hlt2 : w.heap.size < w0.heap.size := hlt0
    have hle2 : w.heap.size ≤ w0.heap.size := Nat.le_of_lt hlt0
    clear HA0 HB0 HK0 HK hB0 HN
    go_wp2_with fail
    refine ((refpad_any _ _ _ _ 54 _ _ (Nat.le_refl _) HA2.out) : Calls _ _ #[_, .int .u8 54] _ _).mono ?_
    rintro e w3 ⟨v3, rfl, hown3, hB3⟩
    have H3 : Kp _ := ⟨hown3⟩
    have HA3 := HA2
    have HB3 : Kp _ := ⟨HB2.out.below hB3⟩
    have HK3 : Kp _ := ⟨HKc.out.below hB3 hlt2⟩
    have hs3 := hB3.size
    have hB13 := below_next hB12 hB3
    clear hown3 HA2 HB2 HKc hB12
    go_wp2_with (at_builtin; refine wpList_app el8 rfl _ _ rfl w0.heap.size _ 64 (cells8 (padK (keyL key) 54 64)) rfl H3.out B m d (cells8 b) rfl (by rw [cells8_length, HM.out]) ?_ HB3.out.news (cells8_one _) (by simp only [maxLen]; omega) (by omega) hs3 ?_)
    · exact fun h => ⟨by have := HB3.out.nil h; have := HB3.out.cap; omega, HB3.out.nil h⟩
    intro v4 w4 hown4 hg4 _
    have hb4 : Below w0.heap.size w3 w4 := below_of_grown H3.out hs3 hg4
    rw [← cells8_append] at hown4
    obtain ⟨A4, c4, rfl, hbs4⟩ := Bs.of_own hown4
    have H4 : Kp _ := ⟨hbs4⟩
    have hB4 : Below w0.heap.size w0 w4 := hB3.trans hb4
    have HA4 : Kp (Bs w4 w4.heap.size A n c (keyL key)) := ⟨(HA3.out.below hB4).more hB4.size⟩
    have HK4 : Kp _ := ⟨HK3.out.below hb4 hlt2⟩
    have hB14 := hB13.trans (hb4.mono hle2)
    have hs4 := hB4.size
    clear hown4 hg4 hbs4 H3 HB3 HA3 HK3 hB13 hb4 hB3 hs3
    go_wp2_with fail
    refine ((refpad_any _ _ _ _ 92 _ _ (Nat.le_refl _) HA4.out) : Calls _ _ #[_, .int .u8 92] _ _).mono ?_
    rintro e w5 ⟨v5, rfl, hown5, hB5⟩
    have H5 : Kp _ := ⟨hown5⟩
    have H45 : Kp _ := ⟨H4.out.next hB5 (Nat.le_refl _)⟩
    have HK5 : Kp _ := ⟨HK4.out.below hB5 (by omega)⟩
    have hB15 := hB14.trans (hB5.mono (by have := hB14.size; omega))
    have hs5 := hB5.size
    clear hown5 H4 HA4 HK4 hB14
    go_wp2_with fail
    refine (refsum_any _ _ _ _ _ H45.out (by omega)).mono ?_
    rintro e w6 ⟨rfl, hB6⟩
    have H6 : Kp _ := ⟨own_below H5.out hB6⟩
    have HK6 : Kp _ := ⟨HK5.out.below hB6 (by omega)⟩
    have hB16 := hB15.trans (hB6.mono (by omega))
    have hs6 := hB6.size
    clear H5 H45 HK5 hB15
    go_wp2_with fail
    refine (slice_any _ (shaL_len _) _).mono ?_
    rintro e w7 ⟨v7, rfl, hown7, hB7⟩
    obtain ⟨A7, c7, rfl, hbs7⟩ := Bs.of_own hown7
    have H77 : Kp _ := ⟨hbs7⟩
    have H7 : Kp _ := ⟨own_below H6.out hB7⟩
    have HK7 : Kp _ := ⟨HK6.out.below hB7 (by omega)⟩
    have hB17 := hB16.trans (hB7.mono (by omega))
    have hs7 := hB7.size
    clear hown7 hbs7 H6 HK6 hB16
    go_wp2_with (at_builtin; refine wpList_app el8 rfl _ _ rfl w4.heap.size _ 64 (cells8 (padK (keyL key) 92 64)) rfl H7.out A7 32 c7 (cells8 (shaL (padK (keyL key) 54 64 ++ b))) rfl (by rw [cells8_length, shaL_len]) ?_ H77.out.news (cells8_one _) (by simp only [maxLen]; omega) (by omega) (by omega) ?_)
    · exact fun h => absurd (H77.out.nil h) (by have := H77.out.cap; omega)
    intro v8 w8 hown8 hg8 _
    have hb8 : Below w4.heap.size w7 w8 := below_of_grown H7.out (by omega) hg8
    rw [← cells8_append] at hown8
    obtain ⟨A8, c8, rfl, hbs8⟩ := Bs.of_own hown8
    have H8 : Kp _ := ⟨hbs8⟩
    have HK8 : Kp _ := ⟨HK7.out.below hb8 (by omega)⟩
    have hB18 := hB17.trans (hb8.mono (by omega))
    have hs8 := hb8.size
    clear hown8 hg8 hbs8 H7 H77 HK7 hB17
    go_wp2_with fail
    refine (refsum_any _ _ _ _ _ H8.out (by omega)).mono ?_
    rintro e w9 ⟨rfl, hB9⟩
    have HK9 : Kp _ := ⟨HK8.out.below hB9 (by omega)⟩
    have hB19 := hB18.trans (hB9.mono (by omega))
    have HLen : Kp ((cells8 (hmacL key b)).length = 32) := ⟨by rw [cells8_length]; exact shaL_len _⟩
    have e9 : shaL (padK (keyL key) 92 64 ++ shaL (padK (keyL key) 54 64 ++ b)) = hmacL key b := rfl
    rw [e9]
    clear e9 H8 HK8 hB18
    obtain ⟨R, hR⟩ : ∃ R, R = hmacL key b := ⟨_, rfl⟩
    rw [← hR] at HLen ⊢
    have HR : Kp _ := ⟨hR⟩
    clear hR
    go_wp2_with (with_reducible refine wpList_storeAll (o := ⟨none, _, _, _, _, _⟩) (vs := cells8 R) rwDig rfl (.tmp 4) (.tmp 26) rfl rfl HK9.out rfl HLen.out (cells8_one _) rfl ?_)
    intro w10 hk10 ho10
    have HK10 : Kp _ := ⟨hk10⟩
    clear hk10
    go_wp2
    exact ret_arr rfl rwDig rfl HK10.out HLen.out rfl ⟨by rw [HR.out], hB19.trans (ho10.below (Nat.le_refl _))⟩
end Go.Proofs.Ytjllfaeamjadcaa

namespace Go.Proofs.Ytjllfaeamjadcaa
open Go.RowKit

theorem and31 (n : Nat) (h1 : 1 ≤ n) (h2 : n ≤ 31) : bits .and .u64 (IntKind.u64.wrap (-(n : Int))) 31 = ((32 - n : Nat) : Int) := by
  have e1 : IntKind.u64.wrap (-(n : Int)) = ((18446744073709551616 - n : Nat) : Int) := by
    rw [IntKind.wrap_u64]; omega
  rw [e1]
  have := u64_and_nat (18446744073709551616 - n) 31 (by omega) (by omega)
  rw [show ((31 : Nat) : Int) = (31 : Int) from rfl] at this
  rw [this]
  have e2 : (18446744073709551616 - n) &&& 31 = (18446744073709551616 - n) % 32 := Nat.and_two_pow_sub_one_eq_mod _ 5
  rw [e2]
  congr 1
  omega

theorem turnR_val' (x : UInt32) (n : Nat) : bits .or .u32 ((x.toNat : Int) * 2 ^ (32 - n) % 4294967296) ((x.toNat : Int) / 2 ^ n) = ((turnR x n).toNat : Int) := by
  rw [← turnR_val x n]
  have h1 : (x.toNat : Int) / 2 ^ n = ((x.toNat / 2 ^ n : Nat) : Int) := by simp
  have h2 : (x.toNat : Int) * 2 ^ (32 - n) % 4294967296 = ((x.toNat * 2 ^ (32 - n) % 4294967296 : Nat) : Int) := by simp
  rw [h1, h2]
  have l1 : x.toNat / 2 ^ n < 4294967296 := Nat.lt_of_le_of_lt (Nat.div_le_self _ _) x.toNat_lt
  have l2 : x.toNat * 2 ^ (32 - n) % 4294967296 < 4294967296 := Nat.mod_lt _ (by decide)
  rw [u32_or_nat _ _ l2 l1, u32_or_nat _ _ l1 l2, Nat.or_comm]

set_option maxHeartbeats 400000 in
theorem rot_any (x : UInt32) (n : Nat) (w : World) (h1 : 1 ≤ n) (h2 : n ≤ 31) :
    Calls Try.prog 65 #[.int .u32 x.toNat, .int .i64 (-(n : Int))] w fun e w' => e = .returned (.int .u32 (turnR x n).toNat) ∧ w' = w := by
  have hx : (x.toNat : Int) < 4294967296 := by have := x.toNat_lt; omega
  have HT := Lib.hid (turnR_val x n)
  have ha := and31 n h1 h2
  obtain ⟨m, hm⟩ : ∃ m : Nat, m = 32 - n := ⟨_, rfl⟩
  rw [← hm] at ha
  have hm1 : 1 ≤ m := by omega
  have hm2 : m ≤ 31 := by omega
  have HM := Lib.hid hm
  clear hm
  go_enter Try.func65, Try.ntmps65
  go_wp2
  go_ret
  refine ⟨?_, rfl⟩
  show Ending.returned (.int .u32 _) = _
  rw [HM.out, show 32 - (32 - n) = n by omega, turnR_val' x n]

set_option maxHeartbeats 400000 in
theorem turnp_any (x : UInt32) (n : Nat) (w : World) (h1 : 1 ≤ n) (h2 : n ≤ 31) :
    Calls Try.prog 64 #[.int .u32 x.toNat, .int .i64 (n : Int)] w fun e w' => e = .returned (.int .u32 (turnR x n).toNat) ∧ w' = w := by
  go_enter Try.func64, Try.ntmps64
  go_wp2_with fail
  refine (rot_any x n _ h1 h2).mono ?_
  rintro e w' ⟨rfl, rfl⟩
  go_wp2
  go_ret
  exact ⟨rfl, rfl⟩

theorem xor3u (p q r : UInt32) (z : Int) (hz : z = (r.toNat : Int)) : bits .xor .u32 (bits .xor .u32 (p.toNat : Int) (q.toNat : Int)) z = ((p ^^^ q ^^^ r).toNat : Int) := by
  rw [hz, u32_xor', u32_xor']
theorem ch_bits (x y z : UInt32) : (x &&& y) ^^^ ((4294967295 ^^^ x) &&& z) = chR x y z := by
  unfold chR
  apply UInt32.eq_of_toBitVec_eq
  apply BitVec.eq_of_getLsbD_eq
  intro i hi
  simp only [UInt32.toBitVec_xor, UInt32.toBitVec_and, UInt32.toBitVec_or, BitVec.getLsbD_xor, BitVec.getLsbD_and, BitVec.getLsbD_or]
  generalize x.toBitVec.getLsbD i = a
  generalize y.toBitVec.getLsbD i = b
  generalize z.toBitVec.getLsbD i = c
  have : (4294967295 : UInt32).toBitVec.getLsbD i = true := by
    show (BitVec.allOnes 32).getLsbD i = true
    rw [BitVec.getLsbD_allOnes]; simpa using hi
  rw [this]
  cases a <;> cases b <;> cases c <;> rfl
theorem mj_bits (x y z : UInt32) : (x &&& y) ^^^ (x &&& z) ^^^ (y &&& z) = mjR x y z := by
  unfold mjR
  apply UInt32.eq_of_toBitVec_eq
  apply BitVec.eq_of_getLsbD_eq
  intro i hi
  simp only [UInt32.toBitVec_xor, UInt32.toBitVec_and, UInt32.toBitVec_or, BitVec.getLsbD_xor, BitVec.getLsbD_and, BitVec.getLsbD_or]
  generalize x.toBitVec.getLsbD i = a
  generalize y.toBitVec.getLsbD i = b
  generalize z.toBitVec.getLsbD i = c
  cases a <;> cases b <;> cases c <;> rfl
theorem ch_val (x y z : UInt32) : bits .xor .u32 (bits .and .u32 (x.toNat : Int) (y.toNat : Int)) (bits .and .u32 (bits .xor .u32 IntKind.u32.max (x.toNat : Int)) (z.toNat : Int)) = ((chR x y z).toNat : Int) := by
  have e0 : IntKind.u32.max = (((4294967295 : UInt32).toNat : Nat) : Int) := rfl
  rw [e0, u32_xor', u32_and', u32_and', u32_xor', ch_bits]
theorem mj_val (x y z : UInt32) : bits .xor .u32 (bits .xor .u32 (bits .and .u32 (x.toNat : Int) (y.toNat : Int)) (bits .and .u32 (x.toNat : Int) (z.toNat : Int))) (bits .and .u32 (y.toNat : Int) (z.toNat : Int)) = ((mjR x y z).toNat : Int) := by
  rw [u32_and', u32_and', u32_and', u32_xor', u32_xor', mj_bits]

section
set_option maxHeartbeats 400000
theorem big1_any (x : UInt32) (w : World) : Calls Try.prog 57 #[.int .u32 x.toNat] w fun e w' => e = .returned (.int .u32 (big1 x).toNat) ∧ w' = w := by
  go_enter Try.func57, Try.ntmps57
  go_wp2_with (go_at_call 64; refine (turnp_any _ _ _ (by decide) (by decide)).mono ?_; rintro e w' ⟨rfl, rfl⟩)
  go_ret
  refine ⟨?_, rfl⟩
  show Ending.returned (.int .u32 _) = _
  rw [xor3u _ _ _ _ rfl]
  rfl
theorem big0_any (x : UInt32) (w : World) : Calls Try.prog 59 #[.int .u32 x.toNat] w fun e w' => e = .returned (.int .u32 (big0 x).toNat) ∧ w' = w := by
  go_enter Try.func59, Try.ntmps59
  go_wp2_with (go_at_call 64; refine (turnp_any _ _ _ (by decide) (by decide)).mono ?_; rintro e w' ⟨rfl, rfl⟩)
  go_ret
  refine ⟨?_, rfl⟩
  show Ending.returned (.int .u32 _) = _
  rw [xor3u _ _ _ _ rfl]
  rfl
theorem sig0_any (x : UInt32) (w : World) : Calls Try.prog 63 #[.int .u32 x.toNat] w fun e w' => e = .returned (.int .u32 (sig0 x).toNat) ∧ w' = w := by
  go_enter Try.func63, Try.ntmps63
  go_wp2_with (go_at_call 64; refine (turnp_any _ _ _ (by decide) (by decide)).mono ?_; rintro e w' ⟨rfl, rfl⟩)
  go_ret
  refine ⟨?_, rfl⟩
  show Ending.returned (.int .u32 _) = _
  rw [xor3u _ _ _ _ (u32_shr3 x)]
  rfl
theorem sig1_any (x : UInt32) (w : World) : Calls Try.prog 62 #[.int .u32 x.toNat] w fun e w' => e = .returned (.int .u32 (sig1 x).toNat) ∧ w' = w := by
  go_enter Try.func62, Try.ntmps62
  go_wp2_with (go_at_call 64; refine (turnp_any _ _ _ (by decide) (by decide)).mono ?_; rintro e w' ⟨rfl, rfl⟩)
  go_ret
  refine ⟨?_, rfl⟩
  show Ending.returned (.int .u32 _) = _
  rw [xor3u _ _ _ _ (u32_shr10 x)]
  rfl
theorem choose_any (x y z : UInt32) (w : World) : Calls Try.prog 58 #[.int .u32 x.toNat, .int .u32 y.toNat, .int .u32 z.toNat] w fun e w' => e = .returned (.int .u32 (chR x y z).toNat) ∧ w' = w := by
  go_enter Try.func58, Try.ntmps58
  go_wp2
  go_ret
  refine ⟨?_, rfl⟩
  show Ending.returned (.int .u32 _) = _
  rw [ch_val]
theorem most_any (x y z : UInt32) (w : World) : Calls Try.prog 60 #[.int .u32 x.toNat, .int .u32 y.toNat, .int .u32 z.toNat] w fun e w' => e = .returned (.int .u32 (mjR x y z).toNat) ∧ w' = w := by
  go_enter Try.func60, Try.ntmps60
  go_wp2
  go_ret
  refine ⟨?_, rfl⟩
  show Ending.returned (.int .u32 _) = _
  rw [mj_val]
end
end Go.Proofs.Ytjllfaeamjadcaa

namespace Go.Proofs.Ytjllfaeamjadcaa
open Go.RowKit

/-- numbers as words' cells -/
def cellsU (l : List Nat) : List Value := l.map fun (x : Nat) => Value.int .u32 (x : Int)
theorem cellsU_length (l : List Nat) : (cellsU l).length = l.length := by simp [cellsU]
theorem cellsU_one (l : List Nat) : ∀ u ∈ cellsU l, u.oneCell' = true := by
  intro u hu
  obtain ⟨_, _, rfl⟩ := List.mem_map.1 hu
  rfl
theorem cellsU_some {l : List Nat} {q x : Nat} (h : l[q]? = some x) : (cellsU l)[q]? = some (.int .u32 (x : Int)) := by
  simp [cellsU, h]
/-- the words, behind i bytes -/
def partW (b : List UInt8) (i : Nat) : List Nat := (List.range 64).map fun q => getN ((b.take (min i (4 * q + 4))).drop (4 * q))
theorem partW_length (b : List UInt8) (i : Nat) : (partW b i).length = 64 := by simp [partW]
theorem partW_at (b : List UInt8) (i q : Nat) (hq : q < 64) : (partW b i)[q]? = some (getN ((b.take (min i (4 * q + 4))).drop (4 * q))) := by
  simp [partW, hq]
theorem partW_next (b : List UInt8) (i : Nat) (hi : i < 64) (hb : b.length = 64) :
    partW b (i + 1) = (partW b i).set (i / 4) (getN ((b.take i).drop (4 * (i / 4))) * 256 + (b[i]'(by omega)).toNat) := by
  apply List.ext_getElem (by simp [partW])
  intro q h1 h2
  have hq : q < 64 := by simpa [partW] using h1
  rw [List.getElem_set]
  simp only [partW, List.getElem_map, List.getElem_range]
  by_cases e : i / 4 = q
  · subst e
    rw [if_pos rfl, show min (i + 1) (4 * (i / 4) + 4) = i + 1 by omega, List.take_succ_eq_append_getElem (by omega), List.drop_append_of_le_length (by simp; omega), getN_snoc]
  · rw [if_neg e]
    by_cases h3 : i < 4 * q
    · rw [List.drop_of_length_le (by simp; omega), List.drop_of_length_le (by simp; omega)]
    · rw [show min (i + 1) (4 * q + 4) = min i (4 * q + 4) by omega]
theorem part_small (b : List UInt8) (i : Nat) (hi : i < 64) (hb : b.length = 64) : getN ((b.take i).drop (4 * (i / 4))) < 16777216 := by
  have h1 := getN_lt ((b.take i).drop (4 * (i / 4)))
  have h2 : ((b.take i).drop (4 * (i / 4))).length ≤ 3 := by simp; omega
  have h3 : (256 : Nat) ^ ((b.take i).drop (4 * (i / 4))).length ≤ 256 ^ 3 := Nat.pow_le_pow_right (by decide) h2
  have e : (256 : Nat) ^ 3 = 16777216 := by decide
  omega
theorem or_step (G y : Nat) (hG : G < 16777216) (hy : y < 256) : bits .or .u32 ((G : Int) * 256) ((y : Int) % 4294967296) = ((G * 256 + y : Nat) : Int) := by
  have e1 : ((y : Int) % 4294967296) = (y : Int) := by omega
  have e2 : ((G : Int) * 256) = ((G * 256 : Nat) : Int) := by omega
  rw [e1, e2, u32_or_nat (G * 256) y (by omega) (by omega)]
  rw [nat_join 8 (G * 256) y (by omega) (by omega)]
theorem part_end (b : List UInt8) (hb : b.length = 64) : cellsU (partW b 64) = cells32 (first b 16 ++ List.replicate 48 0) := by
  apply List.ext_getElem (by simp [cellsU, partW, cells32, first])
  intro q h1 h2
  have hq : q < 64 := by simpa [cellsU, partW] using h1
  simp only [cellsU, partW, cells32, List.getElem_map, List.getElem_range]
  congr 2
  by_cases h : q < 16
  · rw [List.getElem_append_left (by rw [first_length]; exact h)]
    simp only [first, List.getElem_map, List.getElem_range, word]
    have h3 : getN ((b.take (4 * q + 4)).drop (4 * q)) < 4294967296 := by
      have h4 := getN_lt ((b.take (4 * q + 4)).drop (4 * q))
      rw [show ((b.take (4 * q + 4)).drop (4 * q)).length = 4 by simp; omega] at h4
      exact h4
    rw [show min 64 (4 * q + 4) = 4 * q + 4 by omega]
    show _ = _ % 4294967296
    rw [Nat.mod_eq_of_lt h3]
  · rw [List.getElem_append_right (by rw [first_length]; omega), List.getElem_replicate, show min 64 (4 * q + 4) = 64 by omega, List.drop_of_length_le (by simp; omega)]
    rfl
/-- the words so far, noughts behind them -/
def extZ (l : List UInt32) (i : Nat) : List UInt32 := extW (i - 16) l ++ List.replicate (64 - i) 0
theorem extZ_next (l : List UInt32) (i : Nat) (v : UInt32) (hl : l.length = 16) (h1 : 16 ≤ i) (h2 : i < 64) (hv : v = nextW (extW (i - 16) l)) : (cells32 (extZ l i)).set i (.int .u32 (v.toNat : Int)) = cells32 (extZ l (i + 1)) := by
  subst hv
  unfold extZ
  have e : (extW (i - 16) l).length = i := by rw [extW_length]; omega
  rw [show i + 1 - 16 = (i - 16) + 1 by omega, show 64 - i = (64 - (i + 1)) + 1 by omega, List.replicate_succ, cells32_append, List.set_append_right _ _ (by rw [cells32_length]; omega), cells32_length, e, Nat.sub_self]
  simp [extW, cells32]
theorem extZ_at (l : List UInt32) (i j : Nat) (hl : l.length = 16) (h1 : 16 ≤ i) (hj : j < i) : (cells32 (extZ l i))[j]? = some (.int .u32 (((extW (i - 16) l).getD j 0).toNat : Int)) := by
  have e : (extW (i - 16) l).length = i := by rw [extW_length]; omega
  unfold extZ
  rw [cells32_append, List.getElem?_append_left (by rw [cells32_length]; omega), cells32_at _ j (by omega)]
  simp [List.getD, List.getElem?_eq_getElem (show j < (extW (i - 16) l).length by omega)]
theorem extZ_length (l : List UInt32) (i : Nat) (hl : l.length = 16) (h1 : 16 ≤ i) (h2 : i ≤ 64) : (cells32 (extZ l i)).length = 64 := by
  rw [cells32_length]; unfold extZ; rw [List.length_append, extW_length, List.length_replicate]; omega

theorem sum4 (a b c d : UInt32) : ((d.toNat : Int) + (c.toNat : Int) + (b.toNat : Int) + (a.toNat : Int)) % 4294967296 = ((a + b + c + d).toNat : Int) := by
  simp only [UInt32.toNat_add]; omega

def zeroW : List Value := cells32 (List.replicate 64 0)
theorem zeroW_part (b : List UInt8) : zeroW = cellsU (partW b 0) := by
  unfold zeroW partW cellsU
  simp only [Nat.zero_min, List.take_zero, List.drop_nil]
  rfl
theorem ty64 : Ty Try.prog 87 zeroW := ⟨by kernel_rfl⟩
theorem rw64 : Rw Try.prog 87 (.array 64 70) 64 := ⟨by kernel_rfl, rfl, by kernel_rfl⟩
theorem rwBlock : Rw Try.prog 74 (.array 64 5) 64 := ⟨by kernel_rfl, rfl, by kernel_rfl⟩

set_option maxRecDepth 100000 in
set_option maxHeartbeats 4000000 in
theorem schedule_any (b : List UInt8) (w : World) (hb : b.length = 64) :
    Calls Try.prog 55 #[.agg (cells8 b).toArray] w fun e w' => e = .returned (.agg (cells32 (wordsL b)).toArray) ∧ Below w.heap.size w w' := by
  have HL := Lib.hid hb
  clear hb
  go_enter Try.func55, Try.ntmps55
  go_wp2_with (with_reducible refine wpList_box (o := ⟨some 1, _, _, _, _, _⟩) rfl (.tmp 0) rfl rfl ?_)
  intro w1 hk1 hb1 hs1
  have HK1 := Lib.hid hk1
  go_wp2_with (with_reducible refine wpList_alloc (o := ⟨some 2, _, _, _, _, _⟩) ty64 rfl rfl ?_)
  intro w2 hk2 hb2 hs2
  have HK2 := Lib.hid hk2
  go_wp2_with (with_reducible refine wpList_alloc (o := ⟨some 3, _, _, _, _, _⟩) ty64 rfl rfl ?_)
  intro w3 hk3 hb3 hs3
  have HK3 := Lib.hid hk3
  have HB1 := Lib.hid ((HK1.out.below hb2 (by omega)).below hb3 (by omega))
  have HB2 := Lib.hid (HK2.out.below hb3 (by omega))
  have HB3 : Hid (Blk w3 (w.heap.size + 1 + 1) 87 (cellsU (partW b 0))) := by
    show Blk _ _ _ _
    rw [← zeroW_part]; exact hk3
  have hB3 : Below w.heap.size w w3 := (hb1.trans (hb2.mono (by omega))).trans (hb3.mono (by omega))
  clear HK1 HK2 HK3 hk1 hk2 hk3 hb1 hb2 hb3 hs1 hs2 hs3
  go_wp2
  go_loopw [6] (fun v wr => ∃ i : Nat, i ≤ 64 ∧ v = .int .i64 i ∧ Hid (Blk wr (w.heap.size + 1 + 1) 87 (cellsU (partW b i))) ∧ Only (w.heap.size + 1 + 1) w3 wr) (fun v _ => 64 - (intOf v).toNat)
  case atStart => exact ⟨0, Nat.zero_le _, rfl, HB3, Only.refl _ _⟩
  case round =>
    clear HB3
    obtain ⟨i, hi, rfl, HB, ho⟩ := hrel
    by_cases hlt : i < 64
    · have hbi : i < b.length := by rw [HL.out]; exact hlt
      have hcb := (HB1.out.only ho (by omega)).cell (i := i) (by rw [cells8_length]; exact hbi)
      have hcb2 : wr.cell? ⟨w.heap.size, i, none⟩ = some (.int .u8 (b[i].toNat : Int)) := by
        rw [hcb]; simp [cells8]
      have hq64 : i / 4 < 64 := by omega
      have hmin : min i (4 * (i / 4) + 4) = i := by omega
      have hcw : wr.cell? ⟨w.heap.size + 1 + 1, i / 4, none⟩ = some (.int .u32 ((getN ((b.take i).drop (4 * (i / 4))) : Nat) : Int)) := by
        rw [HB.out.cell? (i / 4)]
        have := partW_at b i (i / 4) hq64
        rw [hmin] at this
        exact cellsU_some this
      have HN := Lib.hid (partW_next b i hlt HL.out)
      have hG := part_small b i hlt HL.out
      generalize getN ((b.take i).drop (4 * (i / 4))) = G at *
      generalize b[i] = y at *
      have hfw := HB.out.frozen (i / 4)
      obtain ⟨q, hqe⟩ : ∃ q, q = i / 4 := ⟨_, rfl⟩
      rw [← hqe] at hcw hfw HN hq64
      have hqi : ((i : Int) / 4) = (q : Int) := by omega
      have hqq : (q : Int) < 64 := by omega
      have hqw : IntKind.i64.wrap (q : Int) = (q : Int) := by rw [IntKind.wrap_i64]; omega
      clear hqe hmin hcb
      go_wp2_with fail
      go_still_tail 12, (by kernel_rfl)
      change wpList _ _ _ _ _ wr.drew
      go_wp2
      have HV := Lib.hid (or_step G y.toNat hG y.toNat_lt)
      refine ⟨⟨i + 1, by omega, by go_num, ?_, (ho.trans (Only.setCell wr ⟨w.heap.size + 1 + 1, q, none⟩ _)).drew⟩, by simp [intOf]; omega⟩
      show Blk _ _ _ _
      rw [HV.out, HN.out]
      have h3 := (HB.out.set q (.int .u32 ((G * 256 + y.toNat : Nat) : Int))).drew
      have e : (cellsU (partW b i)).set q (.int .u32 ((G * 256 + y.toNat : Nat) : Int)) = cellsU ((partW b i).set q (G * 256 + y.toNat)) := by
        simp only [cellsU, List.map_set]
      rw [e] at h3
      exact h3
    · have HI := Lib.hid (show i = 64 by omega)
      have HBw : Hid (Blk wr (w.heap.size + 1 + 1) 87 (cells32 (extZ (first b 16) 16))) := by
        have h1 := HB.out
        rw [HI.out, part_end b HL.out] at h1
        exact h1
      have HWL : Kp (cells32 (extZ (first b 16) 64) = cells32 (wordsL b)) := ⟨by unfold extZ wordsL; simp⟩
      have HF := Lib.hid (first_length b 16)
      generalize first b 16 = l0 at *
      have hlt3 : w.heap.size + 1 < w3.heap.size := HB2.out.lt
      obtain ⟨wx, rfl⟩ : ∃ x, x = wr := ⟨wr, rfl⟩
      clear HB
      go_wp2
      go_loopw [5] (fun v wr => ∃ i : Nat, 16 ≤ i ∧ i ≤ 64 ∧ v = .int .i64 i ∧ Hid (Blk wr (w.heap.size + 1 + 1) 87 (cells32 (extZ l0 i))) ∧ Only (w.heap.size + 1 + 1) w3 wr) (fun v _ => 64 - (intOf v).toNat)
      case atStart => exact ⟨16, Nat.le_refl _, by omega, rfl, HBw, ho⟩
      case round =>
        clear HBw ho hlt hi
        obtain ⟨k, hk1, hk2, rfl, HB, ho⟩ := hrel
        by_cases hlt : k < 64
        · have hat : ∀ j, j < k → wr.cell? ⟨w.heap.size + 1 + 1, j, none⟩ = some (.int .u32 (((extW (k - 16) l0).getD j 0).toNat : Int)) := fun j hj => by
            rw [HB.out.cell? j]; exact extZ_at l0 k j HF.out hk1 hj
          have hlen : (extW (k - 16) l0).length = k := by rw [extW_length, HF.out]; omega
          have hnw : nextW (extW (k - 16) l0) = (extW (k - 16) l0).getD (k - 16) 0 + sig0 ((extW (k - 16) l0).getD (k - 15) 0) + (extW (k - 16) l0).getD (k - 7) 0 + sig1 ((extW (k - 16) l0).getD (k - 2) 0) := by unfold nextW; rw [hlen]
          obtain ⟨k16, e16⟩ : ∃ q : Nat, q = k - 16 := ⟨_, rfl⟩
          obtain ⟨k15, e15⟩ : ∃ q : Nat, q = k - 15 := ⟨_, rfl⟩
          obtain ⟨k7, e7⟩ : ∃ q : Nat, q = k - 7 := ⟨_, rfl⟩
          obtain ⟨k2, e2⟩ : ∃ q : Nat, q = k - 2 := ⟨_, rfl⟩
          have w16 : IntKind.i64.wrap ((k : Int) - 16) = (k16 : Int) := by rw [IntKind.wrap_i64]; omega
          have w15 : IntKind.i64.wrap ((k : Int) - 15) = (k15 : Int) := by rw [IntKind.wrap_i64]; omega
          have w7 : IntKind.i64.wrap ((k : Int) - 7) = (k7 : Int) := by rw [IntKind.wrap_i64]; omega
          have w2' : IntKind.i64.wrap ((k : Int) - 2) = (k2 : Int) := by rw [IntKind.wrap_i64]; omega
          have b16 : (k16 : Int) < 64 := by omega
          have b15 : (k15 : Int) < 64 := by omega
          have b7 : (k7 : Int) < 64 := by omega
          have b2 : (k2 : Int) < 64 := by omega
          have c16 := hat k16 (by omega)
          have c15 := hat k15 (by omega)
          have c7 := hat k7 (by omega)
          have c2 := hat k2 (by omega)
          have HS := fun v hv => extZ_next l0 k v HF.out hk1 hlt hv
          have hlz := extZ_length l0 k HF.out hk1 hk2
          have hcw := HB.out.cell (i := k) (by omega)
          have hfw := HB.out.frozen k
          generalize (cells32 (extZ l0 k))[k]'(by omega) = old at hcw
          have HS2 := Lib.hid HS
          have HNW : Hid (nextW (extW (k - 16) l0) = (extW (k - 16) l0).getD k16 0 + sig0 ((extW (k - 16) l0).getD k15 0) + (extW (k - 16) l0).getD k7 0 + sig1 ((extW (k - 16) l0).getD k2 0)) := by show _ = _; rw [e16, e15, e7, e2]; exact hnw
          clear e16 e15 e7 e2 hnw hat hlen HS hlz
          generalize (extW (k - 16) l0).getD k16 0 = x16 at *
          generalize (extW (k - 16) l0).getD k15 0 = x15 at *
          generalize (extW (k - 16) l0).getD k7 0 = x7 at *
          generalize (extW (k - 16) l0).getD k2 0 = x2 at *
          go_wp2_with fail
          refine wp_region_still_tail 22 (by kernel_rfl) (by kernel_rfl) ?_
          simp only [List.take_succ_cons, List.take_zero, List.drop_succ_cons, List.drop_zero]
          repeat (first | still_step | still_call (sig1_any _ _) | still_call (sig0_any _ _))
          try refine wpStill_nil ?_
          change wpList _ _ _ _ _ wr.drew
          go_wp2
          have HV := Lib.hid (sum4 x16 (sig0 x15) x7 (sig1 x2))
          refine ⟨⟨k + 1, by omega, by omega, by go_num, ?_, (ho.trans (Only.setCell wr ⟨w.heap.size + 1 + 1, k, none⟩ _)).drew⟩, by simp [intOf]; omega⟩
          show Blk _ _ _ _
          rw [HV.out, ← HNW.out]
          have h3 := (HB.out.set k (.int .u32 ((nextW (extW (k - 16) l0)).toNat : Int))).drew
          rw [HS2.out _ rfl] at h3
          exact h3
        · have HK := Lib.hid (show k = 64 by omega)
          have HB8 : Kp (Blk wr (w.heap.size + 1 + 1) 87 (cells32 (wordsL b))) := ⟨by
            have h1 := HB.out
            rw [HK.out, HWL.out] at h1
            exact h1⟩
          have HLen : Kp ((cells32 (wordsL b)).length = 64) := ⟨by rw [cells32_length, wordsL_length]⟩
          have HB2r := Lib.hid (HB2.out.only ho (by omega))
          have HZ : Kp (zeroW.length = 64) := ⟨rfl⟩
          clear HB HWL
          go_wp2_with (first
            | (with_reducible refine wpList_loadAll (o := ⟨some 50, _, _, _, _, _⟩) rw64 rfl (.tmp 3) rfl rfl HB8.out HLen.out ?_)
            | (with_reducible refine wpList_storeAll (o := ⟨none, _, _, _, _, _⟩) (vs := cells32 (wordsL b)) rw64 rfl (.tmp 2) (.tmp 50) rfl rfl HB2r.out HZ.out HLen.out (cells32_one _) rfl ?_))
          intro w13 hk14 ho13
          have HK14 : Kp _ := ⟨hk14⟩
          clear hk14
          go_wp2
          exact ret_arr rfl rw64 rfl HK14.out HLen.out rfl ⟨rfl, (hB3.trans (ho.below (by omega))).trans (ho13.below (by omega))⟩
end Go.Proofs.Ytjllfaeamjadcaa
