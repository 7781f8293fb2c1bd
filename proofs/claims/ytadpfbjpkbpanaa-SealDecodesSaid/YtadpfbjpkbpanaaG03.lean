/- The contract of sacristanref02.Sum.
   The contracts of sacristanref03's Slice and pad.
   The contract of sacristanref03.Tag.
   '==' and '!=' between two arrays of bytes. No program is named here.
   Records of chapter 8 as plain data, what the chapter says of them, and how a walk reads them. No program is named here.
   The bytes of a record, and the record of bytes; which one is chosen. No program is named here.
   The contracts of Parts, groups, Slot, and of the document's Parts, Slot and Long.
   The contract of Slot. -/
import Derived.Test.YtadpfbjpkbpanaaG02
import Derived.ChangeKeysEq
import Derived.Laws.StructEq
import Derived.Test.YtadpfbjpkbpanaaG01
namespace Go.Proofs.Ytadpfbjpkbpanaa
open Go.RowKit

theorem st0_laid (w : World) : Us (w.alloc (.cells #[.int .u32 1779033703, .int .u32 3144134277, .int .u32 1013904242, .int .u32 2773480762, .int .u32 1359893119, .int .u32 2600822924, .int .u32 528734635, .int .u32 1541459225] 81)) (w.alloc (.cells #[.int .u32 1779033703, .int .u32 3144134277, .int .u32 1013904242, .int .u32 2773480762, .int .u32 1359893119, .int .u32 2600822924, .int .u32 528734635, .int .u32 1541459225] 81)).heap.size (some ⟨w.heap.size, 0, none⟩) 8 8 St0.list := by
  have h := (Us.laid w 81 St0.list (by decide)).more (B' := (w.alloc (.cells (cells32 St0.list).toArray 81)).heap.size) (by simp)
  have e : (cells32 St0.list).toArray = #[.int .u32 1779033703, .int .u32 3144134277, .int .u32 1013904242, .int .u32 2773480762, .int .u32 1359893119, .int .u32 2600822924, .int .u32 528734635, .int .u32 1541459225] := by rfl
  rw [e] at h
  exact h

set_option maxRecDepth 100000 in
set_option maxHeartbeats 4000000 in
theorem refsum_any (A : Option Addr) (n c : Nat) (l : List UInt8) (w : World) (ha : Bs w w.heap.size A n c l) (hn : n ≤ 1048576) :
    Calls Try.prog 46 #[.slice A n c] w fun e w' => e = .returned (.agg (cells8 (shaL l)).toArray) ∧ Below w.heap.size w w' := by
  have HL := Lib.hid ha.len
  go_enter Try.func46, Try.ntmps46
  go_wp2_with (with_reducible refine wpList_alloc (o := ⟨some 2, _, _, _, _, _⟩) tyDig rfl rfl ?_)
  intro w1 hk1 hb1 hs1
  have HA := Lib.hid (ha.below hb1)
  have HK := Lib.hid hk1
  have hlt : w.heap.size < w1.heap.size := hk1.lt
  clear ha hk1 hs1
  go_wp2_with (at_builtin; refine wpList_app el8 rfl _ _ rfl w1.heap.size _ 0 [] rfl (own_nil _ _ _) A n c (cells8 l) rfl (by rw [cells8_length, HL.out]) ?_ HA.out.news (cells8_one _) (by simp only [maxLen]; omega) (by omega) (Nat.le_refl _) ?_)
  · exact fun h => ⟨by have := HA.out.nil h; have := HA.out.cap; omega, HA.out.nil h⟩
  intro v2 w2 hown2 hg2 _
  have hb2 : Below w1.heap.size w1 w2 := below_of_grown (own_nil w1 w1.heap.size 5) (Nat.le_refl _) hg2
  have H2 := Lib.hid hown2
  clear hown2 hg2
  go_wp2_with (at_builtin; refine wpList_app1 el8 rfl _ _ rfl w1.heap.size _ n _ rfl H2.out rfl rfl (by simp only [maxLen]; omega) (by omega) hb2.size ?_)
  intro v3 w3 H3 hb3 _ _
  have hB3 : Below w1.heap.size w1 w3 := hb2.trans hb3
  obtain ⟨A3, c3, rfl, _⟩ := own_form H3.out
  have H4 : Hid (w3.ownsRow w1.heap.size 5 1 (.slice A3 (n + 1) c3) (n + 1) (cells8 (padTo l (n + 1)))) := by
    show World.ownsRow _ _ _ _ _ _ _
    rw [← HL.out, padTo_first, HL.out, cells8_append]
    exact H3.out
  clear H2 H3 hb2 hb3
  go_wp2
  go_loopw [3] (fun v wr => ∃ m A' c', n + 1 ≤ m ∧ m ≤ n + 1 + padZ n ∧ v = .slice A' m c' ∧ Hid (wr.ownsRow w1.heap.size 5 1 (.slice A' m c') m (cells8 (padTo l m))) ∧ Below w1.heap.size w1 wr) (fun v _ => n + 1 + padZ n - slen v)
  case atStart => exact ⟨n + 1, A3, c3, Nat.le_refl _, by omega, rfl, H4, hB3⟩
  case round =>
    clear H4 hB3
    obtain ⟨m, A', c', hm1, hm2, rfl, H, hB⟩ := hrel
    have hp := pad_le n
    by_cases hlt2 : m < n + 1 + padZ n
    · have ht1 : ((m : Int) % 64 == 56) = false := by
        have := pad_at n (m - (n + 1)) (by omega)
        rw [show n + 1 + (m - (n + 1)) = m by omega] at this
        rw [beq_eq_false_iff_ne]; omega
      have ht2 : ((m : Int) % 64 != 56) = true := by simp only [bne, ht1]; rfl
      go_wp2_with (at_builtin; refine wpList_app1 el8 rfl _ _ rfl w1.heap.size _ m _ rfl H.out rfl rfl (by simp only [maxLen]; omega) (by omega) hB.size ?_)
      intro v5 w5 H5 hb5 _ _
      obtain ⟨A5, c5, rfl, _⟩ := own_form H5.out
      have H6 : Hid (w5.ownsRow w1.heap.size 5 1 (.slice A5 (m + 1) c5) (m + 1) (cells8 (padTo l (m + 1)))) := by
        show World.ownsRow _ _ _ _ _ _ _
        rw [padTo_next l m (by rw [HL.out]; exact hm1), cells8_append]
        exact H5.out
      clear H H5 ht1 ht2
      go_wp2
      go_roundw
      case rel => exact ⟨m + 1, A5, c5, by omega, by omega, rfl, H6, hB.trans hb5⟩
      case measure => simp [slen]; omega
    · have HM := Lib.hid (show m = n + 1 + padZ n by omega)
      have hmb : m ≤ 1048640 := by omega
      have hBw : Below w.heap.size w wr := hb1.trans (hB.mono (Nat.le_of_lt hlt))
      have HKr := Lib.hid (HK.out.below hB hlt)
      have hltr : w.heap.size < wr.heap.size := Nat.lt_of_lt_of_le hlt hB.size
      obtain ⟨wz, rfl⟩ : ∃ x, x = wr := ⟨wr, rfl⟩
      have ht1 : ((m : Int) % 64 == 56) = true := by
        have := pad_end n
        rw [← HM.out] at this
        rw [beq_iff_eq]; omega
      have ht2 : ((m : Int) % 64 != 56) = false := by simp only [bne, ht1]; rfl
      have HE := Lib.hid (padTo_end l)
      clear HK HA
      go_wp2_with fail
      have hput := refput_any (8 * n) 8 wz (by omega)
      rw [show ((8 * n : Nat) : Int) = 8 * (n : Int) by omega] at hput
      have e8 : (min (max (8 : Int) 0) 8).toNat = 8 := by decide
      rw [e8] at hput
      have HP := Lib.hid hput
      clear hput e8
      refine HP.out.mono ?_
      rintro e w7 ⟨v7, rfl, hown7, hb7⟩
      obtain ⟨A7, c7, rfl, hbs7⟩ := Bs.of_own hown7
      have H7 := Lib.hid hbs7
      have HO := Lib.hid (own_below H.out hb7)
      clear hown7 hbs7 HP H
      go_wp2_with (at_builtin; refine wpList_app el8 rfl _ _ rfl w1.heap.size _ m _ rfl HO.out A7 8 c7 (cells8 (putN (8 * n) 8)) rfl (by rw [cells8_length, putN_length]) ?_ H7.out.news (cells8_one _) (by simp only [maxLen]; omega) (by omega) (Nat.le_trans hB.size hb7.size) ?_)
      · exact fun h => absurd (H7.out.nil h) (by have := H7.out.cap; omega)
      intro v8 w8 hown8 hg8 _
      have hb8 : Below w1.heap.size w7 w8 := below_of_grown HO.out (Nat.le_trans hB.size hb7.size) hg8
      rw [← cells8_append] at hown8
      have hown8' : w8.ownsRow w1.heap.size 5 1 v8 (m + 8) (cells8 (padded l)) := by
        have e1 := HE.out
        rw [HL.out, ← HM.out] at e1
        rw [← e1]
        exact hown8
      obtain ⟨A8, c8, rfl, hbs8⟩ := Bs.of_own hown8'
      have H8 := Lib.hid hbs8
      have hB18 : Below w1.heap.size w1 w8 := (hB.trans (hb7.mono hB.size)).trans hb8
      have hBw8 : Below w.heap.size w w8 := hb1.trans (hB18.mono (by have := hb1.size; omega))
      have HK8 := Lib.hid (HKr.out.below (hb7.mono (Nat.le_refl _)) hltr |>.below hb8 hlt)
      clear hown8 hown8' hbs8 hg8 HO H7 hb8 HE ht1 ht2
      have HM64 := Lib.hid (show (m + 8) % 64 = 0 by have := pad_end n; rw [← HM.out] at this; omega)
      have HPL := Lib.hid (show (padded l).length = m + 8 by rw [padded_length, HL.out]; have := HM.out; omega)
      have hlt8 : w.heap.size < w8.heap.size := Nat.lt_of_lt_of_le hlt hB18.size
      clear HKr hB hb7 hB18 HM
      go_wp2
      go_loopw [4, 5] (fun s i wr => ∃ k j : Nat, ∃ A' c', j ≤ m + 8 ∧ i = .int .i64 j ∧ s = .slice A' 8 c' ∧ Hid (j = 64 * k) ∧ Hid (Us wr wr.heap.size A' 8 c' (foldB (padded l) k).list) ∧ Below w8.heap.size w8 wr) (fun _ i _ => m + 8 - (intOf i).toNat)
      case atStart =>
        refine ⟨0, 0, some ⟨w8.heap.size, 0, none⟩, 8, Nat.zero_le _, rfl, rfl, rfl, ?_, (Below.refl _ _).alloc (Nat.le_refl _) _⟩
        exact st0_laid w8
      case round =>
        obtain ⟨k, j, A', c', hj, rfl, rfl, HJ, HU, hbr⟩ := hrel
        by_cases hlt3 : j < m + 8
        · have hj64 : j + 64 ≤ m + 8 := by have := HJ.out; have := HM64.out; omega
          have HF : Hid (foldB (padded l) (k + 1) = stepS (foldB (padded l) k) (((padded l).take (j + 64)).drop j)) := by show _ = _; rw [HJ.out]; rfl
          have hbx := H8.out.below hbr
          go_wp2_with (with_reducible refine wpList_cut_lh (o := ⟨some 42, _, _, _, _, _⟩) el8 rfl _ _ _ rfl rfl hbx _ _ _ _ j (j + 64) rfl rfl rfl (by omega) (by omega) (by omega) ?_)
          intro A1 m1 d1 h1
          obtain rfl : m1 = 64 := by have := h1.len; simp [HPL.out] at this; omega
          have H1 := Lib.hid (h1.more (B' := wr.heap.size) hbr.size)
          clear h1 hbx
          go_wp2_with fail
          refine (step_any _ _ _ _ _ _ _ HU.out H1.out).mono ?_
          rintro e w9 ⟨v9, rfl, hown9, hb9⟩
          obtain ⟨A9, c9, rfl, hu9⟩ := Us.of_own hown9
          have HU9 : Hid (Us w9 w9.heap.size A9 8 c9 (foldB (padded l) (k + 1)).list) := by
            show Us _ _ _ _ _ _
            rw [HF.out]
            exact hu9
          clear hown9 hu9 HU HF H1
          go_wp2
          go_roundw
          case rel => exact ⟨k + 1, j + 64, A9, c9, by omega, by go_num, rfl, by have := HJ.out; show _ = _; omega, HU9, hbr.trans (hb9.mono hbr.size)⟩
          case measure => simp [intOf]; omega
        · have HJ2 := Lib.hid (show j = m + 8 by omega)
          have HDG : Hid (shaL l = digestL (foldB (padded l) k)) := by
            show _ = _
            unfold shaL
            rw [show (padded l).length / 64 = k by rw [HPL.out]; have := HJ.out; have := HJ2.out; omega]
          generalize foldB (padded l) k = S at *
          have HKb := Lib.hid (HK8.out.below hbr hlt8)
          have hltb : w.heap.size < wr.heap.size := Nat.lt_of_lt_of_le hlt8 hbr.size
          have hBwb : Below w.heap.size w wr := hBw8.trans (hbr.mono (Nat.le_of_lt hlt8))
          obtain ⟨wb, rfl⟩ : ∃ x, x = wr := ⟨wr, rfl⟩
          clear HJ HJ2 HM64 HPL H8 HK8 hbr hBw8 hBw hb1 hltr
          go_wp2_with (with_reducible refine wpList_alloc (o := ⟨some 6, _, _, _, _, _⟩) tyDig rfl rfl ?_)
          intro w10 hk10 hb10 hs10
          have HK10 := Lib.hid hk10
          have hlt10 : wb.heap.size < w10.heap.size := hk10.lt
          clear hk10 hs10
          go_wp2_with (with_reducible refine wpList_store (o := ⟨none, _, _, _, _, _⟩) (vs := zero32) rwDig rfl (.tmp 6) (.tmp 44) rfl rfl ?_ HK10.out ?_ ?_ ?_ ?_)
          · rfl
          · rfl
          · decide
          · exact cells8_one _
          intro w11 hk11 ho11
          have hk12 : Blk w11 wb.heap.size 57 (cells8 (outAt (digestL S) (4 * 0))) := by
            have e1 : zero32.take 0 ++ zero32 ++ zero32.drop (0 + 32) = cells8 (outAt (digestL S) (4 * 0)) := by
              simp [outAt, zero32, cells8]
            rw [← e1]; exact hk11
          have hB11 : Below wb.heap.size wb w11 := hb10.trans (ho11.below (Nat.le_refl _))
          have hlt11 : wb.heap.size < w11.heap.size := hk12.lt
          clear hk11 ho11 hb10 HK10 hlt10
          go_wp2
          go_loopw [7] (fun v wr => ∃ i : Nat, i ≤ 8 ∧ v = .int .i64 i ∧ Hid (Blk wr wb.heap.size 57 (cells8 (outAt (digestL S) (4 * i)))) ∧ Below wb.heap.size wb wr ∧ wb.heap.size < wr.heap.size) (fun v _ => 8 - (intOf v).toNat)
          case atStart => exact ⟨0, Nat.zero_le _, rfl, hk12, hB11, hlt11⟩
          case round =>
            clear hk12 hB11 hlt11
            obtain ⟨i, hi, rfl, HB, hbr, hltr⟩ := hrel
            by_cases hlt4 : i < 8
            · obtain ⟨gs, os, rfl, hgs, hcs⟩ := (HU.out.below hbr).getD hlt4
              have HDD := Lib.hid (fun k (hk : k < 4) => digest_at S i k hlt4 hk)
              generalize S.list.getD i 0 = x at *
              go_wp2_with fail
              rw [u64_of_u32 x]
              have hput := refput_any x.toNat 4 wr (u32_lt64 x)
              have e4 : (min (max (4 : Int) 0) 8).toNat = 4 := by decide
              rw [e4] at hput
              have HP := Lib.hid hput
              clear hput e4
              refine HP.out.mono ?_
              rintro e wp ⟨vp, rfl, hownp, hbp⟩
              obtain ⟨gx, cx, rfl, _, hgx, _⟩ := own_some hownp (by omega)
              have HX := Lib.hid hownp
              have HBp := Lib.hid (HB.out.below hbp hltr)
              clear HP hownp HB
              go_wp2
              go_loopw [9] (fun v wq => ∃ k : Nat, k ≤ 4 ∧ v = .int .i64 k ∧ Hid (Blk wq wb.heap.size 57 (cells8 (outAt (digestL S) (4 * i + k)))) ∧ Only wb.heap.size wp wq) (fun v _ => 4 - (intOf v).toNat)
              case atStart => exact ⟨0, Nat.zero_le _, rfl, HBp, Only.refl _ _⟩
              case round =>
                clear HBp
                obtain ⟨k, hk, rfl, HB, ho⟩ := hrel
                by_cases hlt5 : k < 4
                · have hcx : wr.cell? ⟨gx, k, none⟩ = some (.int .u8 (((digestL S).getD (4 * i + k) 0).toNat : Int)) := by
                    have h1 := HDD.out k hlt5
                    have h2 := HX.out.cells (g := gx) rfl k (.int .u8 (((digestL S).getD (4 * i + k) 0).toNat : Int)) (by simp only [cells8, List.getElem?_map, h1]; rfl)
                    rw [Addr.add_lit, Nat.zero_add] at h2
                    rw [← h2]
                    exact World.cell?_of_block (w := wp) (ho.block gx (by omega))
                  have hle : 4 * i + k < (cells8 (outAt (digestL S) (4 * i + k))).length := by rw [cells8_length, outAt_length _ (digestL_length S) _ (by omega)]; omega
                  have hco := HB.out.cell hle
                  have hfo := HB.out.frozen (4 * i + k)
                  have HSet := Lib.hid (outAt_set (digestL S) (digestL_length S) (4 * i + k) (by omega))
                  generalize (digestL S).getD (4 * i + k) 0 = y at *
                  generalize hq : (cells8 (outAt (digestL S) (4 * i + k)))[4 * i + k]'hle = q at hco
                  clear hq hle
                  go_wp2
                  refine ⟨⟨k + 1, by omega, by go_num, ?_, ho.trans (Only.setCell wr ⟨wb.heap.size, _, none⟩ _)⟩, by simp [intOf]; omega⟩
                  have h3 := HB.out.set (4 * i + k) (.int .u8 (y.toNat : Int))
                  rw [HSet.out] at h3
                  exact h3
                · have HK4 := Lib.hid (show k = 4 by omega)
                  have HB4 : Hid (Blk wr wb.heap.size 57 (cells8 (outAt (digestL S) (4 * (i + 1))))) := by
                    have h1 := HB.out
                    rw [HK4.out] at h1
                    exact h1
                  have hb4 : Below wb.heap.size wb wr := (hbr.trans (hbp.mono (Nat.le_of_lt hltr))).trans (ho.below (Nat.le_refl _))
                  have hl4 : wb.heap.size < wr.heap.size := by have := ho.size; have := hbp.size; omega
                  clear HB ho HX HDD hcs
                  go_wp2
                  go_roundw
                  case rel => exact ⟨i + 1, by omega, by go_num, HB4, hb4, hl4⟩
                  case measure => simp [intOf]; omega
            · have HI8 := Lib.hid (show i = 8 by omega)
              have HB8 : Hid (Blk wr wb.heap.size 57 (cells8 (shaL l))) := by
                have h1 := HB.out
                rw [HI8.out] at h1
                rw [show (4 * 8 : Nat) = 32 from rfl, outAt_end _ (digestL_length S), ← HDG.out] at h1
                exact h1
              have HLen := Lib.hid (show (cells8 (shaL l)).length = 32 by rw [cells8_length, HDG.out, digestL_length])
              have HKr := Lib.hid (HKb.out.below hbr hltb)
              clear HB
              go_wp2_with (first
                | (with_reducible refine wpList_loadAll (o := ⟨some 68, _, _, _, _, _⟩) rwDig rfl (.tmp 6) rfl rfl HB8.out HLen.out ?_)
                | (with_reducible refine wpList_storeAll (o := ⟨none, _, _, _, _, _⟩) (vs := cells8 (shaL l)) rwDig rfl (.tmp 2) (.tmp 68) rfl rfl HKr.out rfl HLen.out (cells8_one _) rfl ?_))
              intro w13 hk14 ho13
              have HK14 := Lib.hid hk14
              clear hk14
              go_wp2
              exact ret_arr rfl rwDig rfl HK14.out HLen.out rfl ⟨rfl, (hBwb.trans (hbr.mono (Nat.le_of_lt hltb))).trans (ho13.below (Nat.le_refl _))⟩
end Go.Proofs.Ytadpfbjpkbpanaa

namespace Go.Proofs.Ytadpfbjpkbpanaa
open Go.RowKit

set_option maxHeartbeats 1000000 in
theorem slice_any (D : List UInt8) (hD : D.length = 32) (w : World) :
    Calls Try.prog 32 #[.agg (cells8 D).toArray] w fun e w' => ∃ v, e = .returned v ∧ w'.ownsRow (w.heap.size + 1) 5 1 v 32 (cells8 D) ∧ Below w.heap.size w w' := by
  have HB0 : Kp _ := ⟨Blk.new w 57 (cells8 D)⟩
  have HD : Kp _ := ⟨hD⟩
  clear hD
  go_enter Try.func32, Try.ntmps32
  go_wp2_with fail
  go_loopw [3, 4] (fun v i wr => ∃ k : Nat, k ≤ 32 ∧ i = .int .i64 k ∧ Hid (wr.ownsRow (w.heap.size + 1) 5 1 v k (cells8 (D.take k))) ∧ Below (w.heap.size + 1) (w.alloc (.cells (cells8 D).toArray 57)) wr) (fun _ i _ => 32 - (intOf i).toNat)
  case atStart => exact ⟨0, Nat.zero_le _, rfl, own_nil _ _ _, Below.refl _ _⟩
  case round =>
    obtain ⟨k, hk, rfl, H, hB⟩ := hrel
    by_cases hlt : k < 32
    · have hkD : k < D.length := by rw [HD.out]; exact hlt
      have hc : wr.cell? ⟨w.heap.size, k, none⟩ = some (.int .u8 (D[k].toNat : Int)) := by
        rw [(HB0.out.below hB (by omega)).cell? k, cells8_at D k hkD]
      have HT : Kp _ := ⟨List.take_succ_eq_append_getElem hkD⟩
      generalize D[k] = x at *
      go_wp2_with (at_builtin; refine wpList_app1 el8 rfl _ _ rfl (w.heap.size + 1) _ k _ rfl H.out rfl rfl (by simp only [maxLen]; omega) (by omega) (by have := hB.size; simpa using this) ?_)
      intro v' w' H' hb' _ _
      have H2 : Hid (w'.ownsRow (w.heap.size + 1) 5 1 v' (k + 1) (cells8 (D.take (k + 1)))) := by
        show World.ownsRow _ _ _ _ _ _ _
        rw [HT.out, cells8_append]
        exact H'.out
      clear H H'
      go_wp2
      go_roundw
      case rel => exact ⟨k + 1, by omega, by go_num, H2, hB.trans hb'⟩
      case measure => simp [intOf]; omega
    · obtain rfl : k = 32 := by omega
      have H2 : Hid (wr.ownsRow (w.heap.size + 1) 5 1 u3 32 (cells8 D)) := by
        have h1 := H.out
        rw [List.take_of_length_le (by rw [HD.out]; exact Nat.le_refl _)] at h1
        exact h1
      clear H
      go_wp2
      go_ret
      exact ⟨_, rfl, H2.out, ((Below.refl _ _).alloc (Nat.le_refl _) _).trans (hB.mono (by omega))⟩

/-- a key's pad: its bytes and noughts, each with a byte -/
def padK (key : List UInt8) (c : UInt8) (j : Nat) : List UInt8 := (List.range j).map fun i => (key.getD i 0) ^^^ c
theorem padK_succ (key : List UInt8) (c : UInt8) (j : Nat) : padK key c (j + 1) = padK key c j ++ [key.getD j 0 ^^^ c] := by
  simp [padK, List.range_succ]
theorem padK_length (key : List UInt8) (c : UInt8) (j : Nat) : (padK key c j).length = j := by simp [padK]
theorem u8_xor (a b : UInt8) : bits .xor .u8 (a.toNat : Int) (b.toNat : Int) = ((a ^^^ b).toNat : Int) := by
  rw [u8_xor_nat _ _ a.toNat_lt b.toNat_lt, UInt8.toNat_xor]

section
attribute [local go_sem] u8_xor
set_option maxHeartbeats 1000000 in
theorem refpad_any (A : Option Addr) (n d : Nat) (key : List UInt8) (c : UInt8) (w : World) (L : Nat) (hL : L ≤ w.heap.size) (ha : Bs w L A n d key) :
    Calls Try.prog 47 #[.slice A n d, .int .u8 c.toNat] w fun e w' => ∃ v, e = .returned v ∧ w'.ownsRow w.heap.size 5 1 v 64 (cells8 (padK key c 64)) ∧ Below w.heap.size w w' := by
  have hn := ha.le
  have HA : Kp _ := ⟨ha⟩
  have HN : Kp _ := ⟨ha.len⟩
  clear ha
  go_enter Try.func47, Try.ntmps47
  go_wp2_with fail
  go_loopw [5, 6] (fun v i wr => ∃ k : Nat, k ≤ 64 ∧ i = .int .i64 k ∧ Hid (wr.ownsRow w.heap.size 5 1 v k (cells8 (padK key c k))) ∧ Below w.heap.size w wr) (fun _ i _ => 64 - (intOf i).toNat)
  case atStart => exact ⟨0, Nat.zero_le _, rfl, own_nil _ _ _, Below.refl _ _⟩
  case round =>
    obtain ⟨k, hk, rfl, H, hB⟩ := hrel
    by_cases hlt : k < 64
    · have HS : Kp _ := ⟨padK_succ key c k⟩
      by_cases hkn : k < n
      · have hky : k < key.length := by rw [HN.out]; exact hkn
        obtain ⟨b, o, rfl, _, hc⟩ := (HA.out.below (hB.mono hL)).cell hkn
        have HX : Kp (key.getD k 0 = key[k]) := ⟨by simp [List.getD, List.getElem?_eq_getElem hky]⟩
        rw [← HX.out] at hc
        generalize key.getD k 0 = x at *
        go_wp2_with (at_builtin; refine wpList_app1 el8 rfl _ _ rfl w.heap.size _ k _ rfl H.out rfl rfl (by simp only [maxLen]; omega) (by omega) hB.size ?_)
        intro v' w' H' hb' _ _
        have H2 : Hid (w'.ownsRow w.heap.size 5 1 v' (k + 1) (cells8 (padK key c (k + 1)))) := by
          show World.ownsRow _ _ _ _ _ _ _
          rw [HS.out, cells8_append]
          exact H'.out
        clear H H'
        go_wp2
        go_roundw
        case rel => exact ⟨k + 1, by omega, by go_num, H2, hB.trans hb'⟩
        case measure => simp [intOf]; omega
      · have HX : Kp (key.getD k 0 = 0) := ⟨by simp [List.getD, List.getElem?_eq_none (show key.length ≤ k by rw [HN.out]; omega)]⟩
        rw [HX.out, UInt8.zero_xor] at HS
        have hx0 : bits .xor .u8 (0 : Int) (c.toNat : Int) = (c.toNat : Int) := by have := u8_xor 0 c; rwa [UInt8.zero_xor] at this
        go_wp2_with (at_builtin; refine wpList_app1 el8 rfl _ _ rfl w.heap.size _ k _ rfl H.out rfl rfl (by simp only [maxLen]; omega) (by omega) hB.size ?_)
        intro v' w' H' hb' _ _
        have H2 : Hid (w'.ownsRow w.heap.size 5 1 v' (k + 1) (cells8 (padK key c (k + 1)))) := by
          show World.ownsRow _ _ _ _ _ _ _
          rw [HS.out, cells8_append]
          exact H'.out
        clear H H'
        go_wp2
        go_roundw
        case rel => exact ⟨k + 1, by omega, by go_num, H2, hB.trans hb'⟩
        case measure => simp [intOf]; omega
    · obtain rfl : k = 64 := by omega
      go_wp2
      go_ret
      exact ⟨_, rfl, H.out, hB⟩
end
end Go.Proofs.Ytadpfbjpkbpanaa

namespace Go.Proofs.Ytadpfbjpkbpanaa
open Go.RowKit

/-- a key of more than a block is its digest -/
def keyL (key : List UInt8) : List UInt8 := if 64 < key.length then shaL key else key
/-- HMAC-SHA256 -/
def hmacL (key b : List UInt8) : List UInt8 := shaL (padK (keyL key) 92 64 ++ shaL (padK (keyL key) 54 64 ++ b))
theorem shaL_len (l : List UInt8) : (shaL l).length = 32 := by unfold shaL; rw [digestL_length]

set_option maxRecDepth 100000 in
set_option maxHeartbeats 4000000 in
theorem reftag_any (A : Option Addr) (n c : Nat) (key : List UInt8) (B : Option Addr) (m d : Nat) (b : List UInt8) (w : World) (ha : Bs w w.heap.size A n c key) (hb : Bs w w.heap.size B m d b) (hn : n ≤ 1048000) (hm : m ≤ 1048000) :
    Calls Try.prog 33 #[.slice A n c, .slice B m d] w fun e w' => e = .returned (.agg (cells8 (hmacL key b)).toArray) ∧ Below w.heap.size w w' := by
  have HA : Kp _ := ⟨ha⟩
  have HB : Kp _ := ⟨hb⟩
  have HN : Kp _ := ⟨ha.len⟩
  have HM : Kp _ := ⟨hb.len⟩
  clear ha hb
  go_enter Try.func33, Try.ntmps33
  go_wp2_with (with_reducible refine wpList_alloc (o := ⟨some 4, _, _, _, _, _⟩) tyDig rfl rfl ?_)
  intro w0 hk0 hB0 hs0
  have HA0 : Kp _ := ⟨HA.out.next hB0 (Nat.le_refl _)⟩
  have HB0 : Kp _ := ⟨HB.out.next hB0 (Nat.le_refl _)⟩
  have HK0 : Kp _ := ⟨hk0⟩
  have hlt0 := hk0.lt
  clear hk0 HA HB hs0
  by_cases h64 : (64 : Int) < (n : Int)
  · have HK : Kp (keyL key = shaL key) := ⟨by unfold keyL; rw [if_pos (by rw [HN.out]; omega)]⟩
    go_wp2_with fail
    refine (refsum_any _ _ _ _ _ HA0.out (by omega)).mono ?_
    rintro e w1 ⟨rfl, hB1⟩
    have HB1 : Kp _ := ⟨HB0.out.next hB1 (Nat.le_refl _)⟩
    have HK1 : Kp _ := ⟨HK0.out.below hB1 hlt0⟩
    have hs1 := hB1.size
    go_wp2_with fail
    refine (slice_any _ (shaL_len _) _).mono ?_
    rintro e w2 ⟨v2, rfl, hown2, hB2⟩
    obtain ⟨A2, c2, rfl, hbs2⟩ := Bs.of_own hown2
    have HB2 : Kp _ := ⟨HB1.out.next hB2 (Nat.le_refl _)⟩
    have HKc : Kp _ := ⟨HK1.out.below hB2 (by omega)⟩
    have hs2 := hB2.size
    have hlt2 : w.heap.size < w2.heap.size := by omega
    have hle2 : w.heap.size ≤ w2.heap.size := by omega
    have HA2 : Kp (Bs w2 w2.heap.size A2 32 c2 (keyL key)) := ⟨by rw [HK.out]; exact hbs2⟩
    have hB12 := below_next hB0 (below_next hB1 hB2)
    clear hown2 hbs2 hB1 hB2 HA0 HB0 HB1 HK0 HK1 HN HK hB0
    go_wp2_with fail
    refine ((refpad_any _ _ _ _ 54 _ _ (Nat.le_refl _) HA2.out) : Calls _ _ #[_, .int .u8 54] _ _).mono ?_
    rintro e w3 ⟨v3, rfl, hown3, hB3⟩
    have H3 : Kp _ := ⟨hown3⟩
    have HA3 := HA2
    have HB3 : Kp _ := ⟨HB2.out.below hB3⟩
    have HK3 : Kp _ := ⟨HKc.out.below hB3 hlt2⟩
    have hs3 := hB3.size
    have hB13 := below_next hB12 hB3
    clear hown3 HA2 HB2 HKc hB12
    go_wp2_with (at_builtin; refine wpList_app el8 rfl _ _ rfl w2.heap.size _ 64 (cells8 (padK (keyL key) 54 64)) rfl H3.out B m d (cells8 b) rfl (by rw [cells8_length, HM.out]) ?_ HB3.out.news (cells8_one _) (by simp only [maxLen]; omega) (by omega) hs3 ?_)
    · exact fun h => ⟨by have := HB3.out.nil h; have := HB3.out.cap; omega, HB3.out.nil h⟩
    intro v4 w4 hown4 hg4 _
    have hb4 : Below w2.heap.size w3 w4 := below_of_grown H3.out hs3 hg4
    rw [← cells8_append] at hown4
    obtain ⟨A4, c4, rfl, hbs4⟩ := Bs.of_own hown4
    have H4 : Kp _ := ⟨hbs4⟩
    have hB4 : Below w2.heap.size w2 w4 := hB3.trans hb4
    have HA4 : Kp (Bs w4 w4.heap.size A2 32 c2 (keyL key)) := ⟨(HA3.out.below hB4).more hB4.size⟩
    have HK4 : Kp _ := ⟨HK3.out.below hb4 hlt2⟩
    have hB14 := hB13.trans (hb4.mono hle2)
    have hs4 := hB4.size
    clear hown4 hg4 hbs4 H3 HB3 HA3 HK3 hB13 hb4 hB3 hs3
    go_wp2_with fail
    refine ((refpad_any _ _ _ _ 92 _ _ (Nat.le_refl _) HA4.out) : Calls _ _ #[_, .int .u8 92] _ _).mono ?_
    rintro e w5 ⟨v5, rfl, hown5, hB5⟩
    have H5 : Kp _ := ⟨hown5⟩
    have H45 : Kp _ := ⟨H4.out.next hB5 (Nat.le_refl _)⟩
    have HK5 : Kp _ := ⟨HK4.out.below hB5 (by omega)⟩
    have hB15 := hB14.trans (hB5.mono (by have := hB14.size; omega))
    have hs5 := hB5.size
    clear hown5 H4 HA4 HK4 hB14
    go_wp2_with fail
    refine (refsum_any _ _ _ _ _ H45.out (by omega)).mono ?_
    rintro e w6 ⟨rfl, hB6⟩
    have H6 : Kp _ := ⟨own_below H5.out hB6⟩
    have HK6 : Kp _ := ⟨HK5.out.below hB6 (by omega)⟩
    have hB16 := hB15.trans (hB6.mono (by omega))
    have hs6 := hB6.size
    clear H5 H45 HK5 hB15
    go_wp2_with fail
    refine (slice_any _ (shaL_len _) _).mono ?_
    rintro e w7 ⟨v7, rfl, hown7, hB7⟩
    obtain ⟨A7, c7, rfl, hbs7⟩ := Bs.of_own hown7
    have H77 : Kp _ := ⟨hbs7⟩
    have H7 : Kp _ := ⟨own_below H6.out hB7⟩
    have HK7 : Kp _ := ⟨HK6.out.below hB7 (by omega)⟩
    have hB17 := hB16.trans (hB7.mono (by omega))
    have hs7 := hB7.size
    clear hown7 hbs7 H6 HK6 hB16
    go_wp2_with (at_builtin; refine wpList_app el8 rfl _ _ rfl w4.heap.size _ 64 (cells8 (padK (keyL key) 92 64)) rfl H7.out A7 32 c7 (cells8 (shaL (padK (keyL key) 54 64 ++ b))) rfl (by rw [cells8_length, shaL_len]) ?_ H77.out.news (cells8_one _) (by simp only [maxLen]; omega) (by omega) (by omega) ?_)
    · exact fun h => absurd (H77.out.nil h) (by have := H77.out.cap; omega)
    intro v8 w8 hown8 hg8 _
    have hb8 : Below w4.heap.size w7 w8 := below_of_grown H7.out (by omega) hg8
    rw [← cells8_append] at hown8
    obtain ⟨A8, c8, rfl, hbs8⟩ := Bs.of_own hown8
    have H8 : Kp _ := ⟨hbs8⟩
    have HK8 : Kp _ := ⟨HK7.out.below hb8 (by omega)⟩
    have hB18 := hB17.trans (hb8.mono (by omega))
    have hs8 := hb8.size
    clear hown8 hg8 hbs8 H7 H77 HK7 hB17
    go_wp2_with fail
    refine (refsum_any _ _ _ _ _ H8.out (by omega)).mono ?_
    rintro e w9 ⟨rfl, hB9⟩
    have HK9 : Kp _ := ⟨HK8.out.below hB9 (by omega)⟩
    have hB19 := hB18.trans (hB9.mono (by omega))
    have HLen : Kp ((cells8 (hmacL key b)).length = 32) := ⟨by rw [cells8_length]; exact shaL_len _⟩
    have e9 : shaL (padK (keyL key) 92 64 ++ shaL (padK (keyL key) 54 64 ++ b)) = hmacL key b := rfl
    rw [e9]
    clear e9 H8 HK8 hB18
    obtain ⟨R, hR⟩ : ∃ R, R = hmacL key b := ⟨_, rfl⟩
    rw [← hR] at HLen ⊢
    have HR : Kp _ := ⟨hR⟩
    clear hR
    go_wp2_with (with_reducible refine wpList_storeAll (o := ⟨none, _, _, _, _, _⟩) (vs := cells8 R) rwDig rfl (.tmp 4) (.tmp 26) rfl rfl HK9.out rfl HLen.out (cells8_one _) rfl ?_)
    intro w10 hk10 ho10
    have HK10 : Kp _ := ⟨hk10⟩
    clear hk10
    go_wp2
    exact ret_arr rfl rwDig rfl HK10.out HLen.out rfl ⟨by rw [HR.out], hB19.trans (ho10.below (Nat.le_refl _))⟩
  · have HK : Kp (keyL key = key) := ⟨by unfold keyL; rw [if_neg (by rw [HN.out]; omega)]⟩
    have hB12 := hB0
    have HA2 : Kp (Bs w0 w0.heap.size A n c (keyL key)) := ⟨by rw [HK.out]; exact HA0.out⟩
    have HB2 := HB0
    have HKc := HK0
    have hlt2 : w.heap.size < w0.heap.size := hlt0
    have hle2 : w.heap.size ≤ w0.heap.size := Nat.le_of_lt hlt0
    clear HA0 HB0 HK0 HK hB0 HN
    go_wp2_with fail
    refine ((refpad_any _ _ _ _ 54 _ _ (Nat.le_refl _) HA2.out) : Calls _ _ #[_, .int .u8 54] _ _).mono ?_
    rintro e w3 ⟨v3, rfl, hown3, hB3⟩
    have H3 : Kp _ := ⟨hown3⟩
    have HA3 := HA2
    have HB3 : Kp _ := ⟨HB2.out.below hB3⟩
    have HK3 : Kp _ := ⟨HKc.out.below hB3 hlt2⟩
    have hs3 := hB3.size
    have hB13 := below_next hB12 hB3
    clear hown3 HA2 HB2 HKc hB12
    go_wp2_with (at_builtin; refine wpList_app el8 rfl _ _ rfl w0.heap.size _ 64 (cells8 (padK (keyL key) 54 64)) rfl H3.out B m d (cells8 b) rfl (by rw [cells8_length, HM.out]) ?_ HB3.out.news (cells8_one _) (by simp only [maxLen]; omega) (by omega) hs3 ?_)
    · exact fun h => ⟨by have := HB3.out.nil h; have := HB3.out.cap; omega, HB3.out.nil h⟩
    intro v4 w4 hown4 hg4 _
    have hb4 : Below w0.heap.size w3 w4 := below_of_grown H3.out hs3 hg4
    rw [← cells8_append] at hown4
    obtain ⟨A4, c4, rfl, hbs4⟩ := Bs.of_own hown4
    have H4 : Kp _ := ⟨hbs4⟩
    have hB4 : Below w0.heap.size w0 w4 := hB3.trans hb4
    have HA4 : Kp (Bs w4 w4.heap.size A n c (keyL key)) := ⟨(HA3.out.below hB4).more hB4.size⟩
    have HK4 : Kp _ := ⟨HK3.out.below hb4 hlt2⟩
    have hB14 := hB13.trans (hb4.mono hle2)
    have hs4 := hB4.size
    clear hown4 hg4 hbs4 H3 HB3 HA3 HK3 hB13 hb4 hB3 hs3
    go_wp2_with fail
    refine ((refpad_any _ _ _ _ 92 _ _ (Nat.le_refl _) HA4.out) : Calls _ _ #[_, .int .u8 92] _ _).mono ?_
    rintro e w5 ⟨v5, rfl, hown5, hB5⟩
    have H5 : Kp _ := ⟨hown5⟩
    have H45 : Kp _ := ⟨H4.out.next hB5 (Nat.le_refl _)⟩
    have HK5 : Kp _ := ⟨HK4.out.below hB5 (by omega)⟩
    have hB15 := hB14.trans (hB5.mono (by have := hB14.size; omega))
    have hs5 := hB5.size
    clear hown5 H4 HA4 HK4 hB14
    go_wp2_with fail
    refine (refsum_any _ _ _ _ _ H45.out (by omega)).mono ?_
    rintro e w6 ⟨rfl, hB6⟩
    have H6 : Kp _ := ⟨own_below H5.out hB6⟩
    have HK6 : Kp _ := ⟨HK5.out.below hB6 (by omega)⟩
    have hB16 := hB15.trans (hB6.mono (by omega))
    have hs6 := hB6.size
    clear H5 H45 HK5 hB15
    go_wp2_with fail
    refine (slice_any _ (shaL_len _) _).mono ?_
    rintro e w7 ⟨v7, rfl, hown7, hB7⟩
    obtain ⟨A7, c7, rfl, hbs7⟩ := Bs.of_own hown7
    have H77 : Kp _ := ⟨hbs7⟩
    have H7 : Kp _ := ⟨own_below H6.out hB7⟩
    have HK7 : Kp _ := ⟨HK6.out.below hB7 (by omega)⟩
    have hB17 := hB16.trans (hB7.mono (by omega))
    have hs7 := hB7.size
    clear hown7 hbs7 H6 HK6 hB16
    go_wp2_with (at_builtin; refine wpList_app el8 rfl _ _ rfl w4.heap.size _ 64 (cells8 (padK (keyL key) 92 64)) rfl H7.out A7 32 c7 (cells8 (shaL (padK (keyL key) 54 64 ++ b))) rfl (by rw [cells8_length, shaL_len]) ?_ H77.out.news (cells8_one _) (by simp only [maxLen]; omega) (by omega) (by omega) ?_)
    · exact fun h => absurd (H77.out.nil h) (by have := H77.out.cap; omega)
    intro v8 w8 hown8 hg8 _
    have hb8 : Below w4.heap.size w7 w8 := below_of_grown H7.out (by omega) hg8
    rw [← cells8_append] at hown8
    obtain ⟨A8, c8, rfl, hbs8⟩ := Bs.of_own hown8
    have H8 : Kp _ := ⟨hbs8⟩
    have HK8 : Kp _ := ⟨HK7.out.below hb8 (by omega)⟩
    have hB18 := hB17.trans (hb8.mono (by omega))
    have hs8 := hb8.size
    clear hown8 hg8 hbs8 H7 H77 HK7 hB17
    go_wp2_with fail
    refine (refsum_any _ _ _ _ _ H8.out (by omega)).mono ?_
    rintro e w9 ⟨rfl, hB9⟩
    have HK9 : Kp _ := ⟨HK8.out.below hB9 (by omega)⟩
    have hB19 := hB18.trans (hB9.mono (by omega))
    have HLen : Kp ((cells8 (hmacL key b)).length = 32) := ⟨by rw [cells8_length]; exact shaL_len _⟩
    have e9 : shaL (padK (keyL key) 92 64 ++ shaL (padK (keyL key) 54 64 ++ b)) = hmacL key b := rfl
    rw [e9]
    clear e9 H8 HK8 hB18
    obtain ⟨R, hR⟩ : ∃ R, R = hmacL key b := ⟨_, rfl⟩
    rw [← hR] at HLen ⊢
    have HR : Kp _ := ⟨hR⟩
    clear hR
    go_wp2_with (with_reducible refine wpList_storeAll (o := ⟨none, _, _, _, _, _⟩) (vs := cells8 R) rwDig rfl (.tmp 4) (.tmp 26) rfl rfl HK9.out rfl HLen.out (cells8_one _) rfl ?_)
    intro w10 hk10 ho10
    have HK10 : Kp _ := ⟨hk10⟩
    clear hk10
    go_wp2
    exact ret_arr rfl rwDig rfl HK10.out HLen.out rfl ⟨by rw [HR.out], hB19.trans (ho10.below (Nat.le_refl _))⟩
end Go.Proofs.Ytadpfbjpkbpanaa

namespace Go.Proofs.Ytadpfbjpkbpanaa
open Go.RowKit

theorem run_eqItems_bytes {P : Program} {e : TypeId} (he : P.underlying e = some (.int .u8)) (hc : P.cellsOf e = 1) (w : World) (d : Nat) (l m : List UInt8) (hl : l.length = m.length) :
    ∀ (k i : Nat), i + k = l.length → (Op.eqItems (d + 1) e (P.cellsOf e) (cells8 l).toArray (cells8 m).toArray (List.range' i k)).run P w = .ok (l.drop i == m.drop i) w
  | 0, i, h => by
    rw [List.drop_of_length_le (by omega), List.drop_of_length_le (by omega)]
    simp [Op.eqItems]
  | k + 1, i, h => by
    have hi : i < l.length := by omega
    have hi2 : i < m.length := by omega
    have ih := run_eqItems_bytes he hc w d l m hl k (i + 1) (by omega)
    have p1 : (part e (cells8 l).toArray (i * P.cellsOf e)).run P w = .ok (.int .u8 (l[i].toNat : Int)) w := by
      rw [hc, Nat.mul_one]
      exact run_part_plain w (by simp [Program.plainKey, he]) (by simpa using cells8_at l i hi)
    have p2 : (part e (cells8 m).toArray (i * P.cellsOf e)).run P w = .ok (.int .u8 (m[i].toNat : Int)) w := by
      rw [hc, Nat.mul_one]
      exact run_part_plain w (by simp [Program.plainKey, he]) (by simpa using cells8_at m i hi2)
    rw [List.range'_succ]
    simp only [Op.eqItems, Sem.run_bind, p1, p2, Result.andThen_ok, run_equalIn_int w d e .u8 .u8 _ _ he]
    rw [List.drop_eq_getElem_cons hi, List.drop_eq_getElem_cons hi2, List.cons_beq_cons]
    have e1 : ((l[i].toNat : Int) == (m[i].toNat : Int)) = (l[i] == m[i]) := by
      rw [Bool.eq_iff_iff]
      simp only [beq_iff_eq]
      exact ⟨fun h => UInt8.toNat_inj.1 (by omega), fun h => by rw [h]⟩
    rw [e1]
    cases h4 : l[i] == m[i]
    · simp
    · simpa using ih

/-- two arrays of bytes, held against each other -/
structure EqB (P : Program) (t e : TypeId) (n : Nat) : Prop where
  ty : P.underlying t = some (.array n e)
  el : P.underlying e = some (.int .u8)
  one : P.cellsOf e = 1
theorem run_eql_bytes {P : Program} {t e : TypeId} {n : Nat} (E : EqB P t e n) (w : World) (l m : List UInt8) (hl : l.length = n) (hm : m.length = n) :
    (binOp .eql t (.agg (cells8 l).toArray) (.agg (cells8 m).toArray)).run P w = .ok (.bool (l == m)) w := by
  obtain ⟨i, hi⟩ : ∃ i, P.info? e = some i := info_of_underlying E.el
  rw [run_eql_struct, run_equalIn_array w 9999 _ _ E.ty hi, List.range_eq_range', run_eqItems_bytes E.el E.one w 9998 l m (by omega) n 0 (by omega)]
  simp
theorem run_equalIn_bytes {P : Program} {t e : TypeId} {n : Nat} (E : EqB P t e n) (w : World) (l m : List UInt8) (hl : l.length = n) (hm : m.length = n) :
    (Op.equalIn 10000 t (.agg (cells8 l).toArray) (.agg (cells8 m).toArray)).run P w = .ok (l == m) w := by
  obtain ⟨i, hi⟩ : ∃ i, P.info? e = some i := info_of_underlying E.el
  rw [run_equalIn_array w 9999 _ _ E.ty hi, List.range_eq_range', run_eqItems_bytes E.el E.one w 9998 l m (by omega) n 0 (by omega)]
  simp
theorem run_neq_bytes {P : Program} {t e : TypeId} {n : Nat} (E : EqB P t e n) (w : World) (l m : List UInt8) (hl : l.length = n) (hm : m.length = n) :
    (binOp .neq t (.agg (cells8 l).toArray) (.agg (cells8 m).toArray)).run P w = .ok (.bool (!(l == m))) w := by
  obtain ⟨i, hi⟩ : ∃ i, P.info? e = some i := info_of_underlying E.el
  rw [run_neq_struct, run_equalIn_array w 9999 _ _ E.ty hi, List.range_eq_range', run_eqItems_bytes E.el E.one w 9998 l m (by omega) n 0 (by omega)]
  simp
end Go.Proofs.Ytadpfbjpkbpanaa

namespace Go.Proofs.Ytadpfbjpkbpanaa
open Go.RowKit

/-- a record -/
structure Rc where
  num : Nat
  blk : Int
  sl : List UInt8
  su : List (List UInt8)
/-- the record of noughts -/
def rc0 : Rc := ⟨0, 0, [], []⟩

/-- A slice of n of room c at A reads as n digests; all lies below block B. -/
structure Ds (w : World) (B : Nat) (A : Option Addr) (n c : Nat) (ds : List (List UInt8)) : Prop where
  len : ds.length = n
  cap : n ≤ c
  max : c ≤ maxLen
  nil : A = none → c = 0
  wide : ∀ d ∈ ds, d.length = 32
  cells : 0 < n → ∃ b o, A = some ⟨b, o, none⟩ ∧ b < B ∧ ∀ i (h : i < ds.length), w.rangeAt b (o + i * 32) (cells8 ds[i])
section
variable {w w' : World} {B B' : Nat} {A : Option Addr} {n c : Nat} {ds : List (List UInt8)}
theorem Ds.zero (w : World) (B : Nat) : Ds w B none 0 0 [] := ⟨rfl, Nat.le_refl _, Nat.zero_le _, fun _ => rfl, (fun d h => by cases h), fun h => absurd h (by omega)⟩
theorem Ds.le (h : Ds w B A n c ds) : n ≤ 9223372036854775807 := by have := h.cap; have := h.max; simp only [maxLen] at this; omega
theorem Ds.keep (h : Ds w B A n c ds) (hk : ∀ p : Addr, p.block < B → w'.cell? p = w.cell? p) : Ds w' B A n c ds :=
  ⟨h.len, h.cap, h.max, h.nil, h.wide, fun h0 => by
    obtain ⟨b, o, hA, hb, hc⟩ := h.cells h0
    exact ⟨b, o, hA, hb, fun i hi j u hu => (hk _ hb).trans (hc i hi j u hu)⟩⟩
theorem Ds.more (h : Ds w B A n c ds) (hB : B ≤ B') : Ds w B' A n c ds :=
  ⟨h.len, h.cap, h.max, h.nil, h.wide, fun h0 => by
    obtain ⟨b, o, hA, hb, hc⟩ := h.cells h0
    exact ⟨b, o, hA, by omega, hc⟩⟩
theorem Ds.below (h : Ds w B A n c ds) (hb : Below B w w') : Ds w' B A n c ds := h.keep fun _ hp => hb.cell hp
theorem Ds.drew (h : Ds w B A n c ds) : Ds w.drew B A n c ds := h.keep fun _ _ => rfl
theorem Ds.next (h : Ds w B A n c ds) (hb : Below w.heap.size w w') (hB : B ≤ w.heap.size) : Ds w' w'.heap.size A n c ds :=
  (h.below (hb.mono hB)).more (Nat.le_trans hB hb.size)
theorem Ds.at (h : Ds w B A n c ds) {i : Nat} (hi : i < n) : ∃ b o, A = some ⟨b, o, none⟩ ∧ b < B ∧ w.rangeAt b (o + i * 32) (cells8 (ds[i]'(by have := h.len; omega))) ∧ (ds[i]'(by have := h.len; omega)).length = 32 := by
  obtain ⟨b, o, hA, hb, hc⟩ := h.cells (by omega)
  exact ⟨b, o, hA, hb, hc i (by have := h.len; omega), h.wide _ (List.getElem_mem _)⟩
/-- the cells of so many digests -/
theorem flat_len (ds : List (List UInt8)) (h : ∀ d ∈ ds, d.length = 32) : ds.flatten.length = ds.length * 32 := by
  induction ds with
  | nil => rfl
  | cons d ds ih =>
    rw [List.flatten_cons, List.length_append, h d (List.mem_cons_self ..), ih (fun x hx => h x (List.mem_cons_of_mem _ hx)), List.length_cons]; omega
theorem flat_at (ds : List (List UInt8)) (h : ∀ d ∈ ds, d.length = 32) (i : Nat) (hi : i < ds.length) : (ds.flatten.drop (i * 32)).take 32 = ds[i] := by
  induction ds generalizing i with
  | nil => simp at hi
  | cons d ds ih =>
    have hd := h d (List.mem_cons_self ..)
    rw [List.flatten_cons]
    match i with
    | 0 => rw [Nat.zero_mul, List.drop_zero, ← hd, List.take_left]; rfl
    | i + 1 =>
      rw [show (i + 1) * 32 = d.length + i * 32 by omega, List.drop_append]
      rw [List.drop_of_length_le (by omega), List.nil_append, show d.length + i * 32 - d.length = i * 32 by omega]
      exact ih (fun x hx => h x (List.mem_cons_of_mem _ hx)) i (by simpa using hi)
theorem Ds.of_own {base : Nat} {e : TypeId} {v : Value} (hd : ∀ d ∈ ds, d.length = 32) (h : w.ownsRow base e 32 v n (cells8 ds.flatten)) : ∃ A c, v = .slice A n c ∧ Ds w w.heap.size A n c ds := by
  have hl : ds.length = n := by
    have := h.1
    rw [cells8_length, flat_len ds hd] at this
    omega
  rcases h.2 with ⟨rfl, rfl⟩ | ⟨g, cap, cur, rfl, hg, hh, hn, hm, hs, ht⟩
  · obtain rfl : ds = [] := List.eq_nil_of_length_eq_zero hl
    exact ⟨none, 0, rfl, Ds.zero w _⟩
  · refine ⟨some ⟨g, 0, none⟩, cap, rfl, hl, hn, hm, (fun h => by cases h), hd, fun h0 => ⟨g, 0, rfl, (Array.getElem?_eq_some_iff.1 hh).1, fun i hi j u hu => ?_⟩⟩
    obtain ⟨hj, rfl⟩ := cells8_some hu
    have hd32 := hd _ (List.getElem_mem hi)
    have hf := flat_len ds hd
    have hlt : i * 32 + j < ds.flatten.length := by rw [hf]; omega
    have h1 := h.cells (g := g) rfl (i * 32 + j) _ (cells8_at _ _ hlt)
    rw [Addr.add_lit] at h1
    have e1 : ds.flatten[i * 32 + j] = ds[i][j] := by
      have h2 : ((ds.flatten.drop (i * 32)).take 32)[j]? = ds[i][j]? := by rw [flat_at ds hd i hi]
      rw [List.getElem?_take_of_lt (by omega), List.getElem?_drop, List.getElem?_eq_getElem hlt, List.getElem?_eq_getElem hj] at h2
      exact Option.some.inj h2
    rw [e1] at h1
    rw [← h1]
    congr 2
    omega
theorem Ds.news (h : Ds w B A n c ds) : ∀ ad, A = some ad → ∀ j u, (cells8 ds.flatten)[j]? = some u → w.cell? (ad.add j) = some u := by
  intro ad hA j u hu
  obtain ⟨hj, rfl⟩ := cells8_some hu
  have hf := flat_len ds h.wide
  have hl := h.len
  obtain ⟨b, o, hA', _, hc⟩ := h.cells (by omega)
  rw [hA] at hA'
  obtain rfl := Option.some.inj hA'
  rw [Addr.add_lit]
  have hi : j / 32 < ds.length := by omega
  have hd32 := h.wide _ (List.getElem_mem hi)
  have hj2 : j % 32 < ds[j / 32].length := by omega
  have h1 := hc (j / 32) hi (j % 32) _ (cells8_at _ _ hj2)
  have e1 : ds.flatten[j] = ds[j / 32][j % 32] := by
    have h2 : ((ds.flatten.drop (j / 32 * 32)).take 32)[j % 32]? = ds[j / 32][j % 32]? := by rw [flat_at ds h.wide (j / 32) hi]
    rw [List.getElem?_take_of_lt (by omega), List.getElem?_drop, List.getElem?_eq_getElem (by omega), List.getElem?_eq_getElem hj2] at h2
    have h3 := Option.some.inj h2
    rw [← h3]
    congr 1
    omega
  rw [e1, ← h1]
  congr 2
  omega
end
/-- four things by value read as a record; all lies below block B. -/
structure Rs (w : World) (B : Nat) (A : Option Addr) (n c : Nat) (D : Option Addr) (m e : Nat) (r : Rc) : Prop where
  num : r.num < 18446744073709551616
  blk : -9223372036854775808 ≤ r.blk ∧ r.blk < 9223372036854775808
  sl : Bs w B A n c r.sl
  su : Ds w B D m e r.su
abbrev rcV (r : Rc) (A : Option Addr) (n c : Nat) (D : Option Addr) (m e : Nat) : Value := .agg #[.int .u64 r.num, .int .i64 r.blk, .slice A n c, .slice D m e]
section
variable {w w' : World} {B B' : Nat} {A D : Option Addr} {n c m e : Nat} {r : Rc}
theorem Rs.below (h : Rs w B A n c D m e r) (hb : Below B w w') : Rs w' B A n c D m e r := ⟨h.num, h.blk, h.sl.below hb, h.su.below hb⟩
theorem Rs.more (h : Rs w B A n c D m e r) (hB : B ≤ B') : Rs w B' A n c D m e r := ⟨h.num, h.blk, h.sl.more hB, h.su.more hB⟩
theorem Rs.next (h : Rs w B A n c D m e r) (hb : Below w.heap.size w w') (hB : B ≤ w.heap.size) : Rs w' w'.heap.size A n c D m e r := ⟨h.num, h.blk, h.sl.next hb hB, h.su.next hb hB⟩
theorem Rs.drew (h : Rs w B A n c D m e r) : Rs w.drew B A n c D m e r := ⟨h.num, h.blk, h.sl.drew, h.su.drew⟩
theorem Rs.zero (w : World) (B : Nat) : Rs w B none 0 0 none 0 0 rc0 := ⟨by decide, by decide, Bs.zero w B, Ds.zero w B⟩
end

/-- how many partitions -/
def partsI (b : Int) : Int := if b < 1 then 0 else (b - 1) / 16 + 1
def groupsI (b e : Int) : Int := if b < 1 then 0 else (b - 1) / e + 1
/-- a bit -/
def slotN (l : List UInt8) (i : Nat) : Nat := (l.getD (i / 8) 0).toNat / 2 ^ (i % 8) % 2
def slotI (l : List UInt8) (at_ : Int) : Nat := if at_ < 0 then 0 else slotN l at_.toNat
/-- it may be -/
structure Rt (r : Rc) : Prop where
  lo : 0 ≤ r.blk
  hi : r.blk ≤ 4096
  sl : r.sl.length = (r.blk.toNat + 7) / 8
  su : r.su.length = (r.blk.toNat + 15) / 16
  zero : ∀ i, r.blk.toNat ≤ i → i < 8 * r.sl.length → slotN r.sl i = 0
noncomputable instance rtDec (r : Rc) : Decidable (Rt r) := Classical.propDecidable _
/-- one bit turned -/
def flipL (l : List UInt8) (i : Nat) : List UInt8 := l.set (i / 8) (l.getD (i / 8) 0 ^^^ UInt8.ofNat (2 ^ (i % 8)))
def flipR (r : Rc) (at_ : Int) : Rc := if 0 ≤ at_ ∧ at_ < r.blk then { r with sl := flipL r.sl at_.toNat } else r
end Go.Proofs.Ytadpfbjpkbpanaa

namespace Go.Proofs.Ytadpfbjpkbpanaa
open Go.RowKit

def markL : List UInt8 := [83, 69, 65, 76]
/-- a record's bytes but its tag -/
def bodyL (r : Rc) : List UInt8 := markL ++ putN r.num 8 ++ putN r.blk.toNat 4 ++ r.sl ++ r.su.flatten
def encL (key : List UInt8) (r : Rc) : List UInt8 := bodyL r ++ hmacL key (bodyL r)
/-- digests, one behind the other -/
def cutsL (b : List UInt8) (k : Nat) : List (List UInt8) := (List.range k).map fun i => (b.drop (i * 32)).take 32
/-- what bytes tell in a record's places, whoever made them -/
def readL (b : List UInt8) : Rc :=
  let blk := getN ((b.drop 12).take 4)
  let g := (groupsI blk 8).toNat
  let rest := b.drop (16 + g)
  ⟨getN ((b.drop 4).take 8), blk, (b.drop 16).take g, cutsL rest (min (partsI blk).toNat (rest.length / 32))⟩
/-- what can lie in memory -/
structure Rg (r : Rc) : Prop where
  num : r.num < 18446744073709551616
  wide : ∀ d ∈ r.su, d.length = 32
/-- the record that bytes are, if any -/
def IsEnc (key b : List UInt8) (r : Rc) : Prop := Rg r ∧ Rt r ∧ encL key r = b
open Classical in
noncomputable def decO (key b : List UInt8) : Option Rc := if h : ∃ r, IsEnc key b r then some h.choose else none

theorem bodyL_len (r : Rc) (h : Rg r) : (bodyL r).length = 16 + r.sl.length + 32 * r.su.length := by
  unfold bodyL
  rw [List.length_append, List.length_append, List.length_append, List.length_append, putN_length, putN_length, flat_len _ h.wide]
  simp [markL]; omega
theorem encL_len (key : List UInt8) (r : Rc) (h : Rg r) : (encL key r).length = 48 + r.sl.length + 32 * r.su.length := by
  unfold encL
  rw [List.length_append, bodyL_len r h]
  unfold hmacL
  rw [shaL_len]; omega
theorem groups8 (b : Nat) : (groupsI (b : Int) 8).toNat = (b + 7) / 8 := by unfold groupsI; split <;> omega
theorem parts16 (b : Nat) : (partsI (b : Int)).toNat = (b + 15) / 16 := by unfold partsI; split <;> omega
theorem cutsL_flat (ds : List (List UInt8)) (h : ∀ d ∈ ds, d.length = 32) (t : List UInt8) : cutsL (ds.flatten ++ t) ds.length = ds := by
  unfold cutsL
  refine List.ext_getElem (by simp) fun i h1 h2 => ?_
  have hf := flat_len ds h
  simp only [List.getElem_map, List.getElem_range]
  rw [List.drop_append, List.take_append]
  rw [flat_at ds h i h2, List.length_drop, show 32 - (ds.flatten.length - i * 32) = 0 by omega, List.take_zero, List.append_nil]
/-- what was sealed is read as it was, whatever stands behind it -/
theorem readL_body (r : Rc) (hg : Rg r) (ht : Rt r) (t : List UInt8) : readL (bodyL r ++ t) = r := by
  obtain ⟨num, blk, sl, su⟩ := r
  obtain ⟨b, rfl⟩ : ∃ b : Nat, blk = (b : Int) := ⟨blk.toNat, by have := ht.lo; simp at this ⊢; omega⟩
  have hsl : sl.length = (b + 7) / 8 := by simpa using ht.sl
  have hsu : su.length = (b + 15) / 16 := by simpa using ht.su
  have hb : b ≤ 4096 := by have := ht.hi; simp at this; omega
  have hw : ∀ d ∈ su, d.length = 32 := hg.wide
  have hnum : num < 18446744073709551616 := hg.num
  have e0 : bodyL ⟨num, (b : Int), sl, su⟩ ++ t = markL ++ (putN num 8 ++ (putN b 4 ++ (sl ++ (su.flatten ++ t)))) := by simp [bodyL, List.append_assoc]
  rw [e0]
  have m4 : markL.length = 4 := rfl
  have p8 := putN_length num 8
  have p4 := putN_length b 4
  have d4 : (markL ++ (putN num 8 ++ (putN b 4 ++ (sl ++ (su.flatten ++ t))))).drop 4 = putN num 8 ++ (putN b 4 ++ (sl ++ (su.flatten ++ t))) := List.drop_left' m4
  have d12 : (markL ++ (putN num 8 ++ (putN b 4 ++ (sl ++ (su.flatten ++ t))))).drop 12 = putN b 4 ++ (sl ++ (su.flatten ++ t)) := by
    rw [show 12 = 4 + 8 by rfl, ← List.drop_drop, d4]; exact List.drop_left' p8
  have d16 : (markL ++ (putN num 8 ++ (putN b 4 ++ (sl ++ (su.flatten ++ t))))).drop 16 = sl ++ (su.flatten ++ t) := by
    rw [show 16 = 12 + 4 by rfl, ← List.drop_drop, d12]; exact List.drop_left' p4
  have g4 : getN ((putN b 4 ++ (sl ++ (su.flatten ++ t))).take 4) = b := by
    rw [List.take_left' p4, getN_putN]
    exact Nat.mod_eq_of_lt (by omega)
  have g8 : getN ((putN num 8 ++ (putN b 4 ++ (sl ++ (su.flatten ++ t)))).take 8) = num := by
    rw [List.take_left' p8, getN_putN]
    exact Nat.mod_eq_of_lt (by omega)
  have dr : (markL ++ (putN num 8 ++ (putN b 4 ++ (sl ++ (su.flatten ++ t))))).drop (16 + (b + 7) / 8) = su.flatten ++ t := by
    rw [← List.drop_drop, d16]; exact List.drop_left' hsl
  unfold readL
  simp only [d4, d12, d16, g4, g8, groups8, parts16, dr]
  have hf := flat_len su hw
  rw [← hsl, List.take_left, ← hsu, Nat.min_eq_left (by rw [List.length_append, hf]; omega), cutsL_flat su hw]
theorem readL_enc (key : List UInt8) (r : Rc) (hg : Rg r) (ht : Rt r) : readL (encL key r) = r := readL_body r hg ht _
theorem decO_of (key b : List UInt8) (r : Rc) (h : IsEnc key b r) : decO key b = some r := by
  have hx : ∃ r, IsEnc key b r := ⟨r, h⟩
  unfold decO
  rw [dif_pos hx]
  have h1 := hx.choose_spec
  rw [← readL_enc key r h.1 h.2.1, h.2.2, ← readL_enc key hx.choose h1.1 h1.2.1, h1.2.2]
theorem decO_none (key b : List UInt8) (h : ¬ ∃ r, IsEnc key b r) : decO key b = none := by
  unfold decO; rw [dif_neg h]
theorem decO_is {key b : List UInt8} {r : Rc} (h : decO key b = some r) : IsEnc key b r := by
  unfold decO at h
  split at h
  · rename_i hx; exact Option.some.inj h ▸ hx.choose_spec
  · cases h
theorem decO_read (key b : List UInt8) : (decO key b = none ∧ ¬ IsEnc key b (readL b)) ∨ (decO key b = some (readL b) ∧ IsEnc key b (readL b)) := by
  by_cases h : IsEnc key b (readL b)
  · exact .inr ⟨decO_of _ _ _ h, h⟩
  · refine .inl ⟨decO_none _ _ fun ⟨r, hr⟩ => h ?_, h⟩
    have : readL b = r := by rw [← hr.2.2]; exact readL_enc key r hr.1 hr.2.1
    rw [this]; exact hr
/-- the first that is one of such a number -/
noncomputable def pickO (key : List UInt8) (n : Nat) (l : List (List UInt8)) : Option Rc := (l.filterMap (decO key)).find? fun r => r.num = n
noncomputable def chooseO (key : List UInt8) (n : Nat) (l : List (List UInt8)) : Option Rc :=
  ((if n + 1 < 18446744073709551616 then pickO key (n + 1) l else none).or (pickO key n l))
end Go.Proofs.Ytadpfbjpkbpanaa

namespace Go.Proofs.Ytadpfbjpkbpanaa
open Go.RowKit

set_option maxHeartbeats 1000000 in
theorem groups8_any (b : Int) (w : World) (hb : -9223372036854775808 ≤ b ∧ b < 9223372036854775808) :
    Calls Try.prog 34 #[.int .i64 b, .int .i64 8] w fun x w' => x = .returned (.int .i64 (groupsI b 8)) ∧ w' = w := by
  obtain ⟨h1, h2⟩ := hb
  by_cases h : b < 1
  · have HG : Kp (groupsI b 8 = 0) := ⟨by unfold groupsI; rw [if_pos h]⟩
    go_enter Try.func34, Try.ntmps34
    go_wp2
    go_ret
    exact ⟨ret_eq (by rw [HG.out]; rfl), rfl⟩
  · obtain ⟨k, rfl⟩ : ∃ k : Nat, b = (k : Int) + 1 := ⟨(b - 1).toNat, by omega⟩
    have HG : Kp (groupsI ((k : Int) + 1) 8 = ((k / 8 + 1 : Nat) : Int)) := ⟨by unfold groupsI; rw [if_neg h]; omega⟩
    rw [HG.out]
    clear HG
    go_enter Try.func34, Try.ntmps34
    go_wp2
    go_ret
    exact ⟨ret_eq (by go_num), rfl⟩
set_option maxHeartbeats 1000000 in
theorem groups16_any (b : Int) (w : World) (hb : -9223372036854775808 ≤ b ∧ b < 9223372036854775808) :
    Calls Try.prog 34 #[.int .i64 b, .int .i64 16] w fun x w' => x = .returned (.int .i64 (groupsI b 16)) ∧ w' = w := by
  obtain ⟨h1, h2⟩ := hb
  by_cases h : b < 1
  · have HG : Kp (groupsI b 16 = 0) := ⟨by unfold groupsI; rw [if_pos h]⟩
    go_enter Try.func34, Try.ntmps34
    go_wp2
    go_ret
    exact ⟨ret_eq (by rw [HG.out]; rfl), rfl⟩
  · obtain ⟨k, rfl⟩ : ∃ k : Nat, b = (k : Int) + 1 := ⟨(b - 1).toNat, by omega⟩
    have HG : Kp (groupsI ((k : Int) + 1) 16 = ((k / 16 + 1 : Nat) : Int)) := ⟨by unfold groupsI; rw [if_neg h]; omega⟩
    rw [HG.out]
    clear HG
    go_enter Try.func34, Try.ntmps34
    go_wp2
    go_ret
    exact ⟨ret_eq (by go_num), rfl⟩
theorem parts_any (b : Int) (w : World) (hb : -9223372036854775808 ≤ b ∧ b < 9223372036854775808) :
    Calls Try.prog 27 #[.int .i64 b] w fun x w' => x = .returned (.int .i64 (partsI b)) ∧ w' = w := by
  have HB : Kp _ := ⟨hb⟩
  clear hb
  go_enter Try.func27, Try.ntmps27
  go_wp2_with fail
  refine (groups16_any b w HB.out).mono ?_
  rintro x w1 ⟨rfl, rfl⟩
  go_wp2
  go_ret
  exact ⟨ret_eq rfl, rfl⟩
set_option maxHeartbeats 1000000 in
theorem refparts_any (b : Int) (w : World) (hb : -9223372036854775808 ≤ b ∧ b ≤ 1000000) :
    Calls Try.prog 28 #[.int .i64 b] w fun x w' => x = .returned (.int .i64 (partsI b)) ∧ w' = w := by
  obtain ⟨h1, h2⟩ := hb
  go_enter Try.func28, Try.ntmps28
  go_wp2
  go_loop [3] (fun i => ∃ k : Nat, (k : Int) ≤ partsI b ∧ k ≤ 1000000 ∧ i = .int .i64 k) (fun i => 1000001 - (intOf i).toNat)
  case atStart => exact ⟨0, by unfold partsI; split <;> omega, by omega, rfl⟩
  case round =>
    obtain ⟨k, hk, hk2, rfl⟩ := hrel
    by_cases hlt : 16 * (k : Int) < b
    · have HP : Kp ((k : Int) + 1 ≤ partsI b) := ⟨by unfold partsI; split <;> omega⟩
      clear hk
      go_wp2
      go_round
      case rel => exact ⟨k + 1, by have := HP.out; omega, by omega, by go_num⟩
      case measure => simp [intOf]; omega
    · have HP : Kp (partsI b = (k : Int)) := ⟨by unfold partsI at hk ⊢; split <;> (split at hk <;> omega)⟩
      clear hk
      go_wp2
      go_ret
      exact ⟨ret_eq (by rw [HP.out]; rfl), rfl⟩
theorem slot_and (x : UInt8) (k : Nat) (hk : k < 8) : bits .and .u8 ((x.toNat : Int) / 2 ^ k) 1 = ((x.toNat / 2 ^ k % 2 : Nat) : Int) := by
  have hx := x.toNat_lt
  rcases (by omega : k = 0 ∨ k = 1 ∨ k = 2 ∨ k = 3 ∨ k = 4 ∨ k = 5 ∨ k = 6 ∨ k = 7) with rfl | rfl | rfl | rfl | rfl | rfl | rfl | rfl
  all_goals
    generalize x.toNat = y at *
    revert y
    decide +kernel
end Go.Proofs.Ytadpfbjpkbpanaa

namespace Go.Proofs.Ytadpfbjpkbpanaa
open Go.RowKit

theorem slotI_neg (l : List UInt8) (a : Int) (h : a < 0) : slotI l a = 0 := by unfold slotI; rw [if_pos h]
theorem slotI_far (l : List UInt8) (k : Nat) (h : l.length ≤ k / 8) : slotI l (k : Int) = 0 := by
  unfold slotI slotN
  rw [if_neg (by omega), Int.toNat_natCast]
  have : l.getD (k / 8) 0 = 0 := by simp [List.getD, List.getElem?_eq_none h]
  rw [this]; simp
theorem slotI_at (l : List UInt8) (k q j : Nat) (hq : k / 8 = q) (hj : k % 8 = j) (h : q < l.length) : slotI l (k : Int) = l[q].toNat / 2 ^ j % 2 := by
  unfold slotI slotN
  rw [if_neg (by omega), Int.toNat_natCast, hq, hj]
  have : l.getD q 0 = l[q] := by simp [List.getD, List.getElem?_eq_getElem h]
  rw [this]
set_option maxRecDepth 100000 in
set_option maxHeartbeats 1000000 in
theorem slot_any (r : Rc) (A : Option Addr) (n c : Nat) (D : Option Addr) (m e : Nat) (a : Int) (w : World) (hR : Rs w w.heap.size A n c D m e r) (ha : -9223372036854775808 ≤ a ∧ a < 9223372036854775808) :
    Calls Try.prog 17 #[rcV r A n c D m e, .int .i64 a] w fun x w' => x = .returned (.int .i64 (slotI r.sl a : Nat)) ∧ Below w.heap.size w w' := by
  obtain ⟨num, blk, sl, su⟩ := r
  obtain ⟨h1, h2⟩ := ha
  have hs : Bs w w.heap.size A n c sl := hR.sl
  have hn := hs.le
  have HL : Kp (sl.length = n) := ⟨hs.len⟩
  have HB : Kp (Below w.heap.size w (w.alloc (.cells #[.int .u64 num, .int .i64 blk, .slice A n c, .slice D m e] 26))) := ⟨(Below.refl _ _).alloc (Nat.le_refl _) _⟩
  clear hR
  by_cases h : a < 0
  · have HG : Kp (slotI sl a = 0) := ⟨slotI_neg sl a h⟩
    go_enter Try.func17, Try.ntmps17
    go_wp2
    go_ret
    exact ⟨ret_eq (by simp only [HG.out]; rfl), HB.out⟩
  · obtain ⟨k, rfl⟩ : ∃ k : Nat, a = (k : Int) := ⟨a.toNat, by omega⟩
    obtain ⟨q, hq⟩ : ∃ q, k / 8 = q := ⟨_, rfl⟩
    obtain ⟨j, hj⟩ : ∃ j, k % 8 = j := ⟨_, rfl⟩
    have hj8 : j < 8 := by omega
    have hq60 : q < 1152921504606846976 := by omega
    have hk0 : (0 : Int) ≤ (k : Int) := by omega
    have kq : ((k : Int)).tdiv 8 = (q : Int) := by rw [Int.tdiv_eq_ediv_of_nonneg (by omega)]; omega
    have kj : ((k : Int)).tmod 8 = (j : Int) := by rw [Int.tmod_eq_emod_of_nonneg (by omega)]; omega
    by_cases hlt : q < n
    · have hql : q < sl.length := by rw [HL.out]; exact hlt
      obtain ⟨b, o, rfl, hb, hc⟩ := hs.cell hlt
      have HG : Kp _ := ⟨slotI_at sl k q j hq hj hql⟩
      have ha := slot_and sl[q] j hj8
      have hv2 : sl[q].toNat / 2 ^ j % 2 < 2 := Nat.mod_lt _ (by omega)
      generalize sl[q].toNat / 2 ^ j % 2 = v at *
      have hc2 : (w.alloc (.cells #[.int .u64 num, .int .i64 blk, .slice (some ⟨b, o, none⟩) n c, .slice D m e] 26)).cell? ⟨b, o + q, none⟩ = some (.int .u8 (sl[q].toNat : Int)) := by rw [World.cell?_alloc_past _ _ _ hb]; exact hc
      clear hq hj hs hc h1 h2 hn
      go_enter Try.func17, Try.ntmps17
      go_wp2
      go_ret
      exact ⟨ret_eq (by simp only [HG.out]; rfl), HB.out⟩
    · have HG : Kp _ := ⟨slotI_far sl k (by rw [HL.out]; omega)⟩
      clear hq hj h1 h2 hn
      go_enter Try.func17, Try.ntmps17
      go_wp2
      go_ret
      exact ⟨ret_eq (by simp only [HG.out]; rfl), HB.out⟩
end Go.Proofs.Ytadpfbjpkbpanaa
