/- The contract of package sha's compress. -/
import Derived.Test.YtjllfaeamjadcaaSched
namespace Go.Proofs.Ytjllfaeamjadcaa
open Go.RowKit

def zeroSt : List Value := cells32 (List.replicate 8 0)
theorem tySt : Ty Try.prog 72 zeroSt := ⟨by kernel_rfl⟩
theorem rwSt : Rw Try.prog 72 (.array 8 70) 8 := ⟨by kernel_rfl, rfl, by kernel_rfl⟩

set_option maxRecDepth 100000 in
set_option maxHeartbeats 4000000 in
theorem start_any (w : World) : Calls Try.prog 50 #[] w fun e w' => e = .returned (.agg (cells32 St0.list).toArray) ∧ Below w.heap.size w w' := by
  go_enter Try.func50, Try.ntmps50
  go_wp2_with (with_reducible refine wpList_alloc (o := ⟨some 0, _, _, _, _, _⟩) tySt rfl rfl ?_)
  intro w1 hk1 hb1 hs1
  have HK1 : Kp _ := ⟨hk1⟩
  have HZ : Kp (zeroSt.length = 8) := ⟨rfl⟩
  have HL : Kp ((cells32 St0.list).length = 8) := ⟨rfl⟩
  clear hk1
  go_wp2_with (with_reducible refine wpList_storeAll (o := ⟨none, _, _, _, _, _⟩) (vs := cells32 St0.list) rwSt rfl (.tmp 0) (.tmp 1) rfl rfl HK1.out HZ.out HL.out (cells32_one _) rfl ?_)
  intro w2 hk2 ho2
  have HK2 : Kp _ := ⟨hk2⟩
  clear hk2
  go_wp2
  exact ret_arr rfl rwSt rfl HK2.out HL.out rfl ⟨rfl, hb1.trans (ho2.below (by omega))⟩
set_option maxRecDepth 100000 in
set_option maxHeartbeats 4000000 in
theorem keys_any (w : World) : Calls Try.prog 56 #[] w fun e w' => e = .returned (.agg (cells32 KL).toArray) ∧ Below w.heap.size w w' := by
  go_enter Try.func56, Try.ntmps56
  go_wp2_with (with_reducible refine wpList_alloc (o := ⟨some 0, _, _, _, _, _⟩) ty64 rfl rfl ?_)
  intro w1 hk1 hb1 hs1
  have HK1 : Kp _ := ⟨hk1⟩
  have HZ : Kp (zeroW.length = 64) := ⟨rfl⟩
  have HL : Kp ((cells32 KL).length = 64) := ⟨rfl⟩
  clear hk1
  go_wp2_with (with_reducible refine wpList_storeAll (o := ⟨none, _, _, _, _, _⟩) (vs := cells32 KL) rw64 rfl (.tmp 0) (.tmp 1) rfl rfl HK1.out HZ.out HL.out (cells32_one _) rfl ?_)
  intro w2 hk2 ho2
  have HK2 : Kp _ := ⟨hk2⟩
  clear hk2
  go_wp2
  exact ret_arr rfl rw64 rfl HK2.out HL.out rfl ⟨rfl, hb1.trans (ho2.below (by omega))⟩

theorem u32_sum' (a b : UInt32) : ((a.toNat : Int) + (b.toNat : Int)) % 4294967296 = ((a + b).toNat : Int) := by
  rw [UInt32.toNat_add]; omega
/-- the first j words are added -/
def mixS (s X : St) (j : Nat) : List UInt32 := (addS s X).list.take j ++ s.list.drop j
theorem St_at (s : St) (j : Nat) (h : j < 8) : (cells32 s.list)[j]? = some (.int .u32 ((s.list.getD j 0).toNat : Int)) := by
  have : j = 0 ∨ j = 1 ∨ j = 2 ∨ j = 3 ∨ j = 4 ∨ j = 5 ∨ j = 6 ∨ j = 7 := by omega
  rcases this with rfl | rfl | rfl | rfl | rfl | rfl | rfl | rfl <;> rfl
theorem mixS_at (s X : St) (j : Nat) (h : j < 8) : (cells32 (mixS s X j))[j]? = some (.int .u32 ((s.list.getD j 0).toNat : Int)) := by
  have : j = 0 ∨ j = 1 ∨ j = 2 ∨ j = 3 ∨ j = 4 ∨ j = 5 ∨ j = 6 ∨ j = 7 := by omega
  rcases this with rfl | rfl | rfl | rfl | rfl | rfl | rfl | rfl <;> rfl
theorem mixS_next (s X : St) (j : Nat) (h : j < 8) : (cells32 (mixS s X j)).set j (.int .u32 ((s.list.getD j 0 + X.list.getD j 0).toNat : Int)) = cells32 (mixS s X (j + 1)) := by
  have : j = 0 ∨ j = 1 ∨ j = 2 ∨ j = 3 ∨ j = 4 ∨ j = 5 ∨ j = 6 ∨ j = 7 := by omega
  rcases this with rfl | rfl | rfl | rfl | rfl | rfl | rfl | rfl <;> rfl

set_option maxRecDepth 100000 in
set_option maxHeartbeats 4000000 in
theorem compress_any (s : St) (b : List UInt8) (w : World) (hb : b.length = 64) :
    Calls Try.prog 51 #[.agg (cells32 s.list).toArray, .agg (cells8 b).toArray] w fun e w' => e = .returned (.agg (cells32 (stepS s b).list).toArray) ∧ Below w.heap.size w w' := by
  have HL : Kp (b.length = 64) := ⟨hb⟩
  have HL8 : Kp ((cells8 b).length = 64) := ⟨by rw [cells8_length]; exact hb⟩
  clear hb
  go_enter Try.func51, Try.ntmps51
  go_wp2_with (with_reducible refine wpList_box (o := ⟨some 2, _, _, _, _, _⟩) rfl (.tmp 0) rfl rfl ?_)
  intro w1 hk1 hb1 hs1
  have HK1 : Kp _ := ⟨hk1⟩
  clear hk1
  go_wp2_with (with_reducible refine wpList_box (o := ⟨some 3, _, _, _, _, _⟩) rfl (.tmp 1) rfl rfl ?_)
  intro w2 hk2 hb2 hs2
  have HK2 : Kp _ := ⟨hk2⟩
  clear hk2
  go_wp2_with (with_reducible refine wpList_alloc (o := ⟨some 4, _, _, _, _, _⟩) tySt rfl rfl ?_)
  intro w3 hk3 hb3 hs3
  have HB3 : Kp _ := ⟨hk3⟩
  have HB1 : Kp _ := ⟨(HK1.out.below hb2 (by omega)).below hb3 (by omega)⟩
  have HB2 : Kp _ := ⟨HK2.out.below hb3 (by omega)⟩
  have hB3 : Below w.heap.size w w3 := (hb1.trans (hb2.mono (by omega))).trans (hb3.mono (by omega))
  clear HK1 HK2 hk3 hb1 hb2 hb3 hs1 hs2
  go_wp2_with (with_reducible refine wpList_loadAll (o := ⟨some 20, _, _, _, _, _⟩) rwBlock rfl (.tmp 3) rfl rfl HB2.out HL8.out ?_)
  refine (schedule_any _ _ HL.out).mono ?_
  rintro e w4 ⟨rfl, hb4⟩
  have HWL : Kp ((cells32 (wordsL b)).length = 64) := ⟨by rw [cells32_length, wordsL_length]⟩
  have HKL : Kp ((cells32 KL).length = 64) := ⟨rfl⟩
  have HZ64 : Kp (zeroW.length = 64) := ⟨rfl⟩
  go_wp2_with fail
  refine (keys_any _).mono ?_
  rintro e w5 ⟨rfl, hb5⟩
  go_wp2_with (with_reducible refine wpList_alloc (o := ⟨some 5, _, _, _, _, _⟩) ty64 rfl rfl ?_)
  intro w6 hk6 hb6 hs6
  have HK6 : Kp _ := ⟨hk6⟩
  clear hk6
  go_wp2_with (with_reducible refine wpList_alloc (o := ⟨some 6, _, _, _, _, _⟩) ty64 rfl rfl ?_)
  intro w7 hk7 hb7 hs7
  have HK7 : Kp _ := ⟨hk7⟩
  have HK67 : Kp _ := ⟨HK6.out.below hb7 (by omega)⟩
  clear hk7
  go_wp2_with (with_reducible refine wpList_storeAll (o := ⟨none, _, _, _, _, _⟩) (vs := cells32 (wordsL b)) rw64 rfl (.tmp 5) (.tmp 21) rfl rfl HK67.out HZ64.out HWL.out (cells32_one _) rfl ?_)
  intro w8 hk8 ho8
  have HK8 : Kp _ := ⟨hk8⟩
  have HK78 : Kp _ := ⟨HK7.out.only ho8 (by omega)⟩
  clear hk8
  go_wp2_with (with_reducible refine wpList_storeAll (o := ⟨none, _, _, _, _, _⟩) (vs := cells32 KL) rw64 rfl (.tmp 6) (.tmp 22) rfl rfl HK78.out HZ64.out HKL.out (cells32_one _) rfl ?_)
  intro w9 hk9 ho9
  have HK9 : Kp _ := ⟨hk9⟩
  have n8 := ho8.size
  have n9 := ho9.size
  have n4 := hb4.size
  have n5 := hb5.size
  have hB59 : Below w5.heap.size w5 w9 := (((hb6.mono (by omega)).trans (hb7.mono (by omega))).trans (ho8.below (by omega))).trans (ho9.below (by omega))
  have hB49 : Below w4.heap.size w4 w9 := hb5.trans (hB59.mono (by omega))
  have hB39 : Below w3.heap.size w3 w9 := hb4.trans (hB49.mono (by omega))
  have HS9 : Kp (Blk w9 w.heap.size 72 (cells32 s.list)) := ⟨HB1.out.below hB39 (by omega)⟩
  have HR9 : Kp (Blk w9 (w.heap.size + 1 + 1) 72 zeroSt) := ⟨HB3.out.below hB39 (by omega)⟩
  have HW9 : Kp (Blk w9 w5.heap.size 87 (cells32 (wordsL b))) := ⟨HK8.out.only ho9 (by omega)⟩
  have hB9 : Below w.heap.size w w9 := hB3.trans (hB39.mono (by omega))
  have hl4 : w5.heap.size < w9.heap.size := by omega
  have hl7 : (w5.heap.size + 1) < w9.heap.size := by omega
  have hl1 : w.heap.size + 1 + 1 < w5.heap.size := by omega
  have hl2 : w.heap.size + 1 + 1 < (w5.heap.size + 1) := by omega
  clear HB1 HB2 HB3 HK6 HK7 HK67 HK78 HK8 hb4 hb5 hb6 hb7 ho8 ho9 hs3 hs6 hs7 n5 n9 n4 n8 hB3 hB59 hB49 hB39 HL8 HWL HKL HZ64
  have c0 : w9.cell? ⟨w.heap.size, 0, none⟩ = some (.int .u32 (s.a.toNat : Int)) := HS9.out.cell? 0
  have c1 : w9.cell? ⟨w.heap.size, 1, none⟩ = some (.int .u32 (s.b.toNat : Int)) := HS9.out.cell? 1
  have c2 : w9.cell? ⟨w.heap.size, 2, none⟩ = some (.int .u32 (s.c.toNat : Int)) := HS9.out.cell? 2
  have c3 : w9.cell? ⟨w.heap.size, 3, none⟩ = some (.int .u32 (s.d.toNat : Int)) := HS9.out.cell? 3
  have c4 : w9.cell? ⟨w.heap.size, 4, none⟩ = some (.int .u32 (s.e.toNat : Int)) := HS9.out.cell? 4
  have c5 : w9.cell? ⟨w.heap.size, 5, none⟩ = some (.int .u32 (s.f.toNat : Int)) := HS9.out.cell? 5
  have c6 : w9.cell? ⟨w.heap.size, 6, none⟩ = some (.int .u32 (s.g.toNat : Int)) := HS9.out.cell? 6
  have c7 : w9.cell? ⟨w.heap.size, 7, none⟩ = some (.int .u32 (s.h.toNat : Int)) := HS9.out.cell? 7
  go_wp2_with fail
  go_still (by kernel_rfl)
  change Exit.then _ _ _ _ w9.drew
  clear c0 c1 c2 c3 c4 c5 c6 c7
  go_wp2
  go_loopw [7, 8, 9, 10, 11, 12, 13, 14, 39] (fun v7 v8 v9 v10 v11 v12 v13 v14 v39 wr => ∃ (i : Nat) (a b' c d e f g h : UInt32), i ≤ 64 ∧ v39 = .int .i64 i ∧ v7 = .int .u32 a.toNat ∧ v8 = .int .u32 b'.toNat ∧ v9 = .int .u32 c.toNat ∧ v10 = .int .u32 d.toNat ∧ v11 = .int .u32 e.toNat ∧ v12 = .int .u32 f.toNat ∧ v13 = .int .u32 g.toNat ∧ v14 = .int .u32 h.toNat ∧ Kp (rounds (wordsL b) s i = ⟨a, b', c, d, e, f, g, h⟩) ∧ Below w9.heap.size w9 wr) (fun _ _ _ _ _ _ _ _ v39 _ => 64 - (intOf v39).toNat)
  case atStart => exact ⟨0, s.a, s.b, s.c, s.d, s.e, s.f, s.g, s.h, Nat.zero_le _, rfl, rfl, rfl, rfl, rfl, rfl, rfl, rfl, rfl, ⟨rfl⟩, (Below.refl _ _).drew⟩
  case round =>
    obtain ⟨i, sa, sb, sc, sd, se, sf, sg, sh, hi, rfl, rfl, rfl, rfl, rfl, rfl, rfl, rfl, rfl, HR, hbr⟩ := hrel
    by_cases hlt : i < 64
    · have cw : wr.cell? ⟨w5.heap.size, i, none⟩ = some (.int .u32 (((wordsL b).getD i 0).toNat : Int)) := by
        rw [(HW9.out.below hbr hl4).cell? i, cells32_at _ i (by rw [wordsL_length]; exact hlt)]
        simp [List.getD, List.getElem?_eq_getElem (show i < (wordsL b).length by rw [wordsL_length]; exact hlt)]
      have ck : wr.cell? ⟨(w5.heap.size + 1), i, none⟩ = some (.int .u32 ((KL.getD i 0).toNat : Int)) := by
        rw [(HK9.out.below hbr hl7).cell? i, cells32_at _ i (by rw [KL_length]; exact hlt)]
        simp [List.getD, List.getElem?_eq_getElem (show i < KL.length by rw [KL_length]; exact hlt)]
      have HN : Kp (rounds (wordsL b) s (i + 1) = rnd (rounds (wordsL b) s i) (KL.getD i 0) ((wordsL b).getD i 0)) := ⟨rfl⟩
      generalize KL.getD i 0 = kk at *
      generalize (wordsL b).getD i 0 = ww at *
      go_wp2_with fail
      refine wp_region_still_lit (by kernel_rfl) (by kernel_rfl) ?_
      repeat (first | still_step | still_call (big1_any _ _) | still_call (choose_any _ _ _ _))
      refine wpStill_nil ?_
      change Exit.then _ _ _ _ wr.drew
      rw [u32_add, u32_add, u32_add, u32_add]
      have HT : Kp (sh + big1 se + chR se sf sg + kk + ww = tOf ⟨sa, sb, sc, sd, se, sf, sg, sh⟩ kk ww) := ⟨rfl⟩
      generalize sh + big1 se + chR se sf sg + kk + ww = tt at *
      clear cw ck
      go_wp2_with (first
        | (go_at_call 59; refine (big0_any _ _).mono ?_; rintro e w' ⟨rfl, rfl⟩)
        | (go_at_call 60; refine (most_any _ _ _ _).mono ?_; rintro e w' ⟨rfl, rfl⟩))
      refine ⟨⟨i + 1, tt + uOf ⟨sa, sb, sc, sd, se, sf, sg, sh⟩, sa, sb, sc, sd + tt, se, sf, sg, by omega, by go_num, ?_, rfl, rfl, rfl, ?_, rfl, rfl, rfl, ⟨?_⟩, hbr.drew⟩, by simp [intOf]; omega⟩
      · rw [u32_sum', u32_sum']; rfl
      · rw [u32_sum']
      · rw [HN.out, HR.out, HT.out]; rfl
    · have HI : Kp (i = 64) := ⟨by omega⟩
      have HX : Kp (stepS s b = addS s ⟨sa, sb, sc, sd, se, sf, sg, sh⟩) := ⟨by unfold stepS; rw [← HR.out, HI.out]⟩
      have HSr : Kp _ := ⟨HS9.out.below hbr (by omega)⟩
      have HRr : Kp _ := ⟨HR9.out.below hbr (by omega)⟩
      have hBr : Below w.heap.size w wr := hB9.trans (hbr.mono (by omega))
      have hsr := hbr.size
      have hlr : w.heap.size + 1 + 1 < wr.heap.size := by omega
      obtain ⟨wx, rfl⟩ : ∃ x, x = wr := ⟨wr, rfl⟩
      clear HS9 HR9 HW9 HK9 HR hbr hB9 hsr
      go_wp2_with (with_reducible refine wpList_alloc (o := ⟨some 18, _, _, _, _, _⟩) tySt rfl rfl ?_)
      intro w10 hk10 hb10 hs10
      have HK10 : Kp _ := ⟨hk10⟩
      have HZ8 : Kp (zeroSt.length = 8) := ⟨rfl⟩
      have HL8 : Kp ((cells32 [sa, sb, sc, sd, se, sf, sg, sh]).length = 8) := ⟨rfl⟩
      clear hk10
      go_wp2_with (with_reducible refine wpList_storeAll (o := ⟨none, _, _, _, _, _⟩) (vs := cells32 [sa, sb, sc, sd, se, sf, sg, sh]) rwSt rfl (.tmp 18) (.tmp 87) rfl rfl HK10.out HZ8.out HL8.out (cells32_one _) rfl ?_)
      intro w11 hk11 ho11
      have HX11 : Kp (Blk w11 wx.heap.size 72 (cells32 (St.mk sa sb sc sd se sf sg sh).list)) := ⟨hk11⟩
      clear hk11
      have HS11 : Kp (Blk w11 w.heap.size 72 (cells32 (mixS s ⟨sa, sb, sc, sd, se, sf, sg, sh⟩ 0))) := ⟨(HSr.out.below hb10 (by omega)).only ho11 (by omega)⟩
      have HR11 : Kp _ := ⟨(HRr.out.below hb10 (by omega)).only ho11 (by omega)⟩
      have hB11 : Below w.heap.size w w11 := (hBr.trans (hb10.mono (by omega))).trans (ho11.below (by omega))
      clear HSr HRr hBr hb10 ho11 HK10 hs10
      generalize St.mk sa sb sc sd se sf sg sh = X at *
      go_wp2
      go_loopw [88] (fun v wr => ∃ j : Nat, j ≤ 8 ∧ v = .int .i64 j ∧ Kp (Blk wr w.heap.size 72 (cells32 (mixS s X j))) ∧ Only w.heap.size w11 wr) (fun v _ => 8 - (intOf v).toNat)
      case atStart => exact ⟨0, Nat.zero_le _, rfl, HS11, Only.refl _ _⟩
      case round =>
        clear HS11
        obtain ⟨j, hj, rfl, HB, ho⟩ := hrel
        by_cases hlt2 : j < 8
        · have cs : wr.cell? ⟨w.heap.size, j, none⟩ = some (.int .u32 ((s.list.getD j 0).toNat : Int)) := by rw [HB.out.cell? j]; exact mixS_at s X j hlt2
          have cx : wr.cell? ⟨wx.heap.size, j, none⟩ = some (.int .u32 ((X.list.getD j 0).toNat : Int)) := by rw [(HX11.out.only ho (by omega)).cell? j]; exact St_at X j hlt2
          have hfw := HB.out.frozen j
          have HN : Kp _ := ⟨mixS_next s X j hlt2⟩
          generalize s.list.getD j 0 = ss at *
          generalize X.list.getD j 0 = xx at *
          go_wp2_with fail
          go_still_tail 7, (by kernel_rfl)
          change wpList _ _ _ _ _ wr.drew
          go_wp2
          have HV : Kp _ := ⟨u32_sum' ss xx⟩
          refine ⟨⟨j + 1, by omega, by go_num, ⟨?_⟩, (ho.trans (Only.setCell wr ⟨w.heap.size, j, none⟩ _)).drew⟩, by simp [intOf]; omega⟩
          rw [HV.out]
          have h3 := (HB.out.set j (.int .u32 ((ss + xx).toNat : Int))).drew
          rw [HN.out] at h3
          exact h3
        · have HJ : Kp (j = 8) := ⟨by omega⟩
          have HB8 : Kp (Blk wr w.heap.size 72 (cells32 (stepS s b).list)) := ⟨by
            have h1 := HB.out
            rw [HJ.out] at h1
            rw [HX.out]
            exact h1⟩
          have HLen : Kp ((cells32 (stepS s b).list).length = 8) := ⟨rfl⟩
          have HRr : Kp _ := ⟨HR11.out.only ho (by omega)⟩
          clear HB HX
          go_wp2_with (first
            | (with_reducible refine wpList_loadAll (o := ⟨some 100, _, _, _, _, _⟩) rwSt rfl (.tmp 2) rfl rfl HB8.out HLen.out ?_)
            | (with_reducible refine wpList_storeAll (o := ⟨none, _, _, _, _, _⟩) (vs := cells32 (stepS s b).list) rwSt rfl (.tmp 4) (.tmp 100) rfl rfl HRr.out HZ8.out HLen.out (cells32_one _) rfl ?_))
          intro w13 hk14 ho13
          have HK14 : Kp _ := ⟨hk14⟩
          clear hk14
          go_wp2
          exact ret_arr rfl rwSt rfl HK14.out HLen.out rfl ⟨rfl, (hB11.trans (ho.below (by omega))).trans (ho13.below (by omega))⟩
end Go.Proofs.Ytjllfaeamjadcaa
