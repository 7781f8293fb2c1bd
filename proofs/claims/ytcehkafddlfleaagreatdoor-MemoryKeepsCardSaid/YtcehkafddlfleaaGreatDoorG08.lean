/- 
   
   
   
   
   
   
   
   
    -/
import Derived.Test.YtcehkafddlfleaaGreatDoorG04
import Derived.Test.YtcehkafddlfleaaGreatDoorG05
import Derived.Test.YtcehkafddlfleaaGreatDoorG01
import Derived.ChangeKeysEq
import Derived.Laws.StructEq
import Derived.Deep.RegionHeld3
import Derived.Test.YtcehkafddlfleaaGreatDoorG07
namespace Go.Proofs.YtcehkafddlfleaaGreatDoor
open Go.RowKit
def zeroSt : List Value := cells32 (List.replicate 8 0)
theorem tySt : Ty Tryz.prog 316 zeroSt := ⟨by kernel_rfl⟩
theorem rwSt : Rw Tryz.prog 316 (.array 8 201) 8 := ⟨by kernel_rfl, rfl, by kernel_rfl⟩
set_option maxRecDepth 100000 in
set_option maxHeartbeats 4000000 in
theorem start_any (w : World) : Calls Tryz.prog 248 #[] w fun e w' => e = .returned (.agg (cells32 St0.list).toArray) ∧ Below w.heap.size w w' := by
 go_enter Tryz.func248, Tryz.ntmps248
 go_wp2_with (with_reducible refine wpList_alloc (o := ⟨some 0, _, _, _, _, _⟩) tySt rfl rfl ?_)
 intro w1 hk1 hb1 hs1
 have HK1 : Kp _ := ⟨hk1⟩
 have HZ : Kp (zeroSt.length = 8) := ⟨rfl⟩
 have HL : Kp ((cells32 St0.list).length = 8) := ⟨rfl⟩
 clear hk1
 go_wp2_with (with_reducible refine wpList_storeAll (o := ⟨none, _, _, _, _, _⟩) (vs := cells32 St0.list) rwSt rfl (.tmp 0) (.tmp 1) rfl rfl HK1.out HZ.out HL.out (cells32_one _) rfl ?_)
 intro w2 hk2 ho2
 have HK2 : Kp _ := ⟨hk2⟩
 clear hk2
 go_wp2
 exact ret_arr rfl rwSt rfl HK2.out HL.out rfl ⟨rfl, hb1.trans (ho2.below (by omega))⟩
set_option maxRecDepth 100000 in
set_option maxHeartbeats 4000000 in
theorem keys_any (w : World) : Calls Tryz.prog 268 #[] w fun e w' => e = .returned (.agg (cells32 KL).toArray) ∧ Below w.heap.size w w' := by
 go_enter Tryz.func268, Tryz.ntmps268
 go_wp2_with (with_reducible refine wpList_alloc (o := ⟨some 0, _, _, _, _, _⟩) ty64 rfl rfl ?_)
 intro w1 hk1 hb1 hs1
 have HK1 : Kp _ := ⟨hk1⟩
 have HZ : Kp (zeroW.length = 64) := ⟨rfl⟩
 have HL : Kp ((cells32 KL).length = 64) := ⟨rfl⟩
 clear hk1
 go_wp2_with (with_reducible refine wpList_storeAll (o := ⟨none, _, _, _, _, _⟩) (vs := cells32 KL) rw64 rfl (.tmp 0) (.tmp 1) rfl rfl HK1.out HZ.out HL.out (cells32_one _) rfl ?_)
 intro w2 hk2 ho2
 have HK2 : Kp _ := ⟨hk2⟩
 clear hk2
 go_wp2
 exact ret_arr rfl rw64 rfl HK2.out HL.out rfl ⟨rfl, hb1.trans (ho2.below (by omega))⟩
theorem u32_sum' (a b : UInt32) : ((a.toNat : Int) + (b.toNat : Int)) % 4294967296 = ((a + b).toNat : Int) := by
 rw [UInt32.toNat_add]; omega
def mixS (s X : ShSt) (j : Nat) : List UInt32 := (addS s X).list.take j ++ s.list.drop j
theorem St_at (s : ShSt) (j : Nat) (h : j < 8) : (cells32 s.list)[j]? = some (.int .u32 ((s.list.getD j 0).toNat : Int)) := by
 have : j = 0 ∨ j = 1 ∨ j = 2 ∨ j = 3 ∨ j = 4 ∨ j = 5 ∨ j = 6 ∨ j = 7 := by omega
 rcases this with rfl | rfl | rfl | rfl | rfl | rfl | rfl | rfl <;> rfl
theorem mixS_at (s X : ShSt) (j : Nat) (h : j < 8) : (cells32 (mixS s X j))[j]? = some (.int .u32 ((s.list.getD j 0).toNat : Int)) := by
 have : j = 0 ∨ j = 1 ∨ j = 2 ∨ j = 3 ∨ j = 4 ∨ j = 5 ∨ j = 6 ∨ j = 7 := by omega
 rcases this with rfl | rfl | rfl | rfl | rfl | rfl | rfl | rfl <;> rfl
theorem mixS_next (s X : ShSt) (j : Nat) (h : j < 8) : (cells32 (mixS s X j)).set j (.int .u32 ((s.list.getD j 0 + X.list.getD j 0).toNat : Int)) = cells32 (mixS s X (j + 1)) := by
 have : j = 0 ∨ j = 1 ∨ j = 2 ∨ j = 3 ∨ j = 4 ∨ j = 5 ∨ j = 6 ∨ j = 7 := by omega
 rcases this with rfl | rfl | rfl | rfl | rfl | rfl | rfl | rfl <;> rfl
set_option maxRecDepth 100000 in
set_option maxHeartbeats 4000000 in
theorem compress_any (s : ShSt) (b : List UInt8) (w : World) (hb : b.length = 64) :
  Calls Tryz.prog 249 #[.agg (cells32 s.list).toArray, .agg (cells8 b).toArray] w fun e w' => e = .returned (.agg (cells32 (stepS s b).list).toArray) ∧ Below w.heap.size w w' := by
 have HL : Kp (b.length = 64) := ⟨hb⟩
 have HL8 : Kp ((cells8 b).length = 64) := ⟨by rw [cells8_length]; exact hb⟩
 clear hb
 go_enter Tryz.func249, Tryz.ntmps249
 go_wp2_with (with_reducible refine wpList_box (o := ⟨some 2, _, _, _, _, _⟩) rfl (.tmp 0) rfl rfl ?_)
 intro w1 hk1 hb1 hs1
 have HK1 : Kp _ := ⟨hk1⟩
 clear hk1
 go_wp2_with (with_reducible refine wpList_box (o := ⟨some 3, _, _, _, _, _⟩) rfl (.tmp 1) rfl rfl ?_)
 intro w2 hk2 hb2 hs2
 have HK2 : Kp _ := ⟨hk2⟩
 clear hk2
 go_wp2_with (with_reducible refine wpList_alloc (o := ⟨some 4, _, _, _, _, _⟩) tySt rfl rfl ?_)
 intro w3 hk3 hb3 hs3
 have HB3 : Kp _ := ⟨hk3⟩
 have HB1 : Kp _ := ⟨(HK1.out.below hb2 (by omega)).below hb3 (by omega)⟩
 have HB2 : Kp _ := ⟨HK2.out.below hb3 (by omega)⟩
 have hB3 : Below w.heap.size w w3 := (hb1.trans (hb2.mono (by omega))).trans (hb3.mono (by omega))
 clear HK1 HK2 hk3 hb1 hb2 hb3 hs1 hs2
 go_wp2_with (with_reducible refine wpList_loadAll (o := ⟨some 20, _, _, _, _, _⟩) rwBlock rfl (.tmp 3) rfl rfl HB2.out HL8.out ?_)
 refine (schedule_any _ _ HL.out).mono ?_
 rintro e w4 ⟨rfl, hb4⟩
 have HWL : Kp ((cells32 (wordsL b)).length = 64) := ⟨by rw [cells32_length, wordsL_length]⟩
 have HKL : Kp ((cells32 KL).length = 64) := ⟨rfl⟩
 have HZ64 : Kp (zeroW.length = 64) := ⟨rfl⟩
 go_wp2_with fail
 refine (keys_any _).mono ?_
 rintro e w5 ⟨rfl, hb5⟩
 go_wp2_with (with_reducible refine wpList_alloc (o := ⟨some 5, _, _, _, _, _⟩) ty64 rfl rfl ?_)
 intro w6 hk6 hb6 hs6
 have HK6 : Kp _ := ⟨hk6⟩
 clear hk6
 go_wp2_with (with_reducible refine wpList_alloc (o := ⟨some 6, _, _, _, _, _⟩) ty64 rfl rfl ?_)
 intro w7 hk7 hb7 hs7
 have HK7 : Kp _ := ⟨hk7⟩
 have HK67 : Kp _ := ⟨HK6.out.below hb7 (by omega)⟩
 clear hk7
 go_wp2_with (with_reducible refine wpList_storeAll (o := ⟨none, _, _, _, _, _⟩) (vs := cells32 (wordsL b)) rw64 rfl (.tmp 5) (.tmp 21) rfl rfl HK67.out HZ64.out HWL.out (cells32_one _) rfl ?_)
 intro w8 hk8 ho8
 have HK8 : Kp _ := ⟨hk8⟩
 have HK78 : Kp _ := ⟨HK7.out.only ho8 (by omega)⟩
 clear hk8
 go_wp2_with (with_reducible refine wpList_storeAll (o := ⟨none, _, _, _, _, _⟩) (vs := cells32 KL) rw64 rfl (.tmp 6) (.tmp 22) rfl rfl HK78.out HZ64.out HKL.out (cells32_one _) rfl ?_)
 intro w9 hk9 ho9
 have HK9 : Kp _ := ⟨hk9⟩
 have n8 := ho8.size
 have n9 := ho9.size
 have n4 := hb4.size
 have n5 := hb5.size
 have hB59 : Below w5.heap.size w5 w9 := (((hb6.mono (by omega)).trans (hb7.mono (by omega))).trans (ho8.below (by omega))).trans (ho9.below (by omega))
 have hB49 : Below w4.heap.size w4 w9 := hb5.trans (hB59.mono (by omega))
 have hB39 : Below w3.heap.size w3 w9 := hb4.trans (hB49.mono (by omega))
 have HS9 : Kp (Blk w9 w.heap.size 316 (cells32 s.list)) := ⟨HB1.out.below hB39 (by omega)⟩
 have HR9 : Kp (Blk w9 (w.heap.size + 1 + 1) 316 zeroSt) := ⟨HB3.out.below hB39 (by omega)⟩
 have HW9 : Kp (Blk w9 w5.heap.size 376 (cells32 (wordsL b))) := ⟨HK8.out.only ho9 (by omega)⟩
 have hB9 : Below w.heap.size w w9 := hB3.trans (hB39.mono (by omega))
 have hl4 : w5.heap.size < w9.heap.size := by omega
 have hl7 : (w5.heap.size + 1) < w9.heap.size := by omega
 have hl1 : w.heap.size + 1 + 1 < w5.heap.size := by omega
 have hl2 : w.heap.size + 1 + 1 < (w5.heap.size + 1) := by omega
 clear HB1 HB2 HB3 HK6 HK7 HK67 HK78 HK8 hb4 hb5 hb6 hb7 ho8 ho9 hs3 hs6 hs7 n5 n9 n4 n8 hB3 hB59 hB49 hB39 HL8 HWL HKL HZ64
 have c0 : w9.cell? ⟨w.heap.size, 0, none⟩ = some (.int .u32 (s.a.toNat : Int)) := HS9.out.cell? 0
 have c1 : w9.cell? ⟨w.heap.size, 1, none⟩ = some (.int .u32 (s.b.toNat : Int)) := HS9.out.cell? 1
 have c2 : w9.cell? ⟨w.heap.size, 2, none⟩ = some (.int .u32 (s.c.toNat : Int)) := HS9.out.cell? 2
 have c3 : w9.cell? ⟨w.heap.size, 3, none⟩ = some (.int .u32 (s.d.toNat : Int)) := HS9.out.cell? 3
 have c4 : w9.cell? ⟨w.heap.size, 4, none⟩ = some (.int .u32 (s.e.toNat : Int)) := HS9.out.cell? 4
 have c5 : w9.cell? ⟨w.heap.size, 5, none⟩ = some (.int .u32 (s.f.toNat : Int)) := HS9.out.cell? 5
 have c6 : w9.cell? ⟨w.heap.size, 6, none⟩ = some (.int .u32 (s.g.toNat : Int)) := HS9.out.cell? 6
 have c7 : w9.cell? ⟨w.heap.size, 7, none⟩ = some (.int .u32 (s.h.toNat : Int)) := HS9.out.cell? 7
 go_wp2_with fail
 go_still (by kernel_rfl)
 change Exit.then _ _ _ _ w9.drew
 clear c0 c1 c2 c3 c4 c5 c6 c7
 go_wp2
 go_loopw [7, 8, 9, 10, 11, 12, 13, 14, 39] (fun v7 v8 v9 v10 v11 v12 v13 v14 v39 wr => ∃ (i : Nat) (a b' c d e f g h : UInt32), i ≤ 64 ∧ v39 = .int .i64 i ∧ v7 = .int .u32 a.toNat ∧ v8 = .int .u32 b'.toNat ∧ v9 = .int .u32 c.toNat ∧ v10 = .int .u32 d.toNat ∧ v11 = .int .u32 e.toNat ∧ v12 = .int .u32 f.toNat ∧ v13 = .int .u32 g.toNat ∧ v14 = .int .u32 h.toNat ∧ Kp (rounds (wordsL b) s i = ⟨a, b', c, d, e, f, g, h⟩) ∧ Below w9.heap.size w9 wr) (fun _ _ _ _ _ _ _ _ v39 _ => 64 - (intOf v39).toNat)
 case atStart => exact ⟨0, s.a, s.b, s.c, s.d, s.e, s.f, s.g, s.h, Nat.zero_le _, rfl, rfl, rfl, rfl, rfl, rfl, rfl, rfl, rfl, ⟨rfl⟩, (Below.refl _ _).drew⟩
 case round =>
  obtain ⟨i, sa, sb, sc, sd, se, sf, sg, sh, hi, rfl, rfl, rfl, rfl, rfl, rfl, rfl, rfl, rfl, HR, hbr⟩ := hrel
  by_cases hlt : i < 64
  ·have cw : wr.cell? ⟨w5.heap.size, i, none⟩ = some (.int .u32 (((wordsL b).getD i 0).toNat : Int)) := by
    rw [(HW9.out.below hbr hl4).cell? i, cells32_at _ i (by rw [wordsL_length]; exact hlt)]
    simp [List.getD, List.getElem?_eq_getElem (show i < (wordsL b).length by rw [wordsL_length]; exact hlt)]
   have ck : wr.cell? ⟨(w5.heap.size + 1), i, none⟩ = some (.int .u32 ((KL.getD i 0).toNat : Int)) := by
    rw [(HK9.out.below hbr hl7).cell? i, cells32_at _ i (by rw [KL_length]; exact hlt)]
    simp [List.getD, List.getElem?_eq_getElem (show i < KL.length by rw [KL_length]; exact hlt)]
   have HN : Kp (rounds (wordsL b) s (i + 1) = rnd (rounds (wordsL b) s i) (KL.getD i 0) ((wordsL b).getD i 0)) := ⟨rfl⟩
   generalize KL.getD i 0 = kk at *
   generalize (wordsL b).getD i 0 = ww at *
   go_wp2_with fail
   refine wp_region_still_lit (by kernel_rfl) (by kernel_rfl) ?_
   repeat (first | still_step | still_call (big1_any _ _) | still_call (choose_any _ _ _ _))
   refine wpStill_nil ?_
   change Exit.then _ _ _ _ wr.drew
   rw [u32_add, u32_add, u32_add, u32_add]
   have HT : Kp (sh + big1 se + chR se sf sg + kk + ww = tOf ⟨sa, sb, sc, sd, se, sf, sg, sh⟩ kk ww) := ⟨rfl⟩
   generalize sh + big1 se + chR se sf sg + kk + ww = tt at *
   clear cw ck
   go_wp2_with (first
    | (go_at_call 271; refine (big0_any _ _).mono ?_; rintro e w' ⟨rfl, rfl⟩)
    | (go_at_call 272; refine (most_any _ _ _ _).mono ?_; rintro e w' ⟨rfl, rfl⟩))
   refine ⟨⟨i + 1, tt + uOf ⟨sa, sb, sc, sd, se, sf, sg, sh⟩, sa, sb, sc, sd + tt, se, sf, sg, by omega, by go_num, ?_, rfl, rfl, rfl, ?_, rfl, rfl, rfl, ⟨?_⟩, hbr.drew⟩, by simp [intOf]; omega⟩
   ·rw [u32_sum', u32_sum']; rfl
   ·rw [u32_sum']
   ·rw [HN.out, HR.out, HT.out]; rfl
  ·have HI : Kp (i = 64) := ⟨by omega⟩
   have HX : Kp (stepS s b = addS s ⟨sa, sb, sc, sd, se, sf, sg, sh⟩) := ⟨by unfold stepS; rw [← HR.out, HI.out]⟩
   have HSr : Kp _ := ⟨HS9.out.below hbr (by omega)⟩
   have HRr : Kp _ := ⟨HR9.out.below hbr (by omega)⟩
   have hBr : Below w.heap.size w wr := hB9.trans (hbr.mono (by omega))
   have hsr := hbr.size
   have hlr : w.heap.size + 1 + 1 < wr.heap.size := by omega
   obtain ⟨wx, rfl⟩ : ∃ x, x = wr := ⟨wr, rfl⟩
   clear HS9 HR9 HW9 HK9 HR hbr hB9 hsr
   go_wp2_with (with_reducible refine wpList_alloc (o := ⟨some 18, _, _, _, _, _⟩) tySt rfl rfl ?_)
   intro w10 hk10 hb10 hs10
   have HK10 : Kp _ := ⟨hk10⟩
   have HZ8 : Kp (zeroSt.length = 8) := ⟨rfl⟩
   have HL8 : Kp ((cells32 [sa, sb, sc, sd, se, sf, sg, sh]).length = 8) := ⟨rfl⟩
   clear hk10
   go_wp2_with (with_reducible refine wpList_storeAll (o := ⟨none, _, _, _, _, _⟩) (vs := cells32 [sa, sb, sc, sd, se, sf, sg, sh]) rwSt rfl (.tmp 18) (.tmp 87) rfl rfl HK10.out HZ8.out HL8.out (cells32_one _) rfl ?_)
   intro w11 hk11 ho11
   have HX11 : Kp (Blk w11 wx.heap.size 316 (cells32 (ShSt.mk sa sb sc sd se sf sg sh).list)) := ⟨hk11⟩
   clear hk11
   have HS11 : Kp (Blk w11 w.heap.size 316 (cells32 (mixS s ⟨sa, sb, sc, sd, se, sf, sg, sh⟩ 0))) := ⟨(HSr.out.below hb10 (by omega)).only ho11 (by omega)⟩
   have HR11 : Kp _ := ⟨(HRr.out.below hb10 (by omega)).only ho11 (by omega)⟩
   have hB11 : Below w.heap.size w w11 := (hBr.trans (hb10.mono (by omega))).trans (ho11.below (by omega))
   clear HSr HRr hBr hb10 ho11 HK10 hs10
   generalize ShSt.mk sa sb sc sd se sf sg sh = X at *
   go_wp2
   go_loopw [88] (fun v wr => ∃ j : Nat, j ≤ 8 ∧ v = .int .i64 j ∧ Kp (Blk wr w.heap.size 316 (cells32 (mixS s X j))) ∧ Only w.heap.size w11 wr) (fun v _ => 8 - (intOf v).toNat)
   case atStart => exact ⟨0, Nat.zero_le _, rfl, HS11, Only.refl _ _⟩
   case round =>
    clear HS11
    obtain ⟨j, hj, rfl, HB, ho⟩ := hrel
    by_cases hlt2 : j < 8
    ·have cs : wr.cell? ⟨w.heap.size, j, none⟩ = some (.int .u32 ((s.list.getD j 0).toNat : Int)) := by rw [HB.out.cell? j]; exact mixS_at s X j hlt2
     have cx : wr.cell? ⟨wx.heap.size, j, none⟩ = some (.int .u32 ((X.list.getD j 0).toNat : Int)) := by rw [(HX11.out.only ho (by omega)).cell? j]; exact St_at X j hlt2
     have hfw := HB.out.frozen j
     have HN : Kp _ := ⟨mixS_next s X j hlt2⟩
     generalize s.list.getD j 0 = ss at *
     generalize X.list.getD j 0 = xx at *
     go_wp2_with fail
     go_still_tail 7, (by kernel_rfl)
     change wpList _ _ _ _ _ wr.drew
     go_wp2
     have HV : Kp _ := ⟨u32_sum' ss xx⟩
     refine ⟨⟨j + 1, by omega, by go_num, ⟨?_⟩, (ho.trans (Only.setCell wr ⟨w.heap.size, j, none⟩ _)).drew⟩, by simp [intOf]; omega⟩
     rw [HV.out]
     have h3 := (HB.out.set j (.int .u32 ((ss + xx).toNat : Int))).drew
     rw [HN.out] at h3
     exact h3
    ·have HJ : Kp (j = 8) := ⟨by omega⟩
     have HB8 : Kp (Blk wr w.heap.size 316 (cells32 (stepS s b).list)) := ⟨by
      have h1 := HB.out
      rw [HJ.out] at h1
      rw [HX.out]
      exact h1⟩
     have HLen : Kp ((cells32 (stepS s b).list).length = 8) := ⟨rfl⟩
     have HRr : Kp _ := ⟨HR11.out.only ho (by omega)⟩
     clear HB HX
     go_wp2_with (first
      | (with_reducible refine wpList_loadAll (o := ⟨some 100, _, _, _, _, _⟩) rwSt rfl (.tmp 2) rfl rfl HB8.out HLen.out ?_)
      | (with_reducible refine wpList_storeAll (o := ⟨none, _, _, _, _, _⟩) (vs := cells32 (stepS s b).list) rwSt rfl (.tmp 4) (.tmp 100) rfl rfl HRr.out HZ8.out HLen.out (cells32_one _) rfl ?_))
     intro w13 hk14 ho13
     have HK14 : Kp _ := ⟨hk14⟩
     clear hk14
     go_wp2
     exact ret_arr rfl rwSt rfl HK14.out HLen.out rfl ⟨rfl, (hB11.trans (ho.below (by omega))).trans (ho13.below (by omega))⟩
end Go.Proofs.YtcehkafddlfleaaGreatDoor

namespace Go.Proofs.YtcehkafddlfleaaGreatDoor
open Go.RowKit
set_option maxRecDepth 100000 in
set_option maxHeartbeats 4000000 in
theorem digest_any (S : ShSt) (w : World) :
  Calls Tryz.prog 218 #[.agg (cells32 S.list).toArray] w fun e w' => e = .returned (.agg (cells8 (digestL S)).toArray) ∧ Below w.heap.size w w' := by
 go_enter Tryz.func218, Tryz.ntmps218
 go_wp2_with (with_reducible refine wpList_box (o := ⟨some 1, _, _, _, _, _⟩) rfl (.tmp 0) rfl rfl ?_)
 intro w1 hk1 hb1 hs1
 have HK1 : Kp _ := ⟨hk1⟩
 clear hk1
 go_wp2_with (with_reducible refine wpList_alloc (o := ⟨some 2, _, _, _, _, _⟩) tyDig rfl rfl ?_)
 intro w2 hk2 hb2 hs2
 have HK2 : Kp _ := ⟨hk2⟩
 clear hk2
 go_wp2_with (with_reducible refine wpList_alloc (o := ⟨some 3, _, _, _, _, _⟩) tyDig rfl rfl ?_)
 intro w3 hk3 hb3 hs3
 have HB3 : Kp (Blk w3 (w.heap.size + 1 + 1) 173 (cells8 (outAt (digestL S) 0))) := ⟨hk3⟩
 have HB2 : Kp _ := ⟨HK2.out.below hb3 (by omega)⟩
 have HB1 : Kp _ := ⟨(HK1.out.below hb2 (by omega)).below hb3 (by omega)⟩
 have hB3 : Below w.heap.size w w3 := (hb1.trans (hb2.mono (by omega))).trans (hb3.mono (by omega))
 clear HK1 HK2 hk3 hb1 hb2 hb3 hs1 hs2 hs3
 go_wp2
 go_loopw [5] (fun v wr => ∃ j : Nat, j ≤ 32 ∧ v = .int .i64 j ∧ Kp (Blk wr (w.heap.size + 1 + 1) 173 (cells8 (outAt (digestL S) j))) ∧ Only (w.heap.size + 1 + 1) w3 wr) (fun v _ => 32 - (intOf v).toNat)
 case atStart => exact ⟨0, Nat.zero_le _, rfl, HB3, Only.refl _ _⟩
 case round =>
  clear HB3
  obtain ⟨j, hj, rfl, HB, ho⟩ := hrel
  by_cases hlt : j < 32
  ·obtain ⟨q, hq⟩ : ∃ q, q = j / 4 := ⟨_, rfl⟩
   obtain ⟨r, hr⟩ : ∃ r, r = j % 4 := ⟨_, rfl⟩
   have hq8 : q < 8 := by omega
   have hr4 : r < 4 := by omega
   have HJ : Kp (4 * q + r = j) := ⟨by omega⟩
   have cs : wr.cell? ⟨w.heap.size, q, none⟩ = some (.int .u32 ((S.list.getD q 0).toNat : Int)) := by rw [(HB1.out.only ho (by omega)).cell? q]; exact St_at S q hq8
   have hqi : ((j : Int) / 4) = (q : Int) := by omega
   have hqw : IntKind.i64.wrap (q : Int) = (q : Int) := by rw [IntKind.wrap_i64]; omega
   have hq8i : (q : Int) < 8 := by omega
   have hlen : (cells8 (outAt (digestL S) j)).length = 32 := by rw [cells8_length, outAt_length _ (digestL_length S) _ hj]
   have hco := HB.out.cell (i := j) (by omega)
   have hfo := HB.out.frozen j
   have HSet : Kp _ := ⟨outAt_set (digestL S) (digestL_length S) j hlt⟩
   have HDB : Kp (((((digestL S).getD j 0).toNat : Nat) : Int) = ((S.list.getD q 0).toNat : Int) / ((256 ^ (3 - r) : Nat) : Int) % 256) := ⟨by rw [← HJ.out]; exact digest_byte S q r hq8 hr4⟩
   generalize (cells8 (outAt (digestL S) j))[j]'(by omega) = old at hco
   generalize S.list.getD q 0 = x at *
   generalize (digestL S).getD j 0 = y at *
   have hri : ((j : Int) % 4) = (r : Int) := by omega
   have hjj : (j : Int) < 32 := by omega
   clear hq hr hlen HJ
   have hcase : r = 0 ∨ r = 1 ∨ r = 2 ∨ r = 3 := by omega
   rcases hcase with rfl | rfl | rfl | rfl
   all_goals
    go_wp2
    refine ⟨⟨j + 1, by omega, by go_num, ⟨?_⟩, ho.trans (Only.setCell wr ⟨w.heap.size + 1 + 1, j, none⟩ _)⟩, by simp [intOf]; omega⟩
    have h3 := HB.out.set j (.int .u8 (y.toNat : Int))
    rw [HSet.out] at h3
    have e2 := HDB.out
    simp at e2
    rw [e2] at h3
    exact h3
  ·have HJ : Kp (j = 32) := ⟨by omega⟩
   have HLen : Kp ((cells8 (digestL S)).length = 32) := ⟨by rw [cells8_length, digestL_length]⟩
   have HB8 : Kp (Blk wr (w.heap.size + 1 + 1) 173 (cells8 (digestL S))) := ⟨by
    have h1 := HB.out
    rw [HJ.out, outAt_end _ (digestL_length S)] at h1
    exact h1⟩
   have HRr : Kp _ := ⟨HB2.out.only ho (by omega)⟩
   have HZ : Kp (zero32.length = 32) := ⟨rfl⟩
   clear HB HB1 HB2
   go_wp2_with (first
    | (with_reducible refine wpList_loadAll (o := ⟨some 21, _, _, _, _, _⟩) rwDig rfl (.tmp 3) rfl rfl HB8.out HLen.out ?_)
    | (with_reducible refine wpList_storeAll (o := ⟨none, _, _, _, _, _⟩) (vs := cells8 (digestL S)) rwDig rfl (.tmp 2) (.tmp 21) rfl rfl HRr.out HZ.out HLen.out (cells8_one _) rfl ?_))
   intro w13 hk14 ho13
   have HK14 : Kp _ := ⟨hk14⟩
   clear hk14
   go_wp2
   exact ret_arr rfl rwDig rfl HK14.out HLen.out rfl ⟨rfl, (hB3.trans (ho.below (by omega))).trans (ho13.below (by omega))⟩
end Go.Proofs.YtcehkafddlfleaaGreatDoor

namespace Go.Proofs.YtcehkafddlfleaaGreatDoor
open Go.RowKit
theorem Bs.laid (w : World) (t : TypeId) (l : List UInt8) (hm : l.length ≤ maxLen) : Bs (w.alloc (.cells (cells8 l).toArray t)) (w.heap.size + 1) (some ⟨w.heap.size, 0, none⟩) l.length l.length l := by
 refine ⟨rfl, Nat.le_refl _, hm, (fun h => by cases h), fun _ => ⟨w.heap.size, 0, rfl, by omega, fun j hj => ?_⟩⟩
 rw [World.cell?_alloc_at _ _ _ _ rfl]
 have := cells8_at l j hj
 simpa using this
structure BsA (w : World) (g : Nat) (A : Option Addr) (n c : Nat) (l : List UInt8) : Prop where
 bs : Bs w w.heap.size A n c l
 apart : ∀ ad, A = some ad → 0 < n → ad.block ≠ g
structure LsA (w : World) (g : Nat) (A : Option Addr) (n c : Nat) (ls : List (List UInt8)) : Prop where
 len : ls.length = n
 cap : n ≤ c
 max : c ≤ maxLen
 cells : 0 < n → ∃ b o, A = some ⟨b, o, none⟩ ∧ b < w.heap.size ∧ b ≠ g ∧ ∀ j (h : j < ls.length), ∃ A' n' c', w.cell? ⟨b, o + j, none⟩ = some (.slice A' n' c') ∧ BsA w g A' n' c' ls[j]
section
variable {w w' : World} {B : Nat} {g : Nat} {A : Option Addr} {n c : Nat} {l : List UInt8} {ls : List (List UInt8)}
theorem BsA.of_bs (h : Bs w B A n c l) (hB : B ≤ g) (hw : B ≤ w.heap.size) : BsA w g A n c l :=
 ⟨h.more hw, fun ad hA h0 => by
  obtain ⟨b, o, hA', hb, _⟩ := h.cells h0
  rw [hA] at hA'
  obtain rfl := Option.some.inj hA'
  simp; omega⟩
theorem BsA.of_own {base : Nat} {e : TypeId} {v : Value} (h : w.ownsRow base e 1 v n (cells8 l)) (hg : g < base) : ∃ A c, v = .slice A n c ∧ BsA w g A n c l := by
 obtain ⟨A, c, rfl, hb⟩ := Bs.of_own h
 obtain ⟨A', c', e1, _, _, _, hs⟩ := own_form h
 injection e1 with e2 _ e3
 subst e2
 subst e3
 exact ⟨A, c, rfl, hb, fun ad hA _ => by
  obtain ⟨k, rfl, hk, _⟩ := hs ad hA
  simp; omega⟩
theorem BsA.grown (h : BsA w g A n c l) (hg : w.grownBy w' (some g)) : BsA w' g A n c l :=
 ⟨(h.bs.grown (w' := w') (g := some g) (fun k hk hlt => hg.block k hlt (fun e => hk (by rw [e]))) (fun ad hA h0 e => h.apart ad hA h0 (Option.some.inj e).symm)).more hg.size, h.apart⟩
theorem LsA.le (h : LsA w g A n c ls) : n ≤ 9223372036854775807 := by have := h.cap; have := h.max; simp only [maxLen] at this; omega
theorem LsA.grown (h : LsA w g A n c ls) (hg : w.grownBy w' (some g)) : LsA w' g A n c ls :=
 ⟨h.len, h.cap, h.max, fun h0 => by
  obtain ⟨b, o, hA, hb, hne, hc⟩ := h.cells h0
  refine ⟨b, o, hA, Nat.lt_of_lt_of_le hb hg.size, hne, fun j hj => ?_⟩
  obtain ⟨A', n', c', h1, h2⟩ := hc j hj
  refine ⟨A', n', c', ?_, h2.grown hg⟩
  rw [← h1]
  exact World.cell?_of_block (w := w) (hg.block b hb (fun e => hne (Option.some.inj e)))⟩
theorem LsA.at (h : LsA w g A n c ls) {i : Nat} (hi : i < n) : ∃ b o A' n' c', A = some ⟨b, o, none⟩ ∧ b < w.heap.size ∧ w.cell? ⟨b, o + i, none⟩ = some (.slice A' n' c') ∧ BsA w g A' n' c' (ls[i]'(by have := h.len; omega)) := by
 obtain ⟨b, o, hA, hb, _, hc⟩ := h.cells (by omega)
 obtain ⟨A', n', c', h1, h2⟩ := hc i (by have := h.len; omega)
 exact ⟨b, o, A', n', c', hA, hb, h1, h2⟩
theorem LsA.of_ls (h : Ls w B A n c ls) (hB : B ≤ g) (hw : B ≤ w.heap.size) : LsA w g A n c ls :=
 ⟨h.len, h.cap, h.max, fun h0 => by
  obtain ⟨b, o, hA, hb, hc⟩ := h.cells h0
  refine ⟨b, o, hA, by omega, by omega, fun j hj => ?_⟩
  obtain ⟨A', n', c', h1, h2⟩ := hc j hj
  exact ⟨A', n', c', h1, BsA.of_bs h2 hB hw⟩⟩
theorem LsA.one (t : TypeId) (h : BsA w g A n c l) (hg : g < w.heap.size) : LsA (w.alloc (.cells #[.slice A n c] t)) g (some ⟨w.heap.size, 0, none⟩) 1 1 [l] := by
 refine ⟨rfl, Nat.le_refl _, by simp [maxLen], fun _ => ⟨w.heap.size, 0, rfl, by simp, by omega, fun j hj => ?_⟩⟩
 obtain rfl : j = 0 := by simp at hj; omega
 refine ⟨A, n, c, ?_, ⟨(h.bs.alloc (Nat.le_refl _) _).more (by simp), h.apart⟩⟩
 rw [World.cell?_alloc_at _ _ _ _ rfl]; rfl
theorem grown_below {w' : World} (hb : Below w.heap.size w w') (row : Option Nat) : w.grownBy w' row := ⟨hb.os, hb.tape, hb.output, hb.size, fun k hk _ => hb.block k hk⟩
theorem grown_only (h : Only g w w') : w.grownBy w' (some g) := ⟨h.os, h.tape, h.output, by rw [h.size]; exact Nat.le_refl _, fun k _ hne => h.block k (fun e => hne (by rw [e]))⟩
theorem grown_trans {w2 : World} {row : Option Nat} (h : w.grownBy w' row) (h2 : w'.grownBy w2 row) : w.grownBy w2 row :=
 ⟨h2.os.trans h.os, h2.tape.trans h.tape, h2.output.trans h.output, Nat.le_trans h.size h2.size, fun k hk hne => (h2.block k (Nat.lt_of_lt_of_le hk h.size) hne).trans (h.block k hk hne)⟩
theorem grown_refl (w : World) (row : Option Nat) : w.grownBy w row := ⟨rfl, rfl, rfl, Nat.le_refl _, fun _ _ _ => rfl⟩
theorem grown_drew (w : World) (row : Option Nat) : w.grownBy w.drew row := ⟨rfl, rfl, rfl, Nat.le_refl _, fun _ _ _ => rfl⟩
theorem grown_set (w : World) (g i : Nat) (v : Value) : w.grownBy (w.setCell ⟨g, i, none⟩ v) (some g) := grown_only (Only.setCell w ⟨g, i, none⟩ v)
theorem below_grown {w' : World} (h : w.grownBy w' (some g)) (hB : B ≤ g) (hw : B ≤ w.heap.size) : Below B w w' := ⟨h.os, h.tape, h.output, h.size, fun k hk => h.block k (by omega) (fun e => by have := Option.some.inj e; omega)⟩
theorem own_grown {base n : Nat} {e : TypeId} {v : Value} {xs : List Value} (h : w.ownsRow base e 1 v n xs) (hg : w.grownBy w' (some g)) (hb : g < base) : w'.ownsRow base e 1 v n xs := by
 refine ⟨h.1, ?_⟩
 rcases h.2 with h1 | ⟨k, cap, cur, h1, hk, hh, hr⟩
 ·exact .inl h1
 ·exact .inr ⟨k, cap, cur, h1, hk, (hg.block k (Array.getElem?_eq_some_iff.1 hh).1 (fun e => by have := Option.some.inj e; omega)).trans hh, hr⟩
theorem Blk.grown {k : Nat} {t : TypeId} {cs : List Value} (h : Blk w k t cs) (hg : w.grownBy w' (some g)) (hk : k ≠ g) : Blk w' k t cs := ⟨(hg.block k h.lt (fun e => hk (Option.some.inj e))).trans h.heap⟩
end
section
variable {P : Program} {w : World} {ops : Array Oper} {rest : List Oper} {o : Oper} {a : Act} {Q : Exit → Act → World → Prop} {t e : TypeId} {z : Value} {bytes : Nat}
theorem wpList_cut_lA (E : El P t e z bytes) (hg : o.guard = none) (x lo : Operand) (hop : o.op = Op.slice t x (some lo) none none)
  {g : Nat} {A : Option Addr} {n c : Nat} {l : List UInt8} (hx : a.eval x = .slice A n c) (hb : BsA w g A n c l) (k : IntKind) (I : Int) (i : Nat) (hlo : a.eval lo = .int k I) (hI : I = i) (hi : i ≤ n)
  (h : ∀ A' d, BsA w g A' (n - i) d (l.drop i) → wpList P ops Q rest (a.put o.dst (.slice A' (n - i) d)) w) : wpList P ops Q (o :: rest) a w := by
 subst hI
 refine wpList_plain hg fun K hK => ?_
 have hrun := run_slice_l (P := P) (w := w) t A n c E.ty' k (i : Int) (by omega) (by omega)
 rw [E.sizeOf] at hrun
 have h2 := hb.bs.cut (i := i) (k := n) hi (Nat.le_refl _)
 rw [List.take_of_length_le (by rw [hb.bs.len]; exact Nat.le_refl _)] at h2
 unfold Oper.wp
 simp [execOp, hop, hx, hlo, run_sliceAt_slice (P := P) (w := w) t _ _ _ _ E.ty', hrun, Result.andThen, sliced]
 refine hK _ _ (h _ _ ⟨h2, fun ad hA h0 => ?_⟩)
 have hc := hb.bs.cap
 rw [if_neg (by omega)] at hA
 cases A with
 | none => simp at hA
 | some ad0 =>
  simp at hA
  have := hb.apart ad0 rfl (by omega)
  rw [← hA]
  unfold Addr.add
  split <;> exact this
end
end Go.Proofs.YtcehkafddlfleaaGreatDoor

namespace Go.Proofs.YtcehkafddlfleaaGreatDoor
open Go.RowKit
theorem blk_of_own {w : World} {base g n : Nat} {e : TypeId} {xs : List Value} (h : w.ownsRow base e 1 (.slice (some ⟨g, 0, none⟩) n n) n xs) : Blk w g e xs := ⟨(own_full h).1⟩
def endK (n z k : Nat) : List UInt8 := 128 :: (List.replicate (z + 8 - k) 0 ++ putN (8 * n) k)
theorem endK_first (n z : Nat) : (cells8 (List.replicate (z + 9) 0)).set 0 (.int .u8 128) = cells8 (endK n z 0) := by
 unfold endK
 rw [show z + 9 = (z + 8) + 1 by omega, List.replicate_succ]
 simp [cells8, putN]
theorem endK_next (n z k p : Nat) (h : k < 8) (hp : p + 1 + k = z + 9) : (cells8 (endK n z k)).set p (.int .u8 (((8 * n : Nat) : Int) / 2 ^ (8 * k) % 256)) = cells8 (endK n z (k + 1)) := by
 unfold endK
 have e := put_row (n := 8 * n) (N := z + 8) (k := k) (by omega)
 obtain ⟨p', rfl⟩ : ∃ p', p = p' + 1 := ⟨p - 1, by omega⟩
 rw [show p' = z + 8 - 1 - k by omega]
 simp only [cells8, List.map_cons] at e ⊢
 rw [List.set_cons_succ, e]
theorem endK_end (n : Nat) : endK n ((119 - n % 64) % 64) 8 = ending n := by unfold endK ending; simp
theorem endK_length (n z k : Nat) (h : k ≤ 8) : (cells8 (endK n z k)).length = z + 9 := by rw [cells8_length]; simp [endK, putN_length]; omega
set_option maxRecDepth 100000 in
set_option maxHeartbeats 4000000 in
theorem ending_any (n : Nat) (w : World) (hn : n ≤ 1048576) :
  Calls Tryz.prog 217 #[.int .u64 n] w fun e w' => ∃ v, e = .returned v ∧ w'.ownsRow w.heap.size 5 1 v (ending n).length (cells8 (ending n)) ∧ Below w.heap.size w w' := by
 obtain ⟨Z, hZ⟩ : ∃ Z, Z = (119 - n % 64) % 64 := ⟨_, rfl⟩
 have hz : (119 - (n : Int) % 64) % 64 = (Z : Int) := by omega
 have hZ64 : Z < 64 := by omega
 have HZ : Kp _ := ⟨hZ⟩
 clear hZ
 obtain ⟨M, hM⟩ : ∃ M, M = Z + 9 := ⟨_, rfl⟩
 have hM1 : (9 : Int) ≤ (M : Int) := by omega
 have hM2 : (M : Int) ≤ 72 := by omega
 have hM3 : 0 < M := by omega
 have HM : Kp _ := ⟨hM⟩
 clear hM
 go_enter Tryz.func217, Tryz.ntmps217
 go_wp2_with (with_reducible refine wpList_mk (o := ⟨some 13, _, _, _, _, _⟩) el8 rfl (.tmp 12) (.tmp 12) rfl w.heap.size .u64 .u64 _ _ M rfl rfl (by have := HM.out; omega) (by have := HM.out; omega) (by have := HM.out; omega) (by have := HM.out; simp only [maxLen]; omega) (Nat.le_refl _) ?_)
 intro w1 hown1 hg1
 have hb1 : Below w.heap.size w w1 := (Below.refl _ _).grown hg1 (Nat.le_refl _) (by simp)
 have HB1 : Kp (Blk w1 w.heap.size 5 (cells8 (List.replicate (Z + 9) 0))) := ⟨by
  have h1 := blk_of_own hown1
  rw [HM.out] at h1
  rw [cells8, List.map_replicate]
  exact h1⟩
 have hc0 : w1.cell? ⟨w.heap.size, 0, none⟩ = some (.int .u8 0) := by
  rw [HB1.out.cell? 0, List.replicate_succ]; rfl
 have hf0 := HB1.out.frozen 0
 clear hown1 hg1
 go_wp2
 go_loopw [16] (fun v wr => ∃ k : Nat, k ≤ 8 ∧ v = .int .i64 k ∧ Kp (Blk wr w.heap.size 5 (cells8 (endK n Z k))) ∧ Below w.heap.size w wr) (fun v _ => 8 - (intOf v).toNat)
 case atStart =>
  refine ⟨0, Nat.zero_le _, rfl, ⟨?_⟩, hb1.setCell (Nat.le_refl _) _⟩
  rw [← endK_first]
  exact HB1.out.set 0 (.int .u8 128)
 case round =>
  clear HB1 hc0 hf0 hb1
  obtain ⟨k, hk, rfl, HB, hb⟩ := hrel
  by_cases hlt : k < 8
  ·obtain ⟨p, hp⟩ : ∃ p, p = M - 1 - k := ⟨_, rfl⟩
   have hpM : p < M := by omega
   have hpi : (M : Int) - 1 - (k : Int) = (p : Int) := by omega
   have hlen := endK_length n Z k hk
   have hM9 := HM.out
   have hco := HB.out.cell (i := p) (by omega)
   have hfo := HB.out.frozen p
   have HSet : Kp _ := ⟨endK_next n Z k p hlt (by omega)⟩
   generalize (cells8 (endK n Z k))[p]'(by omega) = old at hco
   have hpi2 : (p : Int) < (M : Int) := by omega
   clear hp hlen hM9
   go_wp2
   refine ⟨⟨k + 1, by omega, by go_num, ⟨?_⟩, hb.setCell (Nat.le_refl _) _⟩, by simp [intOf]; omega⟩
   have h3 := HB.out.set p (.int .u8 (((8 * n : Nat) : Int) / 2 ^ (8 * k) % 256))
   rw [HSet.out, show ((8 * n : Nat) : Int) = (n : Int) * 8 by omega] at h3
   exact h3
  ·have HK : Kp (k = 8) := ⟨by omega⟩
   go_wp2
   go_ret
   refine ⟨_, rfl, ?_, hb⟩
   have h1 := HB.out
   have e : (ending n).length = M := by
    have h2 := endK_length n Z 8 (Nat.le_refl _)
    rw [cells8_length] at h2
    rw [← endK_end, ← HZ.out, h2, HM.out]
   rw [HK.out, HZ.out, endK_end] at h1
   rw [e]
   exact own_of_full h1.heap (Nat.le_refl _) (by simp only [maxLen]; omega) (by rw [cells8_length, e])
end Go.Proofs.YtcehkafddlfleaaGreatDoor

namespace Go.Proofs.YtcehkafddlfleaaGreatDoor
open Go.RowKit
theorem run_eqItems_bytes {P : Program} {e : TypeId} (he : P.underlying e = some (.int .u8)) (hc : P.cellsOf e = 1) (w : World) (d : Nat) (l m : List UInt8) (hl : l.length = m.length) :
  ∀ (k i : Nat), i + k = l.length → (Op.eqItems (d + 1) e (P.cellsOf e) (cells8 l).toArray (cells8 m).toArray (List.range' i k)).run P w = .ok (l.drop i == m.drop i) w
 | 0, i, h => by
  rw [List.drop_of_length_le (by omega), List.drop_of_length_le (by omega)]
  simp [Op.eqItems]
 | k + 1, i, h => by
  have hi : i < l.length := by omega
  have hi2 : i < m.length := by omega
  have ih := run_eqItems_bytes he hc w d l m hl k (i + 1) (by omega)
  have p1 : (part e (cells8 l).toArray (i * P.cellsOf e)).run P w = .ok (.int .u8 (l[i].toNat : Int)) w := by
   rw [hc, Nat.mul_one]
   exact run_part_plain w (by simp [Program.plainKey, he]) (by simpa using cells8_at l i hi)
  have p2 : (part e (cells8 m).toArray (i * P.cellsOf e)).run P w = .ok (.int .u8 (m[i].toNat : Int)) w := by
   rw [hc, Nat.mul_one]
   exact run_part_plain w (by simp [Program.plainKey, he]) (by simpa using cells8_at m i hi2)
  rw [List.range'_succ]
  simp only [Op.eqItems, Sem.run_bind, p1, p2, Result.andThen_ok, run_equalIn_int w d e .u8 .u8 _ _ he]
  rw [List.drop_eq_getElem_cons hi, List.drop_eq_getElem_cons hi2, List.cons_beq_cons]
  have e1 : ((l[i].toNat : Int) == (m[i].toNat : Int)) = (l[i] == m[i]) := by
   rw [Bool.eq_iff_iff]
   simp only [beq_iff_eq]
   exact ⟨fun h => UInt8.toNat_inj.1 (by omega), fun h => by rw [h]⟩
  rw [e1]
  cases h4 : l[i] == m[i]
  ·simp
  ·simpa using ih
structure EqB (P : Program) (t e : TypeId) (n : Nat) : Prop where
 ty : P.underlying t = some (.array n e)
 el : P.underlying e = some (.int .u8)
 one : P.cellsOf e = 1
theorem run_neq_bytes {P : Program} {t e : TypeId} {n : Nat} (E : EqB P t e n) (w : World) (l m : List UInt8) (hl : l.length = n) (hm : m.length = n) :
  (binOp .neq t (.agg (cells8 l).toArray) (.agg (cells8 m).toArray)).run P w = .ok (.bool (!(l == m))) w := by
 obtain ⟨i, hi⟩ : ∃ i, P.info? e = some i := info_of_underlying E.el
 rw [run_neq_struct, run_equalIn_array w 9999 _ _ E.ty hi, List.range_eq_range', run_eqItems_bytes E.el E.one w 9998 l m (by omega) n 0 (by omega)]
 simp
end Go.Proofs.YtcehkafddlfleaaGreatDoor

namespace Go.Proofs.YtcehkafddlfleaaGreatDoor
open Go.RowKit
theorem ls_two (W : World) (t : TypeId) {A B : Option Addr} {n c m d : Nat} {la lb : List UInt8} (ha : Bs W W.heap.size A n c la) (hb : Bs W W.heap.size B m d lb) :
  Ls (W.alloc (.cells #[.slice A n c, .slice B m d] t)) (W.alloc (.cells #[.slice A n c, .slice B m d] t)).heap.size (some ⟨W.heap.size, 0, none⟩) 2 2 [la, lb] := (Ls.two t ha hb).more (by simp)
theorem yieldsIf_cut_l {P : Program} {ops : Array Oper} {S : World → Prop} {op : Oper} {a : Act} {t e : TypeId} {z : Value} {bytes : Nat} (hw : Region.wanted op (yielded ops a.tmps) = true) (E : El P t e z bytes) (x lo : Operand) (ho : op.op = .slice t x (some lo) none none)
  {A : Option Addr} {n c : Nat} (hx : a.eval x = .slice A n c) {k : IntKind} {I : Int} (hlo : a.eval lo = .int k I) (i : Nat) (hI : I = i) (hi : i ≤ n) {A' : Option Addr} {n' c' : Nat} (hA' : (if c = i then A else A.map (·.add i)) = A') (hn' : n - i = n') (hc' : c - i = c') : YieldsIf P ops S op (.slice A' n' c') a := by
 subst hI hA' hn' hc'
 refine .inl ⟨hw, fun w _ => ?_⟩
 have hrun := run_slice_l (P := P) (w := w) t A n c E.ty' k (i : Int) (by omega) (by omega)
 rw [E.sizeOf] at hrun
 unfold execOp
 simp [ho, hx, hlo, run_sliceAt_slice (P := P) (w := w) t _ _ _ _ E.ty', hrun, Result.andThen, sliced]
end Go.Proofs.YtcehkafddlfleaaGreatDoor

namespace Go.Proofs.YtcehkafddlfleaaGreatDoor
open Go.RowKit
structure Eight (w : World) (g o : Nat) (s : ShSt) : Prop where
 h0 : w.cell? ⟨g, o, none⟩ = some (.int .u32 (s.a.toNat : Int))
 h1 : w.cell? ⟨g, o + 1, none⟩ = some (.int .u32 (s.b.toNat : Int))
 h2 : w.cell? ⟨g, o + 2, none⟩ = some (.int .u32 (s.c.toNat : Int))
 h3 : w.cell? ⟨g, o + 3, none⟩ = some (.int .u32 (s.d.toNat : Int))
 h4 : w.cell? ⟨g, o + 4, none⟩ = some (.int .u32 (s.e.toNat : Int))
 h5 : w.cell? ⟨g, o + 5, none⟩ = some (.int .u32 (s.f.toNat : Int))
 h6 : w.cell? ⟨g, o + 6, none⟩ = some (.int .u32 (s.g.toNat : Int))
 h7 : w.cell? ⟨g, o + 7, none⟩ = some (.int .u32 (s.h.toNat : Int))
theorem Us.eight {w : World} {B : Nat} {A : Option Addr} {c : Nat} {s : ShSt} (h : Us w B A 8 c s.list) : ∃ g o, A = some ⟨g, o, none⟩ ∧ g < B ∧ Eight w g o s := by
 obtain ⟨b, o, hA, hb, hc⟩ := h.cells (by omega)
 have hl : s.list.length = 8 := rfl
 exact ⟨b, o, hA, hb, hc 0 (by omega), hc 1 (by omega), hc 2 (by omega), hc 3 (by omega), hc 4 (by omega), hc 5 (by omega), hc 6 (by omega), hc 7 (by omega)⟩
theorem Us.getD {w : World} {B : Nat} {A : Option Addr} {n c : Nat} {l : List UInt32} (h : Us w B A n c l) {i : Nat} (hi : i < n) : ∃ b o, A = some ⟨b, o, none⟩ ∧ b < B ∧ w.cell? ⟨b, o + i, none⟩ = some (.int .u32 ((l.getD i 0).toNat : Int)) := by
 obtain ⟨b, o, hA, hb, hc⟩ := h.cell hi
 refine ⟨b, o, hA, hb, ?_⟩
 rw [hc]
 have hl : i < l.length := by have := h.len; omega
 simp [List.getD, List.getElem?_eq_getElem hl]
end Go.Proofs.YtcehkafddlfleaaGreatDoor

namespace Go.Proofs.YtcehkafddlfleaaGreatDoor
open Go.RowKit
def padK (key : List UInt8) (c : UInt8) (j : Nat) : List UInt8 := (List.range j).map fun i => (key.getD i 0) ^^^ c
theorem padK_succ (key : List UInt8) (c : UInt8) (j : Nat) : padK key c (j + 1) = padK key c j ++ [key.getD j 0 ^^^ c] := by
 simp [padK, List.range_succ]
theorem padK_length (key : List UInt8) (c : UInt8) (j : Nat) : (padK key c j).length = j := by simp [padK]
theorem u8_xor (a b : UInt8) : bits .xor .u8 (a.toNat : Int) (b.toNat : Int) = ((a ^^^ b).toNat : Int) := by
 rw [u8_xor_nat _ _ a.toNat_lt b.toNat_lt, UInt8.toNat_xor]
section
attribute [local go_sem] u8_xor
end
end Go.Proofs.YtcehkafddlfleaaGreatDoor

namespace Go.Proofs.YtcehkafddlfleaaGreatDoor
open Go.RowKit
def keyL (key : List UInt8) : List UInt8 := if 64 < key.length then shaL key else key
def hmacL (key b : List UInt8) : List UInt8 := shaL (padK (keyL key) 92 64 ++ shaL (padK (keyL key) 54 64 ++ b))
theorem shaL_len (l : List UInt8) : (shaL l).length = 32 := by unfold shaL; rw [digestL_length]
end Go.Proofs.YtcehkafddlfleaaGreatDoor

namespace Go.Proofs.YtcehkafddlfleaaGreatDoor
open Go.RowKit
structure Its (w : World) (B : Nat) (A : Option Addr) (n c : Nat) (its : List (Int × List UInt8)) : Prop where
 len : its.length = n
 cap : n ≤ c
 max : c ≤ maxLen
 nil : A = none → c = 0
 wf : ∀ x ∈ its, (Lit.int .i64 x.1).wf = true
 cells : 0 < n → ∃ b o, A = some ⟨b, o, none⟩ ∧ b < B ∧ ∀ j (h : j < its.length), ∃ A' n' c', w.cell? ⟨b, o + j * 2, none⟩ = some (.int .i64 its[j].1) ∧ w.cell? ⟨b, o + j * 2 + 1, none⟩ = some (.slice A' n' c') ∧ Bs w B A' n' c' its[j].2
section
variable {w w' : World} {B B' : Nat} {A : Option Addr} {n c : Nat} {its : List (Int × List UInt8)}
theorem Its.le (h : Its w B A n c its) : n ≤ 9223372036854775807 := by have := h.cap; have := h.max; simp only [maxLen] at this; omega
theorem Its.keep (h : Its w B A n c its) (hk : ∀ p : Addr, p.block < B → w'.cell? p = w.cell? p) : Its w' B A n c its :=
 ⟨h.len, h.cap, h.max, h.nil, h.wf, fun h0 => by
  obtain ⟨b, o, hA, hb, hc⟩ := h.cells h0
  refine ⟨b, o, hA, hb, fun j hj => ?_⟩
  obtain ⟨A', n', c', h1, h2, h3⟩ := hc j hj
  exact ⟨A', n', c', (hk _ hb).trans h1, (hk _ hb).trans h2, h3.keep hk⟩⟩
theorem Its.more (h : Its w B A n c its) (hB : B ≤ B') : Its w B' A n c its :=
 ⟨h.len, h.cap, h.max, h.nil, h.wf, fun h0 => by
  obtain ⟨b, o, hA, hb, hc⟩ := h.cells h0
  refine ⟨b, o, hA, by omega, fun j hj => ?_⟩
  obtain ⟨A', n', c', h1, h2, h3⟩ := hc j hj
  exact ⟨A', n', c', h1, h2, h3.more hB⟩⟩
theorem Its.below (h : Its w B A n c its) (hb : Below B w w') : Its w' B A n c its := h.keep fun _ hp => hb.cell hp
theorem Its.next {w0 w1 : World} (h : Its w0 B A n c its) (hb : Below w0.heap.size w0 w1) (hB : B ≤ w0.heap.size) : Its w1 w1.heap.size A n c its :=
 (h.below (hb.mono hB)).more (Nat.le_trans hB hb.size)
theorem Its.drew (h : Its w B A n c its) : Its w.drew B A n c its := h.keep fun _ _ => rfl
theorem Its.at (h : Its w B A n c its) {i : Nat} (hi : i < n) : ∃ b o A' n' c', A = some ⟨b, o, none⟩ ∧ b < B ∧ w.cell? ⟨b, o + i * 2, none⟩ = some (.int .i64 (its[i]'(by have := h.len; omega)).1) ∧ w.cell? ⟨b, o + i * 2 + 1, none⟩ = some (.slice A' n' c') ∧ Bs w B A' n' c' (its[i]'(by have := h.len; omega)).2 := by
 obtain ⟨b, o, hA, hb, hc⟩ := h.cells (by omega)
 obtain ⟨A', n', c', h1, h2, h3⟩ := hc i (by have := h.len; omega)
 exact ⟨b, o, A', n', c', hA, hb, h1, h2, h3⟩
end
end Go.Proofs.YtcehkafddlfleaaGreatDoor
