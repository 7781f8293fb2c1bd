/- 
   
    -/
import Derived.Test.YtcehkafddlfleaaGreatDoorG02
import Derived.Test.YtcehkafddlfleaaGreatDoorG22
import Derived.Test.YtcehkafddlfleaaGreatDoorG19
namespace Go.Proofs.YtcehkafddlfleaaGreatDoor
open Go.RowKit
theorem keys44 (bx key : List UInt8) : (cells32 ((List.range 44).map (Wk bx key))).length = 44 := by rw [cells32_length]; simp
theorem take_all {l : List Value} {n : Nat} (h : l.length = n) : (l.drop 0).take n = l := by rw [List.drop_zero, List.take_of_length_le (by omega)]
theorem fit_all {l : List Value} {n : Nat} (h : l.length = n) : 0 + n ≤ l.length := by omega
theorem words4 (l : List UInt8) : (cells32 (wordsL4 l)).length = 4 := by rw [cells32_length, wordsL_length4]
theorem rounds_next (bx key inp : List UInt8) (r : Nat) (h : r < 9) : roundsL (keysL bx key) bx inp (r + 1) = addL4 (mixL (shiftL (roundsL (keysL bx key) bx inp r) bx 16) 16) (kch bx key (r + 1)) 16 := by
 show roundL _ _ _ _ = _
 unfold roundL
 rw [if_pos (by omega), keysL_at bx key _ (by omega)]
theorem rounds_last (bx key inp : List UInt8) : blockL (keysL bx key) bx inp = addL4 (shiftL (roundsL (keysL bx key) bx inp 9) bx 16) (kch bx key 10) 16 := by
 show roundL _ _ _ (9 + 1) = _
 unfold roundL
 rw [if_neg (by decide), keysL_at bx key _ (by decide)]
theorem rounds_zero (bx key inp : List UInt8) : addL4 inp (kch bx key 0) 16 = roundsL (keysL bx key) bx inp 0 := by
 show _ = addL4 inp ((keysL bx key).getD 0 []) 16
 rw [keysL_at bx key 0 (by decide)]
theorem kch_words' (bx key : List UInt8) (r : Nat) (hr : r < 11) : ((cells32 ((List.range 44).map (Wk bx key))).drop (r * 4)).take 4 = cells32 (wordsL4 (kch bx key r)) := by
 rw [Nat.mul_comm]; exact kch_words bx key r hr
theorem store_all {cs vs : List Value} (h : cs.length = 4) (_h2 : vs.length = 4) : cs.take 0 ++ vs ++ cs.drop (0 + 4) = vs := by rw [List.drop_of_length_le (by omega)]; simp
set_option maxRecDepth 100000 in
set_option maxHeartbeats 4000000 in
theorem encipher_any (inp : List UInt8) (gq gx : Nat) (t t2 : TypeId) (bx key : List UInt8) (w : World) (hk : Blk w gq t2 (cells32 ((List.range 44).map (Wk bx key)))) (hb : Blk w gx t (cells8 bx)) (hl : bx.length = 256) :
  Calls Tryz.prog 261 #[.agg (cells32 (wordsL4 inp)).toArray, .pointer (some ⟨gq, 0, none⟩), .pointer (some ⟨gx, 0, none⟩)] w fun e w' => e = .returned (.agg (cells32 (wordsL4 (blockL (keysL bx key) bx inp))).toArray) ∧ Below w.heap.size w w' := by
 have HX : Kp _ := ⟨hb⟩
 have HK : Kp _ := ⟨hk⟩
 have HLx : Kp (bx.length = 256) := ⟨hl⟩
 have HLk : Kp _ := ⟨keys44 bx key⟩
 have hgx := hb.lt
 have hgq := hk.lt
 clear hb hl hk
 go_enter Tryz.func261, Tryz.ntmps261
 go_wp2_with (with_reducible refine wpList_box (o := ⟨some 3, _, _, _, _, _⟩) rfl (.tmp 0) rfl rfl ?_)
 intro w1 hk1 hb1 hs1
 have HK1 : Kp _ := ⟨hk1⟩
 clear hk1 hs1
 go_wp2_with (with_reducible refine wpList_alloc (o := ⟨some 6, _, _, _, _, _⟩) tyState rfl rfl ?_)
 intro w2 hk2 hb2 hs2
 have HR : Kp _ := ⟨hk2⟩
 have HS : Kp _ := ⟨HK1.out.below hb2 HK1.out.lt⟩
 have hB : Below w.heap.size w w2 := hb1.trans (hb2.mono hb1.size)
 have n1 : w.heap.size < w1.heap.size := HK1.out.lt
 replace HK : Kp _ := ⟨HK.out.below hB hgq⟩
 replace HX : Kp _ := ⟨HX.out.below hB hgx⟩
 have HLi : Kp _ := ⟨words4 inp⟩
 have HP0 : Kp _ := ⟨kch_words' bx key 0 (by decide)⟩
 have HF0 : Kp (0 + 4 ≤ (cells32 ((List.range 44).map (Wk bx key))).length) := ⟨by rw [HLk.out]; decide⟩
 obtain ⟨g1, hg1⟩ : ∃ g, g = w1.heap.size := ⟨_, rfl⟩
 rw [← hg1] at HR n1 ⊢
 clear hk2 hs2 hb1 hb2 HK1 hg1
 go_wp2_with fail
 refine wp_region_still_tail 5 (by kernel_rfl) (by kernel_rfl) ?_
 simp only [List.take_succ_cons, List.take_zero, List.drop_succ_cons, List.drop_zero]
 refine wpStill_load (o := ⟨some 8, _, _, _, _, _⟩) rwState rfl (.tmp 3) rfl rfl HS.out.drew (fit_all HLi.out) (take_all HLi.out) ?_
 repeat still_step
 refine wpStill_load (o := ⟨some 12, _, _, _, _, _⟩) rwState rfl (.tmp 11) rfl rfl HK.out.drew HF0.out HP0.out ?_
 try refine wpStill_nil ?_
 change wpList _ _ _ _ _ w2.drew
 replace HR : Kp _ := ⟨HR.out.drew⟩
 replace HS : Kp _ := ⟨HS.out.drew⟩
 replace HK : Kp _ := ⟨HK.out.drew⟩
 replace HX : Kp _ := ⟨HX.out.drew⟩
 replace hB := hB.drew
 generalize w2.drew = wS at *
 go_wp2_with fail
 refine (add4_any inp (kch bx key 0) wS).mono ?_
 rintro e w3 ⟨rfl, hb'⟩
 replace HR : Kp _ := ⟨HR.out.below hb' HR.out.lt⟩
 replace HS : Kp _ := ⟨HS.out.below hb' HS.out.lt⟩
 replace HK : Kp _ := ⟨HK.out.below hb' HK.out.lt⟩
 replace HX : Kp _ := ⟨HX.out.below hb' HX.out.lt⟩
 replace hB := hB.trans (hb'.mono hB.size)
 rw [rounds_zero]
 have HL0 : Kp _ := ⟨words4 (roundsL (keysL bx key) bx inp 0)⟩
 clear hb' HP0 HF0
 go_wp2_with (refine wpList_storeAll (o := ⟨none, _, _, _, _, _⟩) (vs := cells32 (wordsL4 (roundsL (keysL bx key) bx inp 0))) rwState rfl (.tmp 3) (.tmp 13) rfl rfl HS.out HLi.out HL0.out (cells32_one _) rfl ?_)
 intro w4 hk ho
 have HSn : Kp _ := ⟨hk⟩
 replace HR : Kp _ := ⟨HR.out.only ho (by omega)⟩
 replace HK : Kp _ := ⟨HK.out.only ho (by omega)⟩
 replace HX : Kp _ := ⟨HX.out.only ho (by omega)⟩
 replace hB := hB.trans (ho.below (Nat.le_refl _))
 clear hk ho HS HLi HL0
 go_wp2
 go_loopg [14] 9 (fun gk' vi wr => ∃ i : Nat, i + gk' = 9 ∧ vi = .int .i64 i ∧ Kp (Blk wr w.heap.size 343 (cells32 (wordsL4 (roundsL (keysL bx key) bx inp i)))) ∧ Kp (Blk wr g1 343 zero4) ∧ Kp (Blk wr gq t2 (cells32 ((List.range 44).map (Wk bx key)))) ∧ Kp (Blk wr gx t (cells8 bx)) ∧ Below w.heap.size w wr)
 case atStart => exact ⟨0, by omega, rfl, HSn, HR, HK, HX, hB⟩
 case round =>
  clear HSn HR HK HX hB
  obtain ⟨i, hi, rfl, HS, HR, HK, HX, hB⟩ := hrel
  cases gk with
  | zero =>
   obtain rfl : i = 9 := by omega
   have HBL : Kp _ := ⟨rounds_last bx key inp⟩
   have HP0 : Kp _ := ⟨kch_words' bx key 10 (by decide)⟩
   have HF0 : Kp (10 * 4 + 4 ≤ (cells32 ((List.range 44).map (Wk bx key))).length) := ⟨by rw [HLk.out]; decide⟩
   generalize roundsL (keysL bx key) bx inp 9 = s at *
   have HLi : Kp _ := ⟨words4 s⟩
   obtain ⟨wa, rfl⟩ : ∃ x, x = wr := ⟨wr, rfl⟩
   go_wp2_with fail
   refine wp_region_any (by kernel_rfl) ?_
   change wpAny _ _ _ _ _ _ _ wa.drew
   replace HR : Kp _ := ⟨HR.out.drew⟩
   replace HS : Kp _ := ⟨HS.out.drew⟩
   replace HK : Kp _ := ⟨HK.out.drew⟩
   replace HX : Kp _ := ⟨HX.out.drew⟩
   replace hB := hB.drew
   generalize wa.drew = wS at *
   refine wT 1 30 ?_ rfl ?_
   try simp only [Act.put, sA, sB, sC]
   refine wT 3 32 ?_ rfl ?_
   try simp only [Act.put, sA, sB, sC]
   refine wT 4 33 ?_ rfl ?_
   try simp only [Act.put, sA, sB, sC]
   refine wT 5 34 ?_ rfl ?_
   try simp only [Act.put, sA, sB, sC]
   refine rK [0, 6] ?_
   refine aS 29 35 rfl rfl (fun K hK => ?_) fun K hK => ?_
   ·refine step_load rwState rfl (.tmp 3) rfl rfl HS.out (fit_all HLi.out) (take_all HLi.out) ?_
    refine hK _ _ ?_
    clear hK K
    try simp only [Act.put, sA, sB, sC]
    refine rK [2, 6] ?_
    refine aS 31 35 rfl rfl (fun K hK => ?_) fun K hK => ?_
    ·go_simp
     refine (shift_any s gx t bx wS HX.out HLx.out).mono ?_
     rintro e w61 ⟨rfl, hb'⟩
     refine hK _ _ ?_
     clear hK K
     try simp only [Act.put, sA, sB, sC]
     replace HR : Kp _ := ⟨HR.out.below hb' HR.out.lt⟩
     replace HS : Kp _ := ⟨HS.out.below hb' HS.out.lt⟩
     replace HK : Kp _ := ⟨HK.out.below hb' HK.out.lt⟩
     replace HX : Kp _ := ⟨HX.out.below hb' HX.out.lt⟩
     replace hB := hB.trans (hb'.mono hB.size)
     clear hb'
     refine rK [6] ?_
     refine aR 35 rfl fun K hK => ?_
     refine step_load rwState rfl (.tmp 34) rfl rfl HK.out HF0.out HP0.out ?_
     refine hK _ _ ?_
     clear hK K
     try simp only [Act.put, sA, sB, sC]
     refine rK [7] ?_
     refine aR 36 rfl fun K hK => ?_
     go_simp
     refine (add4_any (shiftL s bx 16) (kch bx key 10) w61).mono ?_
     rintro e w62 ⟨rfl, hb'⟩
     refine hK _ _ ?_
     clear hK K
     try simp only [Act.put, sA, sB, sC]
     replace HR : Kp _ := ⟨HR.out.below hb' HR.out.lt⟩
     replace HS : Kp _ := ⟨HS.out.below hb' HS.out.lt⟩
     replace HK : Kp _ := ⟨HK.out.below hb' HK.out.lt⟩
     replace HX : Kp _ := ⟨HX.out.below hb' HX.out.lt⟩
     replace hB := hB.trans (hb'.mono hB.size)
     clear hb'
     refine rK [8] ?_
     refine AllReady.cons (o := ⟨none, _, _, _, _, _⟩) rfl (fun K hK => ?_) AllReady.nil
     refine step_store rwState rfl (.tmp 6) (.tmp 36) rfl rfl rfl HR.out (words4 _) (fit_all (l := zero4) rfl) (cells32_one _) ?_
     intro w63 hk ho
     refine hK _ _ ?_
     clear hK K
     simp only [Act.put]
     have HKf : Kp (Blk w63 g1 343 (cells32 (wordsL4 (addL4 (shiftL s bx 16) (kch bx key 10) 16)))) := ⟨by have h := hk; rw [store_all rfl (words4 _)] at h; exact h⟩
     replace hB := hB.trans (ho.below (by omega))
     clear hk ho
     refine wpAny_done (by kernel_rfl) ?_ _
     rw [← HBL.out] at HKf
     have HLf : Kp _ := ⟨words4 (blockL (keysL bx key) bx inp)⟩
     obtain ⟨L, hL⟩ : ∃ L, L = wordsL4 (blockL (keysL bx key) bx inp) := ⟨_, rfl⟩
     have HGL : Kp _ := ⟨hL⟩
     rw [← hL] at HKf HLf
     clear hL
     go_wp2
     exact ret_arr rfl rwState rfl HKf.out HLf.out rfl ⟨by rw [HGL.out], hB⟩
    ·refine step_load rwState rfl (.tmp 34) rfl rfl HK.out HF0.out HP0.out ?_
     refine hK _ _ ?_
     clear hK K
     try simp only [Act.put, sA, sB, sC]
     refine rK [2] ?_
     refine aR 31 rfl fun K hK => ?_
     go_simp
     refine (shift_any s gx t bx wS HX.out HLx.out).mono ?_
     rintro e w64 ⟨rfl, hb'⟩
     refine hK _ _ ?_
     clear hK K
     try simp only [Act.put, sA, sB, sC]
     replace HR : Kp _ := ⟨HR.out.below hb' HR.out.lt⟩
     replace HS : Kp _ := ⟨HS.out.below hb' HS.out.lt⟩
     replace HK : Kp _ := ⟨HK.out.below hb' HK.out.lt⟩
     replace HX : Kp _ := ⟨HX.out.below hb' HX.out.lt⟩
     replace hB := hB.trans (hb'.mono hB.size)
     clear hb'
     refine rK [7] ?_
     refine aR 36 rfl fun K hK => ?_
     go_simp
     refine (add4_any (shiftL s bx 16) (kch bx key 10) w64).mono ?_
     rintro e w65 ⟨rfl, hb'⟩
     refine hK _ _ ?_
     clear hK K
     try simp only [Act.put, sA, sB, sC]
     replace HR : Kp _ := ⟨HR.out.below hb' HR.out.lt⟩
     replace HS : Kp _ := ⟨HS.out.below hb' HS.out.lt⟩
     replace HK : Kp _ := ⟨HK.out.below hb' HK.out.lt⟩
     replace HX : Kp _ := ⟨HX.out.below hb' HX.out.lt⟩
     replace hB := hB.trans (hb'.mono hB.size)
     clear hb'
     refine rK [8] ?_
     refine AllReady.cons (o := ⟨none, _, _, _, _, _⟩) rfl (fun K hK => ?_) AllReady.nil
     refine step_store rwState rfl (.tmp 6) (.tmp 36) rfl rfl rfl HR.out (words4 _) (fit_all (l := zero4) rfl) (cells32_one _) ?_
     intro w66 hk ho
     refine hK _ _ ?_
     clear hK K
     simp only [Act.put]
     have HKf : Kp (Blk w66 g1 343 (cells32 (wordsL4 (addL4 (shiftL s bx 16) (kch bx key 10) 16)))) := ⟨by have h := hk; rw [store_all rfl (words4 _)] at h; exact h⟩
     replace hB := hB.trans (ho.below (by omega))
     clear hk ho
     refine wpAny_done (by kernel_rfl) ?_ _
     rw [← HBL.out] at HKf
     have HLf : Kp _ := ⟨words4 (blockL (keysL bx key) bx inp)⟩
     obtain ⟨L, hL⟩ : ∃ L, L = wordsL4 (blockL (keysL bx key) bx inp) := ⟨_, rfl⟩
     have HGL : Kp _ := ⟨hL⟩
     rw [← hL] at HKf HLf
     clear hL
     go_wp2
     exact ret_arr rfl rwState rfl HKf.out HLf.out rfl ⟨by rw [HGL.out], hB⟩
   ·refine step_load rwState rfl (.tmp 34) rfl rfl HK.out HF0.out HP0.out ?_
    refine hK _ _ ?_
    clear hK K
    try simp only [Act.put, sA, sB, sC]
    refine rK [0] ?_
    refine aR 29 rfl fun K hK => ?_
    refine step_load rwState rfl (.tmp 3) rfl rfl HS.out (fit_all HLi.out) (take_all HLi.out) ?_
    refine hK _ _ ?_
    clear hK K
    try simp only [Act.put, sA, sB, sC]
    refine rK [2] ?_
    refine aR 31 rfl fun K hK => ?_
    go_simp
    refine (shift_any s gx t bx wS HX.out HLx.out).mono ?_
    rintro e w67 ⟨rfl, hb'⟩
    refine hK _ _ ?_
    clear hK K
    try simp only [Act.put, sA, sB, sC]
    replace HR : Kp _ := ⟨HR.out.below hb' HR.out.lt⟩
    replace HS : Kp _ := ⟨HS.out.below hb' HS.out.lt⟩
    replace HK : Kp _ := ⟨HK.out.below hb' HK.out.lt⟩
    replace HX : Kp _ := ⟨HX.out.below hb' HX.out.lt⟩
    replace hB := hB.trans (hb'.mono hB.size)
    clear hb'
    refine rK [7] ?_
    refine aR 36 rfl fun K hK => ?_
    go_simp
    refine (add4_any (shiftL s bx 16) (kch bx key 10) w67).mono ?_
    rintro e w68 ⟨rfl, hb'⟩
    refine hK _ _ ?_
    clear hK K
    try simp only [Act.put, sA, sB, sC]
    replace HR : Kp _ := ⟨HR.out.below hb' HR.out.lt⟩
    replace HS : Kp _ := ⟨HS.out.below hb' HS.out.lt⟩
    replace HK : Kp _ := ⟨HK.out.below hb' HK.out.lt⟩
    replace HX : Kp _ := ⟨HX.out.below hb' HX.out.lt⟩
    replace hB := hB.trans (hb'.mono hB.size)
    clear hb'
    refine rK [8] ?_
    refine AllReady.cons (o := ⟨none, _, _, _, _, _⟩) rfl (fun K hK => ?_) AllReady.nil
    refine step_store rwState rfl (.tmp 6) (.tmp 36) rfl rfl rfl HR.out (words4 _) (fit_all (l := zero4) rfl) (cells32_one _) ?_
    intro w69 hk ho
    refine hK _ _ ?_
    clear hK K
    simp only [Act.put]
    have HKf : Kp (Blk w69 g1 343 (cells32 (wordsL4 (addL4 (shiftL s bx 16) (kch bx key 10) 16)))) := ⟨by have h := hk; rw [store_all rfl (words4 _)] at h; exact h⟩
    replace hB := hB.trans (ho.below (by omega))
    clear hk ho
    refine wpAny_done (by kernel_rfl) ?_ _
    rw [← HBL.out] at HKf
    have HLf : Kp _ := ⟨words4 (blockL (keysL bx key) bx inp)⟩
    obtain ⟨L, hL⟩ : ∃ L, L = wordsL4 (blockL (keysL bx key) bx inp) := ⟨_, rfl⟩
    have HGL : Kp _ := ⟨hL⟩
    rw [← hL] at HKf HLf
    clear hL
    go_wp2
    exact ret_arr rfl rwState rfl HKf.out HLf.out rfl ⟨by rw [HGL.out], hB⟩
  | succ g2 =>
   have hiI : (i : Int) < 9 := by omega
   have HBL : Kp _ := ⟨rounds_next bx key inp i (by omega)⟩
   obtain ⟨k, hk⟩ : ∃ k, k = i + 1 := ⟨_, rfl⟩
   have hw1 : IntKind.i64.wrap ((i : Int) + 1) = (k : Int) := by rw [IntKind.wrap_i64]; omega
   have hk11 : (k : Int) < 11 := by omega
   rw [← hk] at HBL
   have HP0 : Kp _ := ⟨kch_words' bx key k (by omega)⟩
   have HF0 : Kp (k * 4 + 4 ≤ (cells32 ((List.range 44).map (Wk bx key))).length) := ⟨by rw [HLk.out]; omega⟩
   have HKI : Kp _ := ⟨hk⟩
   clear hk
   generalize roundsL (keysL bx key) bx inp i = s at *
   have HLi : Kp _ := ⟨words4 s⟩
   obtain ⟨wa, rfl⟩ : ∃ x, x = wr := ⟨wr, rfl⟩
   go_wp2_with fail
   refine wp_region_any (by kernel_rfl) ?_
   change wpAny _ _ _ _ _ _ _ wa.drew
   replace HR : Kp _ := ⟨HR.out.drew⟩
   replace HS : Kp _ := ⟨HS.out.drew⟩
   replace HK : Kp _ := ⟨HK.out.drew⟩
   replace HX : Kp _ := ⟨HX.out.drew⟩
   replace hB := hB.drew
   generalize wa.drew = wS at *
   refine wT 1 18 ?_ rfl ?_
   try simp only [Act.put, sA, sB, sC]
   refine wT 4 21 ?_ rfl ?_
   try simp only [Act.put, sA, sB, sC]
   refine wT 5 22 ?_ rfl ?_
   try simp only [Act.put, sA, sB, sC]
   refine wT 6 23 ?_ rfl ?_
   try simp only [Act.put, sA, sB, sC]
   refine wT 7 24 ?_ rfl ?_
   try simp only [Act.put, sA, sB, sC]
   refine wT 8 25 ?_ rfl ?_
   try simp only [Act.put, sA, sB, sC]
   refine rK [0, 9] ?_
   refine aS 17 26 rfl rfl (fun K hK => ?_) fun K hK => ?_
   ·refine step_load rwState rfl (.tmp 3) rfl rfl HS.out (fit_all HLi.out) (take_all HLi.out) ?_
    refine hK _ _ ?_
    clear hK K
    try simp only [Act.put, sA, sB, sC]
    refine rK [2, 9] ?_
    refine aS 19 26 rfl rfl (fun K hK => ?_) fun K hK => ?_
    ·go_simp
     refine (shift_any s gx t bx wS HX.out HLx.out).mono ?_
     rintro e w61 ⟨rfl, hb'⟩
     refine hK _ _ ?_
     clear hK K
     try simp only [Act.put, sA, sB, sC]
     replace HR : Kp _ := ⟨HR.out.below hb' HR.out.lt⟩
     replace HS : Kp _ := ⟨HS.out.below hb' HS.out.lt⟩
     replace HK : Kp _ := ⟨HK.out.below hb' HK.out.lt⟩
     replace HX : Kp _ := ⟨HX.out.below hb' HX.out.lt⟩
     replace hB := hB.trans (hb'.mono hB.size)
     clear hb'
     refine rK [3, 9] ?_
     refine aS 20 26 rfl rfl (fun K hK => ?_) fun K hK => ?_
     ·go_simp
      refine (mix_any (shiftL s bx 16) w61).mono ?_
      rintro e w62 ⟨rfl, hb'⟩
      refine hK _ _ ?_
      clear hK K
      try simp only [Act.put, sA, sB, sC]
      replace HR : Kp _ := ⟨HR.out.below hb' HR.out.lt⟩
      replace HS : Kp _ := ⟨HS.out.below hb' HS.out.lt⟩
      replace HK : Kp _ := ⟨HK.out.below hb' HK.out.lt⟩
      replace HX : Kp _ := ⟨HX.out.below hb' HX.out.lt⟩
      replace hB := hB.trans (hb'.mono hB.size)
      clear hb'
      refine rK [9] ?_
      refine aR 26 rfl fun K hK => ?_
      refine step_load rwState rfl (.tmp 25) rfl rfl HK.out HF0.out HP0.out ?_
      refine hK _ _ ?_
      clear hK K
      try simp only [Act.put, sA, sB, sC]
      refine rK [10] ?_
      refine aR 27 rfl fun K hK => ?_
      go_simp
      refine (add4_any (mixL (shiftL s bx 16) 16) (kch bx key k) w62).mono ?_
      rintro e w63 ⟨rfl, hb'⟩
      refine hK _ _ ?_
      clear hK K
      try simp only [Act.put, sA, sB, sC]
      replace HR : Kp _ := ⟨HR.out.below hb' HR.out.lt⟩
      replace HS : Kp _ := ⟨HS.out.below hb' HS.out.lt⟩
      replace HK : Kp _ := ⟨HK.out.below hb' HK.out.lt⟩
      replace HX : Kp _ := ⟨HX.out.below hb' HX.out.lt⟩
      replace hB := hB.trans (hb'.mono hB.size)
      clear hb'
      refine rK [11] ?_
      refine AllReady.cons (o := ⟨none, _, _, _, _, _⟩) rfl (fun K hK => ?_) AllReady.nil
      refine step_store rwState rfl (.tmp 3) (.tmp 27) rfl rfl rfl HS.out (words4 _) (fit_all HLi.out) (cells32_one _) ?_
      intro w64 hk ho
      refine hK _ _ ?_
      clear hK K
      simp only [Act.put]
      have HSn : Kp (Blk w64 w.heap.size 343 (cells32 (wordsL4 (addL4 (mixL (shiftL s bx 16) 16) (kch bx key k) 16)))) := ⟨by have h := hk; rw [store_all (words4 _) (words4 _)] at h; exact h⟩
      replace HR : Kp _ := ⟨HR.out.only ho (by omega)⟩
      replace HK : Kp _ := ⟨HK.out.only ho (by omega)⟩
      replace HX : Kp _ := ⟨HX.out.only ho (by omega)⟩
      replace hB := hB.trans (ho.below (Nat.le_refl _))
      clear hk ho HS
      refine wpAny_done (by kernel_rfl) ?_ _
      rw [← HBL.out, HKI.out] at HSn
      clear hw1 hk11
      go_wp2
      go_roundg g2
      case rel => exact ⟨i + 1, by omega, by go_num, HSn, HR, HK, HX, hB⟩
      case measure => omega
     ·refine step_load rwState rfl (.tmp 25) rfl rfl HK.out HF0.out HP0.out ?_
      refine hK _ _ ?_
      clear hK K
      try simp only [Act.put, sA, sB, sC]
      refine rK [3] ?_
      refine aR 20 rfl fun K hK => ?_
      go_simp
      refine (mix_any (shiftL s bx 16) w61).mono ?_
      rintro e w65 ⟨rfl, hb'⟩
      refine hK _ _ ?_
      clear hK K
      try simp only [Act.put, sA, sB, sC]
      replace HR : Kp _ := ⟨HR.out.below hb' HR.out.lt⟩
      replace HS : Kp _ := ⟨HS.out.below hb' HS.out.lt⟩
      replace HK : Kp _ := ⟨HK.out.below hb' HK.out.lt⟩
      replace HX : Kp _ := ⟨HX.out.below hb' HX.out.lt⟩
      replace hB := hB.trans (hb'.mono hB.size)
      clear hb'
      refine rK [10] ?_
      refine aR 27 rfl fun K hK => ?_
      go_simp
      refine (add4_any (mixL (shiftL s bx 16) 16) (kch bx key k) w65).mono ?_
      rintro e w66 ⟨rfl, hb'⟩
      refine hK _ _ ?_
      clear hK K
      try simp only [Act.put, sA, sB, sC]
      replace HR : Kp _ := ⟨HR.out.below hb' HR.out.lt⟩
      replace HS : Kp _ := ⟨HS.out.below hb' HS.out.lt⟩
      replace HK : Kp _ := ⟨HK.out.below hb' HK.out.lt⟩
      replace HX : Kp _ := ⟨HX.out.below hb' HX.out.lt⟩
      replace hB := hB.trans (hb'.mono hB.size)
      clear hb'
      refine rK [11] ?_
      refine AllReady.cons (o := ⟨none, _, _, _, _, _⟩) rfl (fun K hK => ?_) AllReady.nil
      refine step_store rwState rfl (.tmp 3) (.tmp 27) rfl rfl rfl HS.out (words4 _) (fit_all HLi.out) (cells32_one _) ?_
      intro w67 hk ho
      refine hK _ _ ?_
      clear hK K
      simp only [Act.put]
      have HSn : Kp (Blk w67 w.heap.size 343 (cells32 (wordsL4 (addL4 (mixL (shiftL s bx 16) 16) (kch bx key k) 16)))) := ⟨by have h := hk; rw [store_all (words4 _) (words4 _)] at h; exact h⟩
      replace HR : Kp _ := ⟨HR.out.only ho (by omega)⟩
      replace HK : Kp _ := ⟨HK.out.only ho (by omega)⟩
      replace HX : Kp _ := ⟨HX.out.only ho (by omega)⟩
      replace hB := hB.trans (ho.below (Nat.le_refl _))
      clear hk ho HS
      refine wpAny_done (by kernel_rfl) ?_ _
      rw [← HBL.out, HKI.out] at HSn
      clear hw1 hk11
      go_wp2
      go_roundg g2
      case rel => exact ⟨i + 1, by omega, by go_num, HSn, HR, HK, HX, hB⟩
      case measure => omega
    ·refine step_load rwState rfl (.tmp 25) rfl rfl HK.out HF0.out HP0.out ?_
     refine hK _ _ ?_
     clear hK K
     try simp only [Act.put, sA, sB, sC]
     refine rK [2] ?_
     refine aR 19 rfl fun K hK => ?_
     go_simp
     refine (shift_any s gx t bx wS HX.out HLx.out).mono ?_
     rintro e w68 ⟨rfl, hb'⟩
     refine hK _ _ ?_
     clear hK K
     try simp only [Act.put, sA, sB, sC]
     replace HR : Kp _ := ⟨HR.out.below hb' HR.out.lt⟩
     replace HS : Kp _ := ⟨HS.out.below hb' HS.out.lt⟩
     replace HK : Kp _ := ⟨HK.out.below hb' HK.out.lt⟩
     replace HX : Kp _ := ⟨HX.out.below hb' HX.out.lt⟩
     replace hB := hB.trans (hb'.mono hB.size)
     clear hb'
     refine rK [3] ?_
     refine aR 20 rfl fun K hK => ?_
     go_simp
     refine (mix_any (shiftL s bx 16) w68).mono ?_
     rintro e w69 ⟨rfl, hb'⟩
     refine hK _ _ ?_
     clear hK K
     try simp only [Act.put, sA, sB, sC]
     replace HR : Kp _ := ⟨HR.out.below hb' HR.out.lt⟩
     replace HS : Kp _ := ⟨HS.out.below hb' HS.out.lt⟩
     replace HK : Kp _ := ⟨HK.out.below hb' HK.out.lt⟩
     replace HX : Kp _ := ⟨HX.out.below hb' HX.out.lt⟩
     replace hB := hB.trans (hb'.mono hB.size)
     clear hb'
     refine rK [10] ?_
     refine aR 27 rfl fun K hK => ?_
     go_simp
     refine (add4_any (mixL (shiftL s bx 16) 16) (kch bx key k) w69).mono ?_
     rintro e w70 ⟨rfl, hb'⟩
     refine hK _ _ ?_
     clear hK K
     try simp only [Act.put, sA, sB, sC]
     replace HR : Kp _ := ⟨HR.out.below hb' HR.out.lt⟩
     replace HS : Kp _ := ⟨HS.out.below hb' HS.out.lt⟩
     replace HK : Kp _ := ⟨HK.out.below hb' HK.out.lt⟩
     replace HX : Kp _ := ⟨HX.out.below hb' HX.out.lt⟩
     replace hB := hB.trans (hb'.mono hB.size)
     clear hb'
     refine rK [11] ?_
     refine AllReady.cons (o := ⟨none, _, _, _, _, _⟩) rfl (fun K hK => ?_) AllReady.nil
     refine step_store rwState rfl (.tmp 3) (.tmp 27) rfl rfl rfl HS.out (words4 _) (fit_all HLi.out) (cells32_one _) ?_
     intro w71 hk ho
     refine hK _ _ ?_
     clear hK K
     simp only [Act.put]
     have HSn : Kp (Blk w71 w.heap.size 343 (cells32 (wordsL4 (addL4 (mixL (shiftL s bx 16) 16) (kch bx key k) 16)))) := ⟨by have h := hk; rw [store_all (words4 _) (words4 _)] at h; exact h⟩
     replace HR : Kp _ := ⟨HR.out.only ho (by omega)⟩
     replace HK : Kp _ := ⟨HK.out.only ho (by omega)⟩
     replace HX : Kp _ := ⟨HX.out.only ho (by omega)⟩
     replace hB := hB.trans (ho.below (Nat.le_refl _))
     clear hk ho HS
     refine wpAny_done (by kernel_rfl) ?_ _
     rw [← HBL.out, HKI.out] at HSn
     clear hw1 hk11
     go_wp2
     go_roundg g2
     case rel => exact ⟨i + 1, by omega, by go_num, HSn, HR, HK, HX, hB⟩
     case measure => omega
   ·refine step_load rwState rfl (.tmp 25) rfl rfl HK.out HF0.out HP0.out ?_
    refine hK _ _ ?_
    clear hK K
    try simp only [Act.put, sA, sB, sC]
    refine rK [0] ?_
    refine aR 17 rfl fun K hK => ?_
    refine step_load rwState rfl (.tmp 3) rfl rfl HS.out (fit_all HLi.out) (take_all HLi.out) ?_
    refine hK _ _ ?_
    clear hK K
    try simp only [Act.put, sA, sB, sC]
    refine rK [2] ?_
    refine aR 19 rfl fun K hK => ?_
    go_simp
    refine (shift_any s gx t bx wS HX.out HLx.out).mono ?_
    rintro e w72 ⟨rfl, hb'⟩
    refine hK _ _ ?_
    clear hK K
    try simp only [Act.put, sA, sB, sC]
    replace HR : Kp _ := ⟨HR.out.below hb' HR.out.lt⟩
    replace HS : Kp _ := ⟨HS.out.below hb' HS.out.lt⟩
    replace HK : Kp _ := ⟨HK.out.below hb' HK.out.lt⟩
    replace HX : Kp _ := ⟨HX.out.below hb' HX.out.lt⟩
    replace hB := hB.trans (hb'.mono hB.size)
    clear hb'
    refine rK [3] ?_
    refine aR 20 rfl fun K hK => ?_
    go_simp
    refine (mix_any (shiftL s bx 16) w72).mono ?_
    rintro e w73 ⟨rfl, hb'⟩
    refine hK _ _ ?_
    clear hK K
    try simp only [Act.put, sA, sB, sC]
    replace HR : Kp _ := ⟨HR.out.below hb' HR.out.lt⟩
    replace HS : Kp _ := ⟨HS.out.below hb' HS.out.lt⟩
    replace HK : Kp _ := ⟨HK.out.below hb' HK.out.lt⟩
    replace HX : Kp _ := ⟨HX.out.below hb' HX.out.lt⟩
    replace hB := hB.trans (hb'.mono hB.size)
    clear hb'
    refine rK [10] ?_
    refine aR 27 rfl fun K hK => ?_
    go_simp
    refine (add4_any (mixL (shiftL s bx 16) 16) (kch bx key k) w73).mono ?_
    rintro e w74 ⟨rfl, hb'⟩
    refine hK _ _ ?_
    clear hK K
    try simp only [Act.put, sA, sB, sC]
    replace HR : Kp _ := ⟨HR.out.below hb' HR.out.lt⟩
    replace HS : Kp _ := ⟨HS.out.below hb' HS.out.lt⟩
    replace HK : Kp _ := ⟨HK.out.below hb' HK.out.lt⟩
    replace HX : Kp _ := ⟨HX.out.below hb' HX.out.lt⟩
    replace hB := hB.trans (hb'.mono hB.size)
    clear hb'
    refine rK [11] ?_
    refine AllReady.cons (o := ⟨none, _, _, _, _, _⟩) rfl (fun K hK => ?_) AllReady.nil
    refine step_store rwState rfl (.tmp 3) (.tmp 27) rfl rfl rfl HS.out (words4 _) (fit_all HLi.out) (cells32_one _) ?_
    intro w75 hk ho
    refine hK _ _ ?_
    clear hK K
    simp only [Act.put]
    have HSn : Kp (Blk w75 w.heap.size 343 (cells32 (wordsL4 (addL4 (mixL (shiftL s bx 16) 16) (kch bx key k) 16)))) := ⟨by have h := hk; rw [store_all (words4 _) (words4 _)] at h; exact h⟩
    replace HR : Kp _ := ⟨HR.out.only ho (by omega)⟩
    replace HK : Kp _ := ⟨HK.out.only ho (by omega)⟩
    replace HX : Kp _ := ⟨HX.out.only ho (by omega)⟩
    replace hB := hB.trans (ho.below (Nat.le_refl _))
    clear hk ho HS
    refine wpAny_done (by kernel_rfl) ?_ _
    rw [← HBL.out, HKI.out] at HSn
    clear hw1 hk11
    go_wp2
    go_roundg g2
    case rel => exact ⟨i + 1, by omega, by go_num, HSn, HR, HK, HX, hB⟩
    case measure => omega
end Go.Proofs.YtcehkafddlfleaaGreatDoor

namespace Go.Proofs.YtcehkafddlfleaaGreatDoor
open Go.RowKit
structure Ci (w : World) (g : Nat) (key : List UInt8) : Prop where
 blk : Blk w g 349 (cells32 ((List.range 44).map (Wk boxB key)))
theorem Ci.below {w w' : World} {g : Nat} {key : List UInt8} (h : Ci w g key) (hb : Below w.heap.size w w') : Ci w' g key := ⟨h.blk.below hb h.blk.lt⟩
theorem rwKey : Rw Tryz.prog 76 (.array 16 5) 16 := ⟨by kernel_rfl, rfl, by kernel_rfl⟩
theorem cipher_built (g : Nat → UInt32) : Tryz.prog.built 349 [(0, .agg (cells32 ((List.range 44).map g)).toArray)] = some (cells32 ((List.range 44).map g)).toArray := by kernel_rfl
set_option maxRecDepth 100000 in
set_option maxHeartbeats 2000000 in
theorem aesnew_any (key : List UInt8) (w : World) (hk : key.length = 16) : Calls Tryz.prog 195 #[.agg (cells8 key).toArray] w fun e w' => ∃ g, e = .returned (.pointer (some ⟨g, 0, none⟩)) ∧ Ci w' g key ∧ Below w.heap.size w w' := by
 have HK : Kp _ := ⟨hk⟩
 clear hk
 go_enter Tryz.func195, Tryz.ntmps195
 go_wp2_with (with_reducible refine wpList_box (o := ⟨some 1, _, _, _, _, _⟩) rfl (.tmp 0) rfl rfl ?_)
 intro w1 hk1 hb1 hs1
 have HK1 : Kp _ := ⟨hk1⟩
 have HLk : Kp ((cells8 key).length = 16) := ⟨by rw [cells8_length]; exact HK.out⟩
 clear hk1 hs1
 go_wp2_with fail
 refine (makeBox_any w1).mono ?_
 rintro e w2 ⟨rfl, hb2⟩
 have HK2 : Kp _ := ⟨HK1.out.below hb2 HK1.out.lt⟩
 have hB2 := hb1.trans (hb2.mono hb1.size)
 have HL : Kp ((cells8 boxB).length = 256) := ⟨by rw [cells8_length, boxB_length]⟩
 have HZ : Kp (zero256.length = 256) := ⟨by unfold zero256; exact List.length_replicate⟩
 obtain ⟨L, hL⟩ : ∃ L, L = boxB := ⟨_, rfl⟩
 have HG : Kp _ := ⟨hL⟩
 rw [← hL] at HL ⊢
 clear hL hb1 hb2 HK1
 go_wp2_with (with_reducible refine wpList_alloc (o := ⟨some 3, _, _, _, _, _⟩) tyTable rfl rfl ?_)
 intro w3 hk3 hb3 hs3
 have HT3 : Kp _ := ⟨hk3⟩
 have HK3 : Kp _ := ⟨HK2.out.below hb3 HK2.out.lt⟩
 have hB3 := hB2.trans (hb3.mono hB2.size)
 have hgx : w.heap.size < w2.heap.size := HK2.out.lt
 obtain ⟨gx, hg⟩ : ∃ g, g = w2.heap.size := ⟨_, rfl⟩
 rw [← hg] at HT3 hgx ⊢
 clear hk3 hs3 hb3 hg hB2 HK2
 go_wp2_with (first
  | (refine wpList_storeAll (o := ⟨none, _, _, _, _, _⟩) (vs := cells8 L) rwTable rfl (.tmp 3) (.tmp 4) rfl rfl HT3.out HZ.out HL.out (cells8_one _) rfl ?_))
 intro w4 hk4 ho4
 have HX : Kp _ := ⟨hk4⟩
 have HK4 : Kp _ := ⟨HK3.out.only ho4 (by omega)⟩
 have hB4 := hB3.trans (ho4.below (Nat.le_of_lt hgx))
 clear hk4 ho4 hB3 HT3 HK3
 go_wp2_with (with_reducible refine wpList_loadAll (o := ⟨some 5, _, _, _, _, _⟩) rwKey rfl (.tmp 1) rfl rfl HK4.out HLk.out ?_)
 go_wp2_with fail
 refine (columns_any key _ HK.out).mono ?_
 rintro e w5 ⟨rfl, hb5⟩
 have HX5 : Kp (Blk w5 gx 340 (cells8 boxB)) := ⟨by rw [← HG.out]; exact HX.out.below hb5 HX.out.lt⟩
 have hB5 := hB4.trans (hb5.mono hB4.size)
 clear hb5 hB4 HX HK4 HG HL
 go_wp2_with fail
 refine (expand_any key gx _ boxB _ HX5.out boxB_length).mono ?_
 rintro e w6 ⟨rfl, hb6⟩
 have hB6 := hB5.trans (hb6.mono hB5.size)
 have HBu : Kp _ := ⟨cipher_built (Wk boxB key)⟩
 clear hB5 hb6 HX5
 obtain ⟨M, hM⟩ : ∃ L, L = (List.range 44).map (Wk boxB key) := ⟨_, rfl⟩
 have HM : Kp _ := ⟨hM⟩
 rw [← hM] at HBu ⊢
 clear hM
 go_wp2_with (first
  | (refine wpList_build1 (o := ⟨some 8, _, _, _, _, _⟩) rfl 0 (.tmp 7) rfl rfl HBu.out ?_)
  | (with_reducible refine wpList_box (o := ⟨some 9, _, _, _, _, _⟩) rfl (.tmp 8) rfl rfl ?_))
 intro w7 hk7 hb7 hs7
 have HK7 : Kp _ := ⟨hk7⟩
 have hB7 := hB6.trans (hb7.mono hB6.size)
 clear hk7 hs7
 go_wp2
 go_ret
 exact ⟨_, rfl, ⟨by rw [← HM.out]; exact HK7.out⟩, hB7⟩
end Go.Proofs.YtcehkafddlfleaaGreatDoor

namespace Go.Proofs.YtcehkafddlfleaaGreatDoor
open Go.RowKit
set_option maxRecDepth 100000 in
set_option maxHeartbeats 4000000 in
theorem next_mid (a : List UInt8) (N : Nat) (w : World) (ha : a.length = 16) (hN : N ≤ 9223372036854775807) :
  Calls Tryz.prog 262 #[.agg (cells8 a).toArray, .int .i64 (N : Int)] w fun e w' => e = .returned (.agg (cells8 (nextL a N)).toArray) ∧ Below w.heap.size w w' := by
 have HLa : Kp (a.length = 16) := ⟨ha⟩
 clear ha
 go_enter Tryz.func262, Tryz.ntmps262
 go_wp2_with (with_reducible refine wpList_box (o := ⟨some 2, _, _, _, _, _⟩) rfl (.tmp 0) rfl rfl ?_)
 intro w1 hk1 hb1 hs1
 have HK1 : Kp _ := ⟨hk1⟩
 clear hk1 hs1
 go_wp2_with (with_reducible refine wpList_alloc (o := ⟨some 4, _, _, _, _, _⟩) tyNonce rfl rfl ?_)
 intro w2 hk2 hb2 hs2
 have HR2 : Kp _ := ⟨hk2⟩
 have HK2 : Kp (Blk w2 w.heap.size 73 (cells8 (nextC a N 16))) := ⟨by rw [nextC_start _ _ HLa.out]; exact HK1.out.below hb2 HK1.out.lt⟩
 have hB2 : Below w.heap.size w w2 := hb1.trans (hb2.mono hb1.size)
 have hgg : w.heap.size < w1.heap.size := HK1.out.lt
 obtain ⟨g, hg⟩ : ∃ g, g = w1.heap.size := ⟨_, rfl⟩
 rw [← hg] at HR2 hgg ⊢
 clear hk2 HK1 hb1 hb2 hs2 hg
 have h0 : (0 : Int) ≤ (N : Int) := by omega
 have hN63 : (N : Int) ≤ 9223372036854775807 := by omega
 go_wp2
 go_loopw [5, 11] (fun vn vi wr => ∃ (i k q : Nat), i ≤ 16 ∧ Kp (k = 16 - i) ∧ vi = .int .i64 i ∧ vn = .int .u64 q ∧ q ≤ 9223372036854775807 ∧ Kp (q = nextS a N k / 256 ^ (16 - k)) ∧ Kp (Blk wr w.heap.size 73 (cells8 (nextC a N k))) ∧ Only w.heap.size w2 wr) (fun _ vi _ => 16 - (intOf vi).toNat)
 case atStart => exact ⟨0, 16, N, by omega, ⟨rfl⟩, rfl, by first | rfl | simp, by omega, ⟨by unfold nextS; rw [List.drop_of_length_le (by rw [HLa.out]; exact Nat.le_refl _)]; simp [getN]⟩, HK2, Only.refl _ _⟩
 case round =>
  clear HK2
  obtain ⟨i, k, q, hi, hk, rfl, rfl, hq, HQ, HB, ho⟩ := hrel
  cases k with
  | zero =>
   obtain rfl : i = 16 := by have := hk.out; omega
   have HD : Kp (Blk wr w.heap.size 73 (cells8 (nextL a N))) := ⟨by rw [← nextC_done]; exact HB.out⟩
   have HLen : Kp ((cells8 (nextL a N)).length = 16) := ⟨by rw [cells8_length, nextL_length]⟩
   have HZ : Kp (zero16.length = 16) := ⟨rfl⟩
   have HRr : Kp _ := ⟨HR2.out.only ho (by omega)⟩
   obtain ⟨L, hL⟩ : ∃ L, L = nextL a N := ⟨_, rfl⟩
   have HL : Kp _ := ⟨hL⟩
   rw [← hL] at HD HLen
   clear HB HQ hL
   go_wp2_with (first
    | (with_reducible refine wpList_loadAll (o := ⟨some 29, _, _, _, _, _⟩) rwNonce rfl (.tmp 2) rfl rfl HD.out HLen.out ?_)
    | (with_reducible refine wpList_storeAll (o := ⟨none, _, _, _, _, _⟩) (vs := cells8 L) rwNonce rfl (.tmp 4) (.tmp 29) rfl rfl HRr.out HZ.out HLen.out (cells8_one _) rfl ?_))
   intro w5 hk5 ho5
   have HK5 : Kp _ := ⟨hk5⟩
   clear hk5
   go_wp2
   exact ret_arr rfl rwNonce rfl HK5.out HLen.out rfl ⟨by rw [HL.out], (hB2.trans (ho.below (Nat.le_refl _))).trans (ho5.below (Nat.le_of_lt hgg))⟩
  | succ k =>
   have hik : i + k = 15 := by have := hk.out; omega
   have hkl : k < a.length := by rw [HLa.out]; omega
   have hc : wr.cell? ⟨w.heap.size, k, none⟩ = some (.int .u8 (a[k].toNat : Int)) := by rw [HB.out.cell? k]; exact next_at a N k hkl HLa.out
   have hf := HB.out.frozen k
   have HN : Kp _ := ⟨next_row a N k hkl HLa.out⟩
   have HC : Kp _ := ⟨next_carry a N k hkl HLa.out⟩
   rw [← HQ.out] at HN HC
   have hb8 := a[k].toNat_lt
   generalize a[k] = b at *
   have e1 : (15 : Int) - (i : Int) = (k : Int) := by omega
   have hk16 : (k : Int) < 16 := by omega
   have hi16 : (i : Int) < 16 := by omega
   have HIK : Kp (i + k = 15) := ⟨hik⟩
   clear HQ hkl hk hik
   go_wp2
   refine ⟨⟨i + 1, k, (b.toNat + q) / 256, by omega, ⟨by have := HIK.out; omega⟩, by go_num, ?_, by omega, ⟨HC.out.symm⟩, ⟨?_⟩, ho.trans (Only.setCell wr ⟨w.heap.size, k, none⟩ _)⟩, by first | (simp [intOf]; done) | (simp [intOf]; omega)⟩
   ·first | rfl | (congr 1; omega)
   ·have h3 := HB.out.set k (.int .u8 ((UInt8.ofNat (b.toNat + q)).toNat : Int))
    rw [HN.out] at h3
    have e : ((q : Int) + (b.toNat : Int)) % 256 = ((UInt8.ofNat (b.toNat + q)).toNat : Int) := by rw [ofNat_toNat]; omega
    rw [e]
    exact h3
end Go.Proofs.YtcehkafddlfleaaGreatDoor
