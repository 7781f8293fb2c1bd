/- The contract of package aes's encipher. -/
import Derived.Test.YtleplilcpcgacaaAesRound2
import Derived.Test.YtleplilcpcgacaaAesExp
namespace Go.Proofs.Ytleplilcpcgacaa
open Go.RowKit

theorem keys44 (bx key : List UInt8) : (cells32 ((List.range 44).map (Wk bx key))).length = 44 := by rw [cells32_length]; simp
theorem take_all {l : List Value} {n : Nat} (h : l.length = n) : (l.drop 0).take n = l := by rw [List.drop_zero, List.take_of_length_le (by omega)]
theorem fit_all {l : List Value} {n : Nat} (h : l.length = n) : 0 + n ≤ l.length := by omega
theorem words4 (l : List UInt8) : (cells32 (wordsL l)).length = 4 := by rw [cells32_length, wordsL_length]
theorem rounds_next (bx key inp : List UInt8) (r : Nat) (h : r < 9) : roundsL (keysL bx key) bx inp (r + 1) = addL (mixL (shiftL (roundsL (keysL bx key) bx inp r) bx 16) 16) (kch bx key (r + 1)) 16 := by
  show roundL _ _ _ _ = _
  unfold roundL
  rw [if_pos (by omega), keysL_at bx key _ (by omega)]
theorem rounds_last (bx key inp : List UInt8) : blockL (keysL bx key) bx inp = addL (shiftL (roundsL (keysL bx key) bx inp 9) bx 16) (kch bx key 10) 16 := by
  show roundL _ _ _ (9 + 1) = _
  unfold roundL
  rw [if_neg (by decide), keysL_at bx key _ (by decide)]
theorem rounds_zero (bx key inp : List UInt8) : addL inp (kch bx key 0) 16 = roundsL (keysL bx key) bx inp 0 := by
  show _ = addL inp ((keysL bx key).getD 0 []) 16
  rw [keysL_at bx key 0 (by decide)]
theorem kch_words' (bx key : List UInt8) (r : Nat) (hr : r < 11) : ((cells32 ((List.range 44).map (Wk bx key))).drop (r * 4)).take 4 = cells32 (wordsL (kch bx key r)) := by
  rw [Nat.mul_comm]; exact kch_words bx key r hr
theorem store_all {cs vs : List Value} (h : cs.length = 4) (_h2 : vs.length = 4) : cs.take 0 ++ vs ++ cs.drop (0 + 4) = vs := by rw [List.drop_of_length_le (by omega)]; simp
set_option maxRecDepth 100000 in
set_option maxHeartbeats 4000000 in
theorem encipher_any (inp : List UInt8) (gq gx : Nat) (t t2 : TypeId) (bx key : List UInt8) (w : World) (hk : Blk w gq t2 (cells32 ((List.range 44).map (Wk bx key)))) (hb : Blk w gx t (cells8 bx)) (hl : bx.length = 256) :
    Calls Try.prog 32 #[.agg (cells32 (wordsL inp)).toArray, .pointer (some ⟨gq, 0, none⟩), .pointer (some ⟨gx, 0, none⟩)] w fun e w' => e = .returned (.agg (cells32 (wordsL (blockL (keysL bx key) bx inp))).toArray) ∧ Below w.heap.size w w' := by
  have HX : Kp _ := ⟨hb⟩
  have HK : Kp _ := ⟨hk⟩
  have HLx : Kp (bx.length = 256) := ⟨hl⟩
  have HLk : Kp _ := ⟨keys44 bx key⟩
  have hgx := hb.lt
  have hgq := hk.lt
  clear hb hl hk
  go_enter Try.func32, Try.ntmps32
  go_wp2_with (with_reducible refine wpList_box (o := ⟨some 3, _, _, _, _, _⟩) rfl (.tmp 0) rfl rfl ?_)
  intro w1 hk1 hb1 hs1
  have HK1 : Kp _ := ⟨hk1⟩
  clear hk1 hs1
  go_wp2_with (with_reducible refine wpList_alloc (o := ⟨some 6, _, _, _, _, _⟩) tyState rfl rfl ?_)
  intro w2 hk2 hb2 hs2
  have HR : Kp _ := ⟨hk2⟩
  have HS : Kp _ := ⟨HK1.out.below hb2 HK1.out.lt⟩
  have hB : Below w.heap.size w w2 := hb1.trans (hb2.mono hb1.size)
  have n1 : w.heap.size < w1.heap.size := HK1.out.lt
  replace HK : Kp _ := ⟨HK.out.below hB hgq⟩
  replace HX : Kp _ := ⟨HX.out.below hB hgx⟩
  have HLi : Kp _ := ⟨words4 inp⟩
  have HP0 : Kp _ := ⟨kch_words' bx key 0 (by decide)⟩
  have HF0 : Kp (0 + 4 ≤ (cells32 ((List.range 44).map (Wk bx key))).length) := ⟨by rw [HLk.out]; decide⟩
  obtain ⟨g1, hg1⟩ : ∃ g, g = w1.heap.size := ⟨_, rfl⟩
  rw [← hg1] at HR n1 ⊢
  clear hk2 hs2 hb1 hb2 HK1 hg1
  go_wp2_with fail
  refine wp_region_still_tail 5 (by kernel_rfl) (by kernel_rfl) ?_
  simp only [List.take_succ_cons, List.take_zero, List.drop_succ_cons, List.drop_zero]
  refine wpStill_load (o := ⟨some 8, _, _, _, _, _⟩) rwState rfl (.tmp 3) rfl rfl HS.out.drew (fit_all HLi.out) (take_all HLi.out) ?_
  repeat still_step
  refine wpStill_load (o := ⟨some 12, _, _, _, _, _⟩) rwState rfl (.tmp 11) rfl rfl HK.out.drew HF0.out HP0.out ?_
  try refine wpStill_nil ?_
  change wpList _ _ _ _ _ w2.drew
  replace HR : Kp _ := ⟨HR.out.drew⟩
  replace HS : Kp _ := ⟨HS.out.drew⟩
  replace HK : Kp _ := ⟨HK.out.drew⟩
  replace HX : Kp _ := ⟨HX.out.drew⟩
  replace hB := hB.drew
  generalize w2.drew = wS at *
  go_wp2_with fail
  refine (add_any inp (kch bx key 0) wS).mono ?_
  rintro e w3 ⟨rfl, hb'⟩
  replace HR : Kp _ := ⟨HR.out.below hb' HR.out.lt⟩
  replace HS : Kp _ := ⟨HS.out.below hb' HS.out.lt⟩
  replace HK : Kp _ := ⟨HK.out.below hb' HK.out.lt⟩
  replace HX : Kp _ := ⟨HX.out.below hb' HX.out.lt⟩
  replace hB := hB.trans (hb'.mono hB.size)
  rw [rounds_zero]
  have HL0 : Kp _ := ⟨words4 (roundsL (keysL bx key) bx inp 0)⟩
  clear hb' HP0 HF0
  go_wp2_with (refine wpList_storeAll (o := ⟨none, _, _, _, _, _⟩) (vs := cells32 (wordsL (roundsL (keysL bx key) bx inp 0))) rwState rfl (.tmp 3) (.tmp 13) rfl rfl HS.out HLi.out HL0.out (cells32_one _) rfl ?_)
  intro w4 hk ho
  have HSn : Kp _ := ⟨hk⟩
  replace HR : Kp _ := ⟨HR.out.only ho (by omega)⟩
  replace HK : Kp _ := ⟨HK.out.only ho (by omega)⟩
  replace HX : Kp _ := ⟨HX.out.only ho (by omega)⟩
  replace hB := hB.trans (ho.below (Nat.le_refl _))
  clear hk ho HS HLi HL0
  go_wp2
  go_loopg [14] 9 (fun gk' vi wr => ∃ i : Nat, i + gk' = 9 ∧ vi = .int .i64 i ∧ Kp (Blk wr w.heap.size 61 (cells32 (wordsL (roundsL (keysL bx key) bx inp i)))) ∧ Kp (Blk wr g1 61 zero4) ∧ Kp (Blk wr gq t2 (cells32 ((List.range 44).map (Wk bx key)))) ∧ Kp (Blk wr gx t (cells8 bx)) ∧ Below w.heap.size w wr)
  case atStart => exact ⟨0, by omega, rfl, HSn, HR, HK, HX, hB⟩
  case round =>
    clear HSn HR HK HX hB
    obtain ⟨i, hi, rfl, HS, HR, HK, HX, hB⟩ := hrel
    cases gk with
    | zero =>
      obtain rfl : i = 9 := by omega
      have HBL : Kp _ := ⟨rounds_last bx key inp⟩
      have HP0 : Kp _ := ⟨kch_words' bx key 10 (by decide)⟩
      have HF0 : Kp (10 * 4 + 4 ≤ (cells32 ((List.range 44).map (Wk bx key))).length) := ⟨by rw [HLk.out]; decide⟩
      generalize roundsL (keysL bx key) bx inp 9 = s at *
      have HLi : Kp _ := ⟨words4 s⟩
      obtain ⟨wa, rfl⟩ : ∃ x, x = wr := ⟨wr, rfl⟩
      go_wp2_with fail
      refine wp_region_any (by kernel_rfl) ?_
      change wpAny _ _ _ _ _ _ _ wa.drew
      replace HR : Kp _ := ⟨HR.out.drew⟩
      replace HS : Kp _ := ⟨HS.out.drew⟩
      replace HK : Kp _ := ⟨HK.out.drew⟩
      replace HX : Kp _ := ⟨HX.out.drew⟩
      replace hB := hB.drew
      generalize wa.drew = wS at *
      refine wpAny_take (i := 1) (oi := ⟨some 30, _, _, _, _, _⟩) (v := ?_) rfl (by kernel_rfl) (by kernel_rfl) (by kernel_rfl) (fun _ _ _ h => h) (Or.inl ⟨by rfl, by intro w; go_simp; try rfl⟩) ?_
      try simp only [Act.put, List.setIfInBounds_toArray, List.set_cons_zero, List.set_cons_succ]
      refine wpAny_take (i := 3) (oi := ⟨some 32, _, _, _, _, _⟩) (v := ?_) rfl (by kernel_rfl) (by kernel_rfl) (by kernel_rfl) (fun _ _ _ h => h) (Or.inl ⟨by rfl, by intro w; go_simp; try rfl⟩) ?_
      try simp only [Act.put, List.setIfInBounds_toArray, List.set_cons_zero, List.set_cons_succ]
      refine wpAny_take (i := 4) (oi := ⟨some 33, _, _, _, _, _⟩) (v := ?_) rfl (by kernel_rfl) (by kernel_rfl) (by kernel_rfl) (fun _ _ _ h => h) (Or.inl ⟨by rfl, by intro w; go_simp; try rfl⟩) ?_
      try simp only [Act.put, List.setIfInBounds_toArray, List.set_cons_zero, List.set_cons_succ]
      refine wpAny_take (i := 5) (oi := ⟨some 34, _, _, _, _, _⟩) (v := ?_) rfl (by kernel_rfl) (by kernel_rfl) (by kernel_rfl) (fun _ _ _ h => h) (Or.inl ⟨by rfl, by intro w; go_simp; try rfl⟩) ?_
      try simp only [Act.put, List.setIfInBounds_toArray, List.set_cons_zero, List.set_cons_succ]
      refine wpAny_ready (rs := [0, 6]) (by kernel_rfl) (by simp) ?_
      refine AllReady.cons (o := ⟨some 29, _, _, _, _, _⟩) rfl (fun K hK => ?_) (AllReady.cons (o := ⟨some 35, _, _, _, _, _⟩) rfl (fun K hK => ?_) AllReady.nil)
      · refine step_load rwState rfl (.tmp 3) rfl rfl HS.out (fit_all HLi.out) (take_all HLi.out) ?_
        refine hK _ _ ?_
        clear hK K
        try simp only [Act.put, List.setIfInBounds_toArray, List.set_cons_zero, List.set_cons_succ]
        refine wpAny_ready (rs := [2, 6]) (by kernel_rfl) (by simp) ?_
        refine AllReady.cons (o := ⟨some 31, _, _, _, _, _⟩) rfl (fun K hK => ?_) (AllReady.cons (o := ⟨some 35, _, _, _, _, _⟩) rfl (fun K hK => ?_) AllReady.nil)
        · go_simp
          refine (shift_any s gx t bx wS HX.out HLx.out).mono ?_
          rintro e w61 ⟨rfl, hb'⟩
          refine hK _ _ ?_
          clear hK K
          try simp only [Act.put, List.setIfInBounds_toArray, List.set_cons_zero, List.set_cons_succ]
          replace HR : Kp _ := ⟨HR.out.below hb' HR.out.lt⟩
          replace HS : Kp _ := ⟨HS.out.below hb' HS.out.lt⟩
          replace HK : Kp _ := ⟨HK.out.below hb' HK.out.lt⟩
          replace HX : Kp _ := ⟨HX.out.below hb' HX.out.lt⟩
          replace hB := hB.trans (hb'.mono hB.size)
          clear hb'
          refine wpAny_ready (rs := [6]) (by kernel_rfl) (by simp) ?_
          refine AllReady.cons (o := ⟨some 35, _, _, _, _, _⟩) rfl (fun K hK => ?_) AllReady.nil
          refine step_load rwState rfl (.tmp 34) rfl rfl HK.out HF0.out HP0.out ?_
          refine hK _ _ ?_
          clear hK K
          try simp only [Act.put, List.setIfInBounds_toArray, List.set_cons_zero, List.set_cons_succ]
          refine wpAny_ready (rs := [7]) (by kernel_rfl) (by simp) ?_
          refine AllReady.cons (o := ⟨some 36, _, _, _, _, _⟩) rfl (fun K hK => ?_) AllReady.nil
          go_simp
          refine (add_any (shiftL s bx 16) (kch bx key 10) w61).mono ?_
          rintro e w62 ⟨rfl, hb'⟩
          refine hK _ _ ?_
          clear hK K
          try simp only [Act.put, List.setIfInBounds_toArray, List.set_cons_zero, List.set_cons_succ]
          replace HR : Kp _ := ⟨HR.out.below hb' HR.out.lt⟩
          replace HS : Kp _ := ⟨HS.out.below hb' HS.out.lt⟩
          replace HK : Kp _ := ⟨HK.out.below hb' HK.out.lt⟩
          replace HX : Kp _ := ⟨HX.out.below hb' HX.out.lt⟩
          replace hB := hB.trans (hb'.mono hB.size)
          clear hb'
          refine wpAny_ready (rs := [8]) (by kernel_rfl) (by simp) ?_
          refine AllReady.cons (o := ⟨none, _, _, _, _, _⟩) rfl (fun K hK => ?_) AllReady.nil
          refine step_store rwState rfl (.tmp 6) (.tmp 36) rfl rfl rfl HR.out (words4 _) (fit_all (l := zero4) rfl) (cells32_one _) ?_
          intro w63 hk ho
          refine hK _ _ ?_
          clear hK K
          simp only [Act.put]
          have HKf : Kp (Blk w63 g1 61 (cells32 (wordsL (addL (shiftL s bx 16) (kch bx key 10) 16)))) := ⟨by have h := hk; rw [store_all rfl (words4 _)] at h; exact h⟩
          replace hB := hB.trans (ho.below (by omega))
          clear hk ho
          refine wpAny_done (by kernel_rfl) ?_ _
          rw [← HBL.out] at HKf
          have HLf : Kp _ := ⟨words4 (blockL (keysL bx key) bx inp)⟩
          obtain ⟨L, hL⟩ : ∃ L, L = wordsL (blockL (keysL bx key) bx inp) := ⟨_, rfl⟩
          have HGL : Kp _ := ⟨hL⟩
          rw [← hL] at HKf HLf
          clear hL
          go_wp2
          exact ret_arr rfl rwState rfl HKf.out HLf.out rfl ⟨by rw [HGL.out], hB⟩
        · refine step_load rwState rfl (.tmp 34) rfl rfl HK.out HF0.out HP0.out ?_
          refine hK _ _ ?_
          clear hK K
          try simp only [Act.put, List.setIfInBounds_toArray, List.set_cons_zero, List.set_cons_succ]
          refine wpAny_ready (rs := [2]) (by kernel_rfl) (by simp) ?_
          refine AllReady.cons (o := ⟨some 31, _, _, _, _, _⟩) rfl (fun K hK => ?_) AllReady.nil
          go_simp
          refine (shift_any s gx t bx wS HX.out HLx.out).mono ?_
          rintro e w64 ⟨rfl, hb'⟩
          refine hK _ _ ?_
          clear hK K
          try simp only [Act.put, List.setIfInBounds_toArray, List.set_cons_zero, List.set_cons_succ]
          replace HR : Kp _ := ⟨HR.out.below hb' HR.out.lt⟩
          replace HS : Kp _ := ⟨HS.out.below hb' HS.out.lt⟩
          replace HK : Kp _ := ⟨HK.out.below hb' HK.out.lt⟩
          replace HX : Kp _ := ⟨HX.out.below hb' HX.out.lt⟩
          replace hB := hB.trans (hb'.mono hB.size)
          clear hb'
          refine wpAny_ready (rs := [7]) (by kernel_rfl) (by simp) ?_
          refine AllReady.cons (o := ⟨some 36, _, _, _, _, _⟩) rfl (fun K hK => ?_) AllReady.nil
          go_simp
          refine (add_any (shiftL s bx 16) (kch bx key 10) w64).mono ?_
          rintro e w65 ⟨rfl, hb'⟩
          refine hK _ _ ?_
          clear hK K
          try simp only [Act.put, List.setIfInBounds_toArray, List.set_cons_zero, List.set_cons_succ]
          replace HR : Kp _ := ⟨HR.out.below hb' HR.out.lt⟩
          replace HS : Kp _ := ⟨HS.out.below hb' HS.out.lt⟩
          replace HK : Kp _ := ⟨HK.out.below hb' HK.out.lt⟩
          replace HX : Kp _ := ⟨HX.out.below hb' HX.out.lt⟩
          replace hB := hB.trans (hb'.mono hB.size)
          clear hb'
          refine wpAny_ready (rs := [8]) (by kernel_rfl) (by simp) ?_
          refine AllReady.cons (o := ⟨none, _, _, _, _, _⟩) rfl (fun K hK => ?_) AllReady.nil
          refine step_store rwState rfl (.tmp 6) (.tmp 36) rfl rfl rfl HR.out (words4 _) (fit_all (l := zero4) rfl) (cells32_one _) ?_
          intro w66 hk ho
          refine hK _ _ ?_
          clear hK K
          simp only [Act.put]
          have HKf : Kp (Blk w66 g1 61 (cells32 (wordsL (addL (shiftL s bx 16) (kch bx key 10) 16)))) := ⟨by have h := hk; rw [store_all rfl (words4 _)] at h; exact h⟩
          replace hB := hB.trans (ho.below (by omega))
          clear hk ho
          refine wpAny_done (by kernel_rfl) ?_ _
          rw [← HBL.out] at HKf
          have HLf : Kp _ := ⟨words4 (blockL (keysL bx key) bx inp)⟩
          obtain ⟨L, hL⟩ : ∃ L, L = wordsL (blockL (keysL bx key) bx inp) := ⟨_, rfl⟩
          have HGL : Kp _ := ⟨hL⟩
          rw [← hL] at HKf HLf
          clear hL
          go_wp2
          exact ret_arr rfl rwState rfl HKf.out HLf.out rfl ⟨by rw [HGL.out], hB⟩
      · refine step_load rwState rfl (.tmp 34) rfl rfl HK.out HF0.out HP0.out ?_
        refine hK _ _ ?_
        clear hK K
        try simp only [Act.put, List.setIfInBounds_toArray, List.set_cons_zero, List.set_cons_succ]
        refine wpAny_ready (rs := [0]) (by kernel_rfl) (by simp) ?_
        refine AllReady.cons (o := ⟨some 29, _, _, _, _, _⟩) rfl (fun K hK => ?_) AllReady.nil
        refine step_load rwState rfl (.tmp 3) rfl rfl HS.out (fit_all HLi.out) (take_all HLi.out) ?_
        refine hK _ _ ?_
        clear hK K
        try simp only [Act.put, List.setIfInBounds_toArray, List.set_cons_zero, List.set_cons_succ]
        refine wpAny_ready (rs := [2]) (by kernel_rfl) (by simp) ?_
        refine AllReady.cons (o := ⟨some 31, _, _, _, _, _⟩) rfl (fun K hK => ?_) AllReady.nil
        go_simp
        refine (shift_any s gx t bx wS HX.out HLx.out).mono ?_
        rintro e w67 ⟨rfl, hb'⟩
        refine hK _ _ ?_
        clear hK K
        try simp only [Act.put, List.setIfInBounds_toArray, List.set_cons_zero, List.set_cons_succ]
        replace HR : Kp _ := ⟨HR.out.below hb' HR.out.lt⟩
        replace HS : Kp _ := ⟨HS.out.below hb' HS.out.lt⟩
        replace HK : Kp _ := ⟨HK.out.below hb' HK.out.lt⟩
        replace HX : Kp _ := ⟨HX.out.below hb' HX.out.lt⟩
        replace hB := hB.trans (hb'.mono hB.size)
        clear hb'
        refine wpAny_ready (rs := [7]) (by kernel_rfl) (by simp) ?_
        refine AllReady.cons (o := ⟨some 36, _, _, _, _, _⟩) rfl (fun K hK => ?_) AllReady.nil
        go_simp
        refine (add_any (shiftL s bx 16) (kch bx key 10) w67).mono ?_
        rintro e w68 ⟨rfl, hb'⟩
        refine hK _ _ ?_
        clear hK K
        try simp only [Act.put, List.setIfInBounds_toArray, List.set_cons_zero, List.set_cons_succ]
        replace HR : Kp _ := ⟨HR.out.below hb' HR.out.lt⟩
        replace HS : Kp _ := ⟨HS.out.below hb' HS.out.lt⟩
        replace HK : Kp _ := ⟨HK.out.below hb' HK.out.lt⟩
        replace HX : Kp _ := ⟨HX.out.below hb' HX.out.lt⟩
        replace hB := hB.trans (hb'.mono hB.size)
        clear hb'
        refine wpAny_ready (rs := [8]) (by kernel_rfl) (by simp) ?_
        refine AllReady.cons (o := ⟨none, _, _, _, _, _⟩) rfl (fun K hK => ?_) AllReady.nil
        refine step_store rwState rfl (.tmp 6) (.tmp 36) rfl rfl rfl HR.out (words4 _) (fit_all (l := zero4) rfl) (cells32_one _) ?_
        intro w69 hk ho
        refine hK _ _ ?_
        clear hK K
        simp only [Act.put]
        have HKf : Kp (Blk w69 g1 61 (cells32 (wordsL (addL (shiftL s bx 16) (kch bx key 10) 16)))) := ⟨by have h := hk; rw [store_all rfl (words4 _)] at h; exact h⟩
        replace hB := hB.trans (ho.below (by omega))
        clear hk ho
        refine wpAny_done (by kernel_rfl) ?_ _
        rw [← HBL.out] at HKf
        have HLf : Kp _ := ⟨words4 (blockL (keysL bx key) bx inp)⟩
        obtain ⟨L, hL⟩ : ∃ L, L = wordsL (blockL (keysL bx key) bx inp) := ⟨_, rfl⟩
        have HGL : Kp _ := ⟨hL⟩
        rw [← hL] at HKf HLf
        clear hL
        go_wp2
        exact ret_arr rfl rwState rfl HKf.out HLf.out rfl ⟨by rw [HGL.out], hB⟩
    | succ g2 =>
      have hiI : (i : Int) < 9 := by omega
      have HBL : Kp _ := ⟨rounds_next bx key inp i (by omega)⟩
      obtain ⟨k, hk⟩ : ∃ k, k = i + 1 := ⟨_, rfl⟩
      have hw1 : IntKind.i64.wrap ((i : Int) + 1) = (k : Int) := by rw [IntKind.wrap_i64]; omega
      have hk11 : (k : Int) < 11 := by omega
      rw [← hk] at HBL
      have HP0 : Kp _ := ⟨kch_words' bx key k (by omega)⟩
      have HF0 : Kp (k * 4 + 4 ≤ (cells32 ((List.range 44).map (Wk bx key))).length) := ⟨by rw [HLk.out]; omega⟩
      have HKI : Kp _ := ⟨hk⟩
      clear hk
      generalize roundsL (keysL bx key) bx inp i = s at *
      have HLi : Kp _ := ⟨words4 s⟩
      obtain ⟨wa, rfl⟩ : ∃ x, x = wr := ⟨wr, rfl⟩
      go_wp2_with fail
      refine wp_region_any (by kernel_rfl) ?_
      change wpAny _ _ _ _ _ _ _ wa.drew
      replace HR : Kp _ := ⟨HR.out.drew⟩
      replace HS : Kp _ := ⟨HS.out.drew⟩
      replace HK : Kp _ := ⟨HK.out.drew⟩
      replace HX : Kp _ := ⟨HX.out.drew⟩
      replace hB := hB.drew
      generalize wa.drew = wS at *
      refine wpAny_take (i := 1) (oi := ⟨some 18, _, _, _, _, _⟩) (v := ?_) rfl (by kernel_rfl) (by kernel_rfl) (by kernel_rfl) (fun _ _ _ h => h) (Or.inl ⟨by rfl, by intro w; go_simp; try rfl⟩) ?_
      try simp only [Act.put, List.setIfInBounds_toArray, List.set_cons_zero, List.set_cons_succ]
      refine wpAny_take (i := 4) (oi := ⟨some 21, _, _, _, _, _⟩) (v := ?_) rfl (by kernel_rfl) (by kernel_rfl) (by kernel_rfl) (fun _ _ _ h => h) (Or.inl ⟨by rfl, by intro w; go_simp; try rfl⟩) ?_
      try simp only [Act.put, List.setIfInBounds_toArray, List.set_cons_zero, List.set_cons_succ]
      refine wpAny_take (i := 5) (oi := ⟨some 22, _, _, _, _, _⟩) (v := ?_) rfl (by kernel_rfl) (by kernel_rfl) (by kernel_rfl) (fun _ _ _ h => h) (Or.inl ⟨by rfl, by intro w; go_simp; try rfl⟩) ?_
      try simp only [Act.put, List.setIfInBounds_toArray, List.set_cons_zero, List.set_cons_succ]
      refine wpAny_take (i := 6) (oi := ⟨some 23, _, _, _, _, _⟩) (v := ?_) rfl (by kernel_rfl) (by kernel_rfl) (by kernel_rfl) (fun _ _ _ h => h) (Or.inl ⟨by rfl, by intro w; go_simp; try rfl⟩) ?_
      try simp only [Act.put, List.setIfInBounds_toArray, List.set_cons_zero, List.set_cons_succ]
      refine wpAny_take (i := 7) (oi := ⟨some 24, _, _, _, _, _⟩) (v := ?_) rfl (by kernel_rfl) (by kernel_rfl) (by kernel_rfl) (fun _ _ _ h => h) (Or.inl ⟨by rfl, by intro w; go_simp; try rfl⟩) ?_
      try simp only [Act.put, List.setIfInBounds_toArray, List.set_cons_zero, List.set_cons_succ]
      refine wpAny_take (i := 8) (oi := ⟨some 25, _, _, _, _, _⟩) (v := ?_) rfl (by kernel_rfl) (by kernel_rfl) (by kernel_rfl) (fun _ _ _ h => h) (Or.inl ⟨by rfl, by intro w; go_simp; try rfl⟩) ?_
      try simp only [Act.put, List.setIfInBounds_toArray, List.set_cons_zero, List.set_cons_succ]
      refine wpAny_ready (rs := [0, 9]) (by kernel_rfl) (by simp) ?_
      refine AllReady.cons (o := ⟨some 17, _, _, _, _, _⟩) rfl (fun K hK => ?_) (AllReady.cons (o := ⟨some 26, _, _, _, _, _⟩) rfl (fun K hK => ?_) AllReady.nil)
      · refine step_load rwState rfl (.tmp 3) rfl rfl HS.out (fit_all HLi.out) (take_all HLi.out) ?_
        refine hK _ _ ?_
        clear hK K
        try simp only [Act.put, List.setIfInBounds_toArray, List.set_cons_zero, List.set_cons_succ]
        refine wpAny_ready (rs := [2, 9]) (by kernel_rfl) (by simp) ?_
        refine AllReady.cons (o := ⟨some 19, _, _, _, _, _⟩) rfl (fun K hK => ?_) (AllReady.cons (o := ⟨some 26, _, _, _, _, _⟩) rfl (fun K hK => ?_) AllReady.nil)
        · go_simp
          refine (shift_any s gx t bx wS HX.out HLx.out).mono ?_
          rintro e w61 ⟨rfl, hb'⟩
          refine hK _ _ ?_
          clear hK K
          try simp only [Act.put, List.setIfInBounds_toArray, List.set_cons_zero, List.set_cons_succ]
          replace HR : Kp _ := ⟨HR.out.below hb' HR.out.lt⟩
          replace HS : Kp _ := ⟨HS.out.below hb' HS.out.lt⟩
          replace HK : Kp _ := ⟨HK.out.below hb' HK.out.lt⟩
          replace HX : Kp _ := ⟨HX.out.below hb' HX.out.lt⟩
          replace hB := hB.trans (hb'.mono hB.size)
          clear hb'
          refine wpAny_ready (rs := [3, 9]) (by kernel_rfl) (by simp) ?_
          refine AllReady.cons (o := ⟨some 20, _, _, _, _, _⟩) rfl (fun K hK => ?_) (AllReady.cons (o := ⟨some 26, _, _, _, _, _⟩) rfl (fun K hK => ?_) AllReady.nil)
          · go_simp
            refine (mix_any (shiftL s bx 16) w61).mono ?_
            rintro e w62 ⟨rfl, hb'⟩
            refine hK _ _ ?_
            clear hK K
            try simp only [Act.put, List.setIfInBounds_toArray, List.set_cons_zero, List.set_cons_succ]
            replace HR : Kp _ := ⟨HR.out.below hb' HR.out.lt⟩
            replace HS : Kp _ := ⟨HS.out.below hb' HS.out.lt⟩
            replace HK : Kp _ := ⟨HK.out.below hb' HK.out.lt⟩
            replace HX : Kp _ := ⟨HX.out.below hb' HX.out.lt⟩
            replace hB := hB.trans (hb'.mono hB.size)
            clear hb'
            refine wpAny_ready (rs := [9]) (by kernel_rfl) (by simp) ?_
            refine AllReady.cons (o := ⟨some 26, _, _, _, _, _⟩) rfl (fun K hK => ?_) AllReady.nil
            refine step_load rwState rfl (.tmp 25) rfl rfl HK.out HF0.out HP0.out ?_
            refine hK _ _ ?_
            clear hK K
            try simp only [Act.put, List.setIfInBounds_toArray, List.set_cons_zero, List.set_cons_succ]
            refine wpAny_ready (rs := [10]) (by kernel_rfl) (by simp) ?_
            refine AllReady.cons (o := ⟨some 27, _, _, _, _, _⟩) rfl (fun K hK => ?_) AllReady.nil
            go_simp
            refine (add_any (mixL (shiftL s bx 16) 16) (kch bx key k) w62).mono ?_
            rintro e w63 ⟨rfl, hb'⟩
            refine hK _ _ ?_
            clear hK K
            try simp only [Act.put, List.setIfInBounds_toArray, List.set_cons_zero, List.set_cons_succ]
            replace HR : Kp _ := ⟨HR.out.below hb' HR.out.lt⟩
            replace HS : Kp _ := ⟨HS.out.below hb' HS.out.lt⟩
            replace HK : Kp _ := ⟨HK.out.below hb' HK.out.lt⟩
            replace HX : Kp _ := ⟨HX.out.below hb' HX.out.lt⟩
            replace hB := hB.trans (hb'.mono hB.size)
            clear hb'
            refine wpAny_ready (rs := [11]) (by kernel_rfl) (by simp) ?_
            refine AllReady.cons (o := ⟨none, _, _, _, _, _⟩) rfl (fun K hK => ?_) AllReady.nil
            refine step_store rwState rfl (.tmp 3) (.tmp 27) rfl rfl rfl HS.out (words4 _) (fit_all HLi.out) (cells32_one _) ?_
            intro w64 hk ho
            refine hK _ _ ?_
            clear hK K
            simp only [Act.put]
            have HSn : Kp (Blk w64 w.heap.size 61 (cells32 (wordsL (addL (mixL (shiftL s bx 16) 16) (kch bx key k) 16)))) := ⟨by have h := hk; rw [store_all (words4 _) (words4 _)] at h; exact h⟩
            replace HR : Kp _ := ⟨HR.out.only ho (by omega)⟩
            replace HK : Kp _ := ⟨HK.out.only ho (by omega)⟩
            replace HX : Kp _ := ⟨HX.out.only ho (by omega)⟩
            replace hB := hB.trans (ho.below (Nat.le_refl _))
            clear hk ho HS
            refine wpAny_done (by kernel_rfl) ?_ _
            rw [← HBL.out, HKI.out] at HSn
            clear hw1 hk11
            go_wp2
            go_roundg g2
            case rel => exact ⟨i + 1, by omega, by go_num, HSn, HR, HK, HX, hB⟩
            case measure => omega
          · refine step_load rwState rfl (.tmp 25) rfl rfl HK.out HF0.out HP0.out ?_
            refine hK _ _ ?_
            clear hK K
            try simp only [Act.put, List.setIfInBounds_toArray, List.set_cons_zero, List.set_cons_succ]
            refine wpAny_ready (rs := [3]) (by kernel_rfl) (by simp) ?_
            refine AllReady.cons (o := ⟨some 20, _, _, _, _, _⟩) rfl (fun K hK => ?_) AllReady.nil
            go_simp
            refine (mix_any (shiftL s bx 16) w61).mono ?_
            rintro e w65 ⟨rfl, hb'⟩
            refine hK _ _ ?_
            clear hK K
            try simp only [Act.put, List.setIfInBounds_toArray, List.set_cons_zero, List.set_cons_succ]
            replace HR : Kp _ := ⟨HR.out.below hb' HR.out.lt⟩
            replace HS : Kp _ := ⟨HS.out.below hb' HS.out.lt⟩
            replace HK : Kp _ := ⟨HK.out.below hb' HK.out.lt⟩
            replace HX : Kp _ := ⟨HX.out.below hb' HX.out.lt⟩
            replace hB := hB.trans (hb'.mono hB.size)
            clear hb'
            refine wpAny_ready (rs := [10]) (by kernel_rfl) (by simp) ?_
            refine AllReady.cons (o := ⟨some 27, _, _, _, _, _⟩) rfl (fun K hK => ?_) AllReady.nil
            go_simp
            refine (add_any (mixL (shiftL s bx 16) 16) (kch bx key k) w65).mono ?_
            rintro e w66 ⟨rfl, hb'⟩
            refine hK _ _ ?_
            clear hK K
            try simp only [Act.put, List.setIfInBounds_toArray, List.set_cons_zero, List.set_cons_succ]
            replace HR : Kp _ := ⟨HR.out.below hb' HR.out.lt⟩
            replace HS : Kp _ := ⟨HS.out.below hb' HS.out.lt⟩
            replace HK : Kp _ := ⟨HK.out.below hb' HK.out.lt⟩
            replace HX : Kp _ := ⟨HX.out.below hb' HX.out.lt⟩
            replace hB := hB.trans (hb'.mono hB.size)
            clear hb'
            refine wpAny_ready (rs := [11]) (by kernel_rfl) (by simp) ?_
            refine AllReady.cons (o := ⟨none, _, _, _, _, _⟩) rfl (fun K hK => ?_) AllReady.nil
            refine step_store rwState rfl (.tmp 3) (.tmp 27) rfl rfl rfl HS.out (words4 _) (fit_all HLi.out) (cells32_one _) ?_
            intro w67 hk ho
            refine hK _ _ ?_
            clear hK K
            simp only [Act.put]
            have HSn : Kp (Blk w67 w.heap.size 61 (cells32 (wordsL (addL (mixL (shiftL s bx 16) 16) (kch bx key k) 16)))) := ⟨by have h := hk; rw [store_all (words4 _) (words4 _)] at h; exact h⟩
            replace HR : Kp _ := ⟨HR.out.only ho (by omega)⟩
            replace HK : Kp _ := ⟨HK.out.only ho (by omega)⟩
            replace HX : Kp _ := ⟨HX.out.only ho (by omega)⟩
            replace hB := hB.trans (ho.below (Nat.le_refl _))
            clear hk ho HS
            refine wpAny_done (by kernel_rfl) ?_ _
            rw [← HBL.out, HKI.out] at HSn
            clear hw1 hk11
            go_wp2
            go_roundg g2
            case rel => exact ⟨i + 1, by omega, by go_num, HSn, HR, HK, HX, hB⟩
            case measure => omega
        · refine step_load rwState rfl (.tmp 25) rfl rfl HK.out HF0.out HP0.out ?_
          refine hK _ _ ?_
          clear hK K
          try simp only [Act.put, List.setIfInBounds_toArray, List.set_cons_zero, List.set_cons_succ]
          refine wpAny_ready (rs := [2]) (by kernel_rfl) (by simp) ?_
          refine AllReady.cons (o := ⟨some 19, _, _, _, _, _⟩) rfl (fun K hK => ?_) AllReady.nil
          go_simp
          refine (shift_any s gx t bx wS HX.out HLx.out).mono ?_
          rintro e w68 ⟨rfl, hb'⟩
          refine hK _ _ ?_
          clear hK K
          try simp only [Act.put, List.setIfInBounds_toArray, List.set_cons_zero, List.set_cons_succ]
          replace HR : Kp _ := ⟨HR.out.below hb' HR.out.lt⟩
          replace HS : Kp _ := ⟨HS.out.below hb' HS.out.lt⟩
          replace HK : Kp _ := ⟨HK.out.below hb' HK.out.lt⟩
          replace HX : Kp _ := ⟨HX.out.below hb' HX.out.lt⟩
          replace hB := hB.trans (hb'.mono hB.size)
          clear hb'
          refine wpAny_ready (rs := [3]) (by kernel_rfl) (by simp) ?_
          refine AllReady.cons (o := ⟨some 20, _, _, _, _, _⟩) rfl (fun K hK => ?_) AllReady.nil
          go_simp
          refine (mix_any (shiftL s bx 16) w68).mono ?_
          rintro e w69 ⟨rfl, hb'⟩
          refine hK _ _ ?_
          clear hK K
          try simp only [Act.put, List.setIfInBounds_toArray, List.set_cons_zero, List.set_cons_succ]
          replace HR : Kp _ := ⟨HR.out.below hb' HR.out.lt⟩
          replace HS : Kp _ := ⟨HS.out.below hb' HS.out.lt⟩
          replace HK : Kp _ := ⟨HK.out.below hb' HK.out.lt⟩
          replace HX : Kp _ := ⟨HX.out.below hb' HX.out.lt⟩
          replace hB := hB.trans (hb'.mono hB.size)
          clear hb'
          refine wpAny_ready (rs := [10]) (by kernel_rfl) (by simp) ?_
          refine AllReady.cons (o := ⟨some 27, _, _, _, _, _⟩) rfl (fun K hK => ?_) AllReady.nil
          go_simp
          refine (add_any (mixL (shiftL s bx 16) 16) (kch bx key k) w69).mono ?_
          rintro e w70 ⟨rfl, hb'⟩
          refine hK _ _ ?_
          clear hK K
          try simp only [Act.put, List.setIfInBounds_toArray, List.set_cons_zero, List.set_cons_succ]
          replace HR : Kp _ := ⟨HR.out.below hb' HR.out.lt⟩
          replace HS : Kp _ := ⟨HS.out.below hb' HS.out.lt⟩
          replace HK : Kp _ := ⟨HK.out.below hb' HK.out.lt⟩
          replace HX : Kp _ := ⟨HX.out.below hb' HX.out.lt⟩
          replace hB := hB.trans (hb'.mono hB.size)
          clear hb'
          refine wpAny_ready (rs := [11]) (by kernel_rfl) (by simp) ?_
          refine AllReady.cons (o := ⟨none, _, _, _, _, _⟩) rfl (fun K hK => ?_) AllReady.nil
          refine step_store rwState rfl (.tmp 3) (.tmp 27) rfl rfl rfl HS.out (words4 _) (fit_all HLi.out) (cells32_one _) ?_
          intro w71 hk ho
          refine hK _ _ ?_
          clear hK K
          simp only [Act.put]
          have HSn : Kp (Blk w71 w.heap.size 61 (cells32 (wordsL (addL (mixL (shiftL s bx 16) 16) (kch bx key k) 16)))) := ⟨by have h := hk; rw [store_all (words4 _) (words4 _)] at h; exact h⟩
          replace HR : Kp _ := ⟨HR.out.only ho (by omega)⟩
          replace HK : Kp _ := ⟨HK.out.only ho (by omega)⟩
          replace HX : Kp _ := ⟨HX.out.only ho (by omega)⟩
          replace hB := hB.trans (ho.below (Nat.le_refl _))
          clear hk ho HS
          refine wpAny_done (by kernel_rfl) ?_ _
          rw [← HBL.out, HKI.out] at HSn
          clear hw1 hk11
          go_wp2
          go_roundg g2
          case rel => exact ⟨i + 1, by omega, by go_num, HSn, HR, HK, HX, hB⟩
          case measure => omega
      · refine step_load rwState rfl (.tmp 25) rfl rfl HK.out HF0.out HP0.out ?_
        refine hK _ _ ?_
        clear hK K
        try simp only [Act.put, List.setIfInBounds_toArray, List.set_cons_zero, List.set_cons_succ]
        refine wpAny_ready (rs := [0]) (by kernel_rfl) (by simp) ?_
        refine AllReady.cons (o := ⟨some 17, _, _, _, _, _⟩) rfl (fun K hK => ?_) AllReady.nil
        refine step_load rwState rfl (.tmp 3) rfl rfl HS.out (fit_all HLi.out) (take_all HLi.out) ?_
        refine hK _ _ ?_
        clear hK K
        try simp only [Act.put, List.setIfInBounds_toArray, List.set_cons_zero, List.set_cons_succ]
        refine wpAny_ready (rs := [2]) (by kernel_rfl) (by simp) ?_
        refine AllReady.cons (o := ⟨some 19, _, _, _, _, _⟩) rfl (fun K hK => ?_) AllReady.nil
        go_simp
        refine (shift_any s gx t bx wS HX.out HLx.out).mono ?_
        rintro e w72 ⟨rfl, hb'⟩
        refine hK _ _ ?_
        clear hK K
        try simp only [Act.put, List.setIfInBounds_toArray, List.set_cons_zero, List.set_cons_succ]
        replace HR : Kp _ := ⟨HR.out.below hb' HR.out.lt⟩
        replace HS : Kp _ := ⟨HS.out.below hb' HS.out.lt⟩
        replace HK : Kp _ := ⟨HK.out.below hb' HK.out.lt⟩
        replace HX : Kp _ := ⟨HX.out.below hb' HX.out.lt⟩
        replace hB := hB.trans (hb'.mono hB.size)
        clear hb'
        refine wpAny_ready (rs := [3]) (by kernel_rfl) (by simp) ?_
        refine AllReady.cons (o := ⟨some 20, _, _, _, _, _⟩) rfl (fun K hK => ?_) AllReady.nil
        go_simp
        refine (mix_any (shiftL s bx 16) w72).mono ?_
        rintro e w73 ⟨rfl, hb'⟩
        refine hK _ _ ?_
        clear hK K
        try simp only [Act.put, List.setIfInBounds_toArray, List.set_cons_zero, List.set_cons_succ]
        replace HR : Kp _ := ⟨HR.out.below hb' HR.out.lt⟩
        replace HS : Kp _ := ⟨HS.out.below hb' HS.out.lt⟩
        replace HK : Kp _ := ⟨HK.out.below hb' HK.out.lt⟩
        replace HX : Kp _ := ⟨HX.out.below hb' HX.out.lt⟩
        replace hB := hB.trans (hb'.mono hB.size)
        clear hb'
        refine wpAny_ready (rs := [10]) (by kernel_rfl) (by simp) ?_
        refine AllReady.cons (o := ⟨some 27, _, _, _, _, _⟩) rfl (fun K hK => ?_) AllReady.nil
        go_simp
        refine (add_any (mixL (shiftL s bx 16) 16) (kch bx key k) w73).mono ?_
        rintro e w74 ⟨rfl, hb'⟩
        refine hK _ _ ?_
        clear hK K
        try simp only [Act.put, List.setIfInBounds_toArray, List.set_cons_zero, List.set_cons_succ]
        replace HR : Kp _ := ⟨HR.out.below hb' HR.out.lt⟩
        replace HS : Kp _ := ⟨HS.out.below hb' HS.out.lt⟩
        replace HK : Kp _ := ⟨HK.out.below hb' HK.out.lt⟩
        replace HX : Kp _ := ⟨HX.out.below hb' HX.out.lt⟩
        replace hB := hB.trans (hb'.mono hB.size)
        clear hb'
        refine wpAny_ready (rs := [11]) (by kernel_rfl) (by simp) ?_
        refine AllReady.cons (o := ⟨none, _, _, _, _, _⟩) rfl (fun K hK => ?_) AllReady.nil
        refine step_store rwState rfl (.tmp 3) (.tmp 27) rfl rfl rfl HS.out (words4 _) (fit_all HLi.out) (cells32_one _) ?_
        intro w75 hk ho
        refine hK _ _ ?_
        clear hK K
        simp only [Act.put]
        have HSn : Kp (Blk w75 w.heap.size 61 (cells32 (wordsL (addL (mixL (shiftL s bx 16) 16) (kch bx key k) 16)))) := ⟨by have h := hk; rw [store_all (words4 _) (words4 _)] at h; exact h⟩
        replace HR : Kp _ := ⟨HR.out.only ho (by omega)⟩
        replace HK : Kp _ := ⟨HK.out.only ho (by omega)⟩
        replace HX : Kp _ := ⟨HX.out.only ho (by omega)⟩
        replace hB := hB.trans (ho.below (Nat.le_refl _))
        clear hk ho HS
        refine wpAny_done (by kernel_rfl) ?_ _
        rw [← HBL.out, HKI.out] at HSn
        clear hw1 hk11
        go_wp2
        go_roundg g2
        case rel => exact ⟨i + 1, by omega, by go_num, HSn, HR, HK, HX, hB⟩
        case measure => omega
end Go.Proofs.Ytleplilcpcgacaa
