/- The law NodeEncodes. -/
import Derived.Test.YtmiobgongddaiaaLw13b
namespace Go.Proofs.Ytmiobgongddaiaa
open Go.RowKit Go.Shelf

section
set_option maxRecDepth 100000
set_option maxHeartbeats 8000000
theorem law_nodeEncodes (zs : List Int) (A : Option Addr) (n c : Nat) (l : List Int) (w : World) (hl : zs.length = 10) (_hz : ∀ z ∈ zs, (Lit.int .i64 z).wf = true) (ha' : Zs w w.heap.size .i64 A n c l ∧ c * 8 ≤ 140737488351232) :
    Calls Try.prog 3 #[.agg (cellsZ zs).toArray, .slice A n c] w fun e w' => e = .returned (.bool true) ∧ Below w.heap.size w w' := by
  have HA0 : Kp _ := ⟨ha'.1⟩
  have hnA := ha'.1.le
  have HL : Kp (zs.length = 10) := ⟨hl⟩
  have HLc : Kp ((cellsZ zs).length = 10) := ⟨by rw [cellsZ_length]; exact hl⟩
  have HSe : Kp ((encA zs == encA zs) = true) := ⟨by simp⟩
  have HSi : Kp ((idxA l == idxA l) = true) := ⟨by simp⟩
  obtain ⟨X, hX⟩ : ∃ X, X = w.heap.size := ⟨_, rfl⟩
  have hb1 : Below w.heap.size w (w.alloc (.cells (cellsZ zs).toArray 24)) := (Below.refl _ _).alloc (Nat.le_refl _) _
  have hk1 : Blk (w.alloc (.cells (cellsZ zs).toArray 24)) w.heap.size 24 (cellsZ zs) := Blk.new w _ _
  rw [← hX] at hk1
  have HX : Kp _ := ⟨hk1⟩
  have HBel : Kp _ := ⟨hb1⟩
  have HA : Kp _ := ⟨HA0.out.next hb1 (Nat.le_refl _)⟩
  have HC1 : Kp _ := ⟨fun W => encode_any zs hl W⟩
  have HC2 : Kp _ := ⟨fun W => refencode_any zs hl W⟩
  have HC3 : Kp (∀ W, Zs W W.heap.size .i64 A n c l → _) := ⟨fun W h => index_any A n c l W h⟩
  have HC4 : Kp (∀ W, Zs W W.heap.size .i64 A n c l → _) := ⟨fun W h => refindex_any A n c l W h⟩
  have HRt : Kp _ := ⟨fun W => right_any zs hl W⟩
  have HRf : Kp _ := ⟨fun W => refright_any zs hl W⟩
  generalize encA zs = eb at *
  generalize encE zs = ez at *
  generalize idxA l = ib at *
  generalize idxE l = iz at *
  generalize okN zs = ok at *
  clear hb1 hk1 HA0 ha' hl HL
  by_cases hbig : 100 < n
  · have i1 : (100 : Int) < (n : Int) := by omega
    go_enter Try.func3, Try.ntmps3
    go_upto_region 1 with fail
    rw [← hX]
    generalize w.alloc (.cells (cellsZ zs).toArray 24) = w1 at *
    clear hX
    go_wp2_with fail
    refine (known13_any _).mono ?_
    rintro e x1 ⟨rfl, hb⟩
    have HBel9 : Kp _ := ⟨HBel.out.trans (hb.mono HBel.out.size)⟩
    clear hb
    go_wp2
    go_ret
    exact ⟨rfl, HBel9.out⟩
  · have i1 : ¬ ((100 : Int) < (n : Int)) := by omega
    clear hbig
    go_enter Try.func3, Try.ntmps3
    go_upto_region 1 with fail
    rw [← hX]
    generalize w.alloc (.cells (cellsZ zs).toArray 24) = w1 at *
    clear hX
    go_wp2_with (refine wpList_loadAll rwNd rfl _ rfl rfl HX.out HLc.out ?_)
    refine (HC1.out w1).mono ?_
    rintro e w2 ⟨A1, n1, c1, rfl, hbs, _, hb⟩
    have HA1 : Kp _ := ⟨hbs⟩
    replace HA : Kp _ := ⟨HA.out.next hb (Nat.le_refl _)⟩
    replace HX : Kp _ := ⟨HX.out.below hb HX.out.lt⟩
    replace HBel : Kp _ := ⟨HBel.out.trans (hb.mono HBel.out.size)⟩
    clear hbs hb HC1
    go_wp2_with (refine wpList_loadAll rwNd rfl _ rfl rfl HX.out HLc.out ?_)
    refine (HC2.out w2).mono ?_
    rintro e w3 ⟨B1, m1, d1, rfl, hbs, hb⟩
    have HB1 : Kp _ := ⟨hbs⟩
    replace HA1 : Kp _ := ⟨HA1.out.next hb (Nat.le_refl _)⟩
    replace HA : Kp _ := ⟨HA.out.next hb (Nat.le_refl _)⟩
    replace HX : Kp _ := ⟨HX.out.below hb HX.out.lt⟩
    replace HBel : Kp _ := ⟨HBel.out.trans (hb.mono HBel.out.size)⟩
    clear hbs hb HC2
    have HCl : Kp _ := ⟨HC3.out w3 HA.out⟩
    go_wp2_with fail
    refine HCl.out.mono ?_
    rintro e w4 ⟨A2, n2, c2, rfl, hbs, _, hb⟩
    have HA2 : Kp _ := ⟨hbs⟩
    replace HA1 : Kp _ := ⟨HA1.out.next hb (Nat.le_refl _)⟩
    replace HB1 : Kp _ := ⟨HB1.out.next hb (Nat.le_refl _)⟩
    replace HA : Kp _ := ⟨HA.out.next hb (Nat.le_refl _)⟩
    replace HX : Kp _ := ⟨HX.out.below hb HX.out.lt⟩
    replace HBel : Kp _ := ⟨HBel.out.trans (hb.mono HBel.out.size)⟩
    clear hbs hb HC3 HCl
    have HCl : Kp _ := ⟨HC4.out w4 HA.out⟩
    go_wp2_with fail
    refine HCl.out.mono ?_
    rintro e w5 ⟨B2, m2, d2, rfl, hbs, hb⟩
    have HB2 : Kp _ := ⟨hbs⟩
    replace HA1 : Kp _ := ⟨HA1.out.next hb (Nat.le_refl _)⟩
    replace HB1 : Kp _ := ⟨HB1.out.next hb (Nat.le_refl _)⟩
    replace HA2 : Kp _ := ⟨HA2.out.next hb (Nat.le_refl _)⟩
    replace HX : Kp _ := ⟨HX.out.below hb HX.out.lt⟩
    replace HBel : Kp _ := ⟨HBel.out.trans (hb.mono HBel.out.size)⟩
    clear hbs hb HC4 HCl HA
    go_wp2_with fail
    refine wp_region_any (by kernel_rfl) ?_
    change wpAny _ _ _ _ _ _ _ w5.drew
    replace HX : Kp _ := ⟨HX.out.drew⟩
    replace HBel : Kp _ := ⟨HBel.out.drew⟩
    replace HA1 : Kp _ := ⟨HA1.out.drew⟩
    replace HB1 : Kp _ := ⟨HB1.out.drew⟩
    replace HA2 : Kp _ := ⟨HA2.out.drew⟩
    replace HB2 : Kp _ := ⟨HB2.out.drew⟩
    generalize w5.drew = wS at *
    refine wpAny_take (i := 0) (oi := ⟨some 37, _, _, _, _, _⟩) (v := ?_) rfl (by kernel_rfl) (by kernel_rfl) (by kernel_rfl) (fun _ _ _ h => h) (Or.inl ⟨by rfl, by intro w; go_simp; try rfl⟩) ?_
    try simp only [Act.put, List.setIfInBounds_toArray, List.set_cons_zero, List.set_cons_succ]
    refine wpAny_take (i := 1) (oi := ⟨some 38, _, _, _, _, _⟩) (v := ?_) rfl (by kernel_rfl) (by kernel_rfl) (by kernel_rfl) (fun _ _ _ h => h) (Or.inl ⟨by rfl, by intro w; go_simp; try rfl⟩) ?_
    try simp only [Act.put, List.setIfInBounds_toArray, List.set_cons_zero, List.set_cons_succ]
    repeat' (first
      | ((with_reducible change ite (Region.wanted ⟨some 39, _, _, _, _, _⟩ _ = true) _ _); have hsm := same_any A1 B1 n1 c1 m1 d1 _ _  wS _ _ HA1.out HB1.out; rw [HSe.out] at hsm; go_simp; refine hsm.mono ?_; rintro e w9 ⟨rfl, hw⟩; subst hw; refine hK _ _ ?_; clear hK K; (try simp only [Act.put, List.setIfInBounds_toArray, List.set_cons_zero, List.set_cons_succ]); clear hsm; refine wpAny_take (i := 3) (oi := ⟨some 40, _, _, _, _, _⟩) (v := ?_) rfl (by kernel_rfl) (by kernel_rfl) (by kernel_rfl) (fun _ _ _ h => h) (Or.inl ⟨by rfl, by intro w; go_simp; try rfl⟩) ?_; (try simp only [Act.put, List.setIfInBounds_toArray, List.set_cons_zero, List.set_cons_succ]); refine wpAny_take (i := 4) (oi := ⟨some 41, _, _, _, _, _⟩) (v := ?_) rfl (by kernel_rfl) (by kernel_rfl) (by kernel_rfl) (fun _ _ _ h => h) (Or.inl ⟨by rfl, by intro w; go_simp; try rfl⟩) ?_; (try simp only [Act.put, List.setIfInBounds_toArray, List.set_cons_zero, List.set_cons_succ]); refine wpAny_take (i := 5) (oi := ⟨some 42, _, _, _, _, _⟩) (v := ?_) rfl (by kernel_rfl) (by kernel_rfl) (by kernel_rfl) (fun _ _ _ h => h) (Or.inl ⟨by rfl, by intro w; go_simp; try rfl⟩) ?_; (try simp only [Act.put, List.setIfInBounds_toArray, List.set_cons_zero, List.set_cons_succ]); refine wpAny_take (i := 6) (oi := ⟨some 43, _, _, _, _, _⟩) (v := ?_) rfl (by kernel_rfl) (by kernel_rfl) (by kernel_rfl) (fun _ _ _ h => h) (Or.inl ⟨by rfl, by intro w; go_simp; try rfl⟩) ?_; (try simp only [Act.put, List.setIfInBounds_toArray, List.set_cons_zero, List.set_cons_succ]); refine wpAny_take (i := 7) (oi := ⟨some 44, _, _, _, _, _⟩) (v := ?_) rfl (by kernel_rfl) (by kernel_rfl) (by kernel_rfl) (fun _ _ _ h => h) (Or.inl ⟨by rfl, by intro w; go_simp; try rfl⟩) ?_; (try simp only [Act.put, List.setIfInBounds_toArray, List.set_cons_zero, List.set_cons_succ]); refine wpAny_take (i := 8) (oi := ⟨some 45, _, _, _, _, _⟩) (v := ?_) rfl (by kernel_rfl) (by kernel_rfl) (by kernel_rfl) (fun _ _ _ h => h) (Or.inl ⟨by rfl, by intro w; go_simp; try rfl⟩) ?_; (try simp only [Act.put, List.setIfInBounds_toArray, List.set_cons_zero, List.set_cons_succ]); refine wpAny_take (i := 9) (oi := ⟨some 46, _, _, _, _, _⟩) (v := ?_) rfl (by kernel_rfl) (by kernel_rfl) (by kernel_rfl) (fun _ _ _ h => h) (Or.inl ⟨by rfl, by intro w; go_simp; try rfl⟩) ?_; (try simp only [Act.put, List.setIfInBounds_toArray, List.set_cons_zero, List.set_cons_succ]); refine wpAny_take (i := 10) (oi := ⟨some 47, _, _, _, _, _⟩) (v := ?_) rfl (by kernel_rfl) (by kernel_rfl) (by kernel_rfl) (fun _ _ _ h => h) (Or.inl ⟨by rfl, by intro w; go_simp; try rfl⟩) ?_; (try simp only [Act.put, List.setIfInBounds_toArray, List.set_cons_zero, List.set_cons_succ]))
      | ((with_reducible change ite (Region.wanted ⟨some 48, _, _, _, _, _⟩ _ = true) _ _); rw [if_pos (show Region.wanted _ _ = true from by rfl)]; have hsm := same_any A2 B2 n2 c2 m2 d2 _ _  wS _ _ HA2.out HB2.out; rw [HSi.out] at hsm; go_simp; refine hsm.mono ?_; rintro e w9 ⟨rfl, hw⟩; subst hw; refine hK _ _ ?_; clear hK K; (try simp only [Act.put, List.setIfInBounds_toArray, List.set_cons_zero, List.set_cons_succ]); clear hsm; refine wpAny_take (i := 12) (oi := ⟨some 49, _, _, _, _, _⟩) (v := ?_) rfl (by kernel_rfl) (by kernel_rfl) (by kernel_rfl) (fun _ _ _ h => h) (Or.inl ⟨by rfl, by intro w; go_simp; try rfl⟩) ?_; (try simp only [Act.put, List.setIfInBounds_toArray, List.set_cons_zero, List.set_cons_succ]); refine wpAny_take (i := 13) (oi := ⟨some 50, _, _, _, _, _⟩) (v := ?_) rfl (by kernel_rfl) (by kernel_rfl) (by kernel_rfl) (fun _ _ _ h => h) (Or.inl ⟨by rfl, by intro w; go_simp; try rfl⟩) ?_; (try simp only [Act.put, List.setIfInBounds_toArray, List.set_cons_zero, List.set_cons_succ]); refine wpAny_take (i := 14) (oi := ⟨some 51, _, _, _, _, _⟩) (v := ?_) rfl (by kernel_rfl) (by kernel_rfl) (by kernel_rfl) (fun _ _ _ h => h) (Or.inl ⟨by rfl, by intro w; go_simp; try rfl⟩) ?_; (try simp only [Act.put, List.setIfInBounds_toArray, List.set_cons_zero, List.set_cons_succ]); refine wpAny_take (i := 15) (oi := ⟨some 52, _, _, _, _, _⟩) (v := ?_) rfl (by kernel_rfl) (by kernel_rfl) (by kernel_rfl) (fun _ _ _ h => h) (Or.inl ⟨by rfl, by intro w; go_simp; try rfl⟩) ?_; (try simp only [Act.put, List.setIfInBounds_toArray, List.set_cons_zero, List.set_cons_succ]); refine wpAny_take (i := 16) (oi := ⟨some 53, _, _, _, _, _⟩) (v := ?_) rfl (by kernel_rfl) (by kernel_rfl) (by kernel_rfl) (fun _ _ _ h => h) (Or.inl ⟨by rfl, by intro w; go_simp; try rfl⟩) ?_; (try simp only [Act.put, List.setIfInBounds_toArray, List.set_cons_zero, List.set_cons_succ]); refine wpAny_take (i := 17) (oi := ⟨some 54, _, _, _, _, _⟩) (v := ?_) rfl (by kernel_rfl) (by kernel_rfl) (by kernel_rfl) (fun _ _ _ h => h) (Or.inl ⟨by rfl, by intro w; go_simp; try rfl⟩) ?_; (try simp only [Act.put, List.setIfInBounds_toArray, List.set_cons_zero, List.set_cons_succ]); refine wpAny_take (i := 18) (oi := ⟨some 55, _, _, _, _, _⟩) (v := ?_) rfl (by kernel_rfl) (by kernel_rfl) (by kernel_rfl) (fun _ _ _ h => h) (Or.inl ⟨by rfl, by intro w; go_simp; try rfl⟩) ?_; (try simp only [Act.put, List.setIfInBounds_toArray, List.set_cons_zero, List.set_cons_succ]))
      | ((with_reducible change ite (Region.wanted ⟨some 56, _, _, _, _, _⟩ _ = true) _ _); refine step_load_g rwNd rfl (.tmp 2) rfl rfl HX.out HLc.out ?_; refine hK _ _ ?_; clear hK K; (try simp only [Act.put, List.setIfInBounds_toArray, List.set_cons_zero, List.set_cons_succ]))
      | ((with_reducible change ite (Region.wanted ⟨some 57, _, _, _, _, _⟩ _ = true) _ _); rw [if_pos (show Region.wanted _ _ = true from by rfl)]; go_simp; refine (HRt.out wS).mono ?_; rintro e wZ ⟨rfl, hb'⟩; refine hK _ _ ?_; clear hK K; (try simp only [Act.put, List.setIfInBounds_toArray, List.set_cons_zero, List.set_cons_succ]); replace HX : Kp _ := ⟨HX.out.below hb' HX.out.lt⟩; replace HBel : Kp _ := ⟨HBel.out.trans (hb'.mono HBel.out.size)⟩; clear hb'; obtain ⟨wS, rfl⟩ : ∃ x, x = wZ := ⟨_, rfl⟩)
      | ((with_reducible change ite (Region.wanted ⟨some 58, _, _, _, _, _⟩ _ = true) _ _); refine step_load_g rwNd rfl (.tmp 2) rfl rfl HX.out HLc.out ?_; refine hK _ _ ?_; clear hK K; (try simp only [Act.put, List.setIfInBounds_toArray, List.set_cons_zero, List.set_cons_succ]))
      | ((with_reducible change ite (Region.wanted ⟨some 59, _, _, _, _, _⟩ _ = true) _ _); rw [if_pos (show Region.wanted _ _ = true from by rfl)]; go_simp; refine (HRf.out wS).mono ?_; rintro e wZ ⟨rfl, hb'⟩; refine hK _ _ ?_; clear hK K; (try simp only [Act.put, List.setIfInBounds_toArray, List.set_cons_zero, List.set_cons_succ]); replace HX : Kp _ := ⟨HX.out.below hb' HX.out.lt⟩; replace HBel : Kp _ := ⟨HBel.out.trans (hb'.mono HBel.out.size)⟩; clear hb'; obtain ⟨wS, rfl⟩ : ∃ x, x = wZ := ⟨_, rfl⟩; refine wpAny_take (i := 23) (oi := ⟨some 60, _, _, _, _, _⟩) (v := ?_) rfl (by kernel_rfl) (by kernel_rfl) (by kernel_rfl) (fun _ _ _ h => h) (Or.inl ⟨by rfl, by intro w; go_simp; try rfl⟩) ?_; (try simp only [Act.put, List.setIfInBounds_toArray, List.set_cons_zero, List.set_cons_succ]); refine wpAny_take (i := 24) (oi := ⟨some 61, _, _, _, _, _⟩) (v := ?_) rfl (by kernel_rfl) (by kernel_rfl) (by kernel_rfl) (fun _ _ _ h => h) (Or.inl ⟨by rfl, by intro w; go_simp; try rfl⟩) ?_; (try simp only [Act.put, List.setIfInBounds_toArray, List.set_cons_zero, List.set_cons_succ]); refine wpAny_take (i := 25) (oi := ⟨some 62, _, _, _, _, _⟩) (v := ?_) rfl (by kernel_rfl) (by kernel_rfl) (by kernel_rfl) (fun _ _ _ h => h) (Or.inl ⟨by rfl, by intro w; go_simp; try rfl⟩) ?_; (try simp only [Act.put, List.setIfInBounds_toArray, List.set_cons_zero, List.set_cons_succ]))
      | ((with_reducible change ite (Region.wanted ⟨some 63, _, _, _, _, _⟩ _ = true) _ _); rw [if_pos (show Region.wanted _ _ = true from by rfl)]; go_simp; refine (known13_any wS).mono ?_; rintro e wZ ⟨rfl, hb'⟩; refine hK _ _ ?_; clear hK K; (try simp only [Act.put, List.setIfInBounds_toArray, List.set_cons_zero, List.set_cons_succ]); replace HX : Kp _ := ⟨HX.out.below hb' HX.out.lt⟩; replace HBel : Kp _ := ⟨HBel.out.trans (hb'.mono HBel.out.size)⟩; clear hb'; obtain ⟨wS, rfl⟩ : ∃ x, x = wZ := ⟨_, rfl⟩; refine wpAny_take (i := 27) (oi := ⟨some 64, _, _, _, _, _⟩) (v := ?_) rfl (by kernel_rfl) (by kernel_rfl) (by kernel_rfl) (fun _ _ _ h => h) (Or.inl ⟨by rfl, by intro w; go_simp; try rfl⟩) ?_; (try simp only [Act.put, List.setIfInBounds_toArray, List.set_cons_zero, List.set_cons_succ]); refine wpAny_take (i := 28) (oi := ⟨some 4, _, _, _, _, _⟩) (v := ?_) rfl (by kernel_rfl) (by kernel_rfl) (by kernel_rfl) (fun _ _ _ h => h) (Or.inl ⟨by rfl, by intro w; go_simp; try rfl⟩) ?_; (try simp only [Act.put, List.setIfInBounds_toArray, List.set_cons_zero, List.set_cons_succ]))
      | ((with_reducible change wpAny _ _ _ _ _ _ _ _); refine wpAny_ready (rs := [19, 21]) (by decide +kernel) (by simp) ?_; refine AllReady.cons (o := ⟨some 56, _, _, _, _, _⟩) rfl (fun K hK => ?_) (AllReady.cons (o := ⟨some 58, _, _, _, _, _⟩) rfl (fun K hK => ?_) AllReady.nil))
      | ((with_reducible change wpAny _ _ _ _ _ _ _ _); refine wpAny_ready (rs := [20, 21]) (by decide +kernel) (by simp) ?_; refine AllReady.cons (o := ⟨some 57, _, _, _, _, _⟩) rfl (fun K hK => ?_) (AllReady.cons (o := ⟨some 58, _, _, _, _, _⟩) rfl (fun K hK => ?_) AllReady.nil))
      | ((with_reducible change wpAny _ _ _ _ _ _ _ _); refine wpAny_ready (rs := [2]) (by decide +kernel) (by simp) ?_; refine AllReady.cons (o := ⟨some 39, _, _, _, _, _⟩) rfl (fun K hK => ?_) AllReady.nil)
      | ((with_reducible change wpAny _ _ _ _ _ _ _ _); refine wpAny_ready (rs := [11]) (by decide +kernel) (by simp) ?_; refine AllReady.cons (o := ⟨some 48, _, _, _, _, _⟩) rfl (fun K hK => ?_) AllReady.nil)
      | ((with_reducible change wpAny _ _ _ _ _ _ _ _); refine wpAny_ready (rs := [19]) (by decide +kernel) (by simp) ?_; refine AllReady.cons (o := ⟨some 56, _, _, _, _, _⟩) rfl (fun K hK => ?_) AllReady.nil)
      | ((with_reducible change wpAny _ _ _ _ _ _ _ _); refine wpAny_ready (rs := [20]) (by decide +kernel) (by simp) ?_; refine AllReady.cons (o := ⟨some 57, _, _, _, _, _⟩) rfl (fun K hK => ?_) AllReady.nil)
      | ((with_reducible change wpAny _ _ _ _ _ _ _ _); refine wpAny_ready (rs := [21]) (by decide +kernel) (by simp) ?_; refine AllReady.cons (o := ⟨some 58, _, _, _, _, _⟩) rfl (fun K hK => ?_) AllReady.nil)
      | ((with_reducible change wpAny _ _ _ _ _ _ _ _); refine wpAny_ready (rs := [22]) (by decide +kernel) (by simp) ?_; refine AllReady.cons (o := ⟨some 59, _, _, _, _, _⟩) rfl (fun K hK => ?_) AllReady.nil)
      | ((with_reducible change wpAny _ _ _ _ _ _ _ _); refine wpAny_ready (rs := [26]) (by decide +kernel) (by simp) ?_; refine AllReady.cons (o := ⟨some 63, _, _, _, _, _⟩) rfl (fun K hK => ?_) AllReady.nil)
      | ((with_reducible change wpAny _ _ _ _ _ _ _ _); refine wpAny_done (by decide +kernel) ?_ _; go_wp2; go_ret; exact ⟨rfl, HBel.out⟩)
      | fail)
end
end Go.Proofs.Ytmiobgongddaiaa
