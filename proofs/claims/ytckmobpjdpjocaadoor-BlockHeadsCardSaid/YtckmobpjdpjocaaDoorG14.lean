/- BlockHeads' walk. -/
import Derived.Test.YtckmobpjdpjocaaDoorG09
import Derived.Deep.RegionHeld3
import Derived.StillTailTactics
namespace Go.Proofs.YtckmobpjdpjocaaDoor
open Go.RowKit

theorem hideL_at (key : List UInt8) (e s : Nat) (b : List UInt8) (i : Nat) (h : i < 16) : (hideL key e s b)[i]'(by rw [hideL_length]; omega) = (headL e s)[i]'(by rw [headL_length]; exact h) := by
  unfold hideL
  rw [List.getElem_append_left]
set_option maxRecDepth 100000 in
set_option maxHeartbeats 8000000 in
theorem heads_same (key : List UInt8) (a b : Nat) (w : World) (hk : key.length = 16) (ha : a < 18446744073709551616) (hb : b < 4294967296)  :
    Calls Tryd.prog 8 #[.agg (cells8 key).toArray, .int .u64 a, .int .u32 b, .int .u64 a, .int .u32 b] w fun x w' => x = .returned (.bool true) ∧ Below w.heap.size w w' := by
  have HK : Kp _ := ⟨hk⟩
  have HKl : Kp ((cells8 key).length = 16) := ⟨by rw [cells8_length]; exact hk⟩
  have HEs : Kp ((a < 18446744073709551616 ∧ b < 4294967296) ∧ a < 18446744073709551616 ∧ b < 4294967296) := ⟨⟨⟨ha, hb⟩, ha, hb⟩⟩
  have HQ : Kp ((headL a b == headL a b) = true) := ⟨by
    have h := headL_inj ha hb ha hb
    simp⟩
  have HH1 : Kp ((headL a b).length = 16) := ⟨headL_length a b⟩
  have HH2 : Kp ((headL a b).length = 16) := ⟨headL_length a b⟩
  have HHc1 : Kp ((cells8 (headL a b)).length = 16) := ⟨by rw [cells8_length]; exact HH1.out⟩
  have HHc2 : Kp ((cells8 (headL a b)).length = 16) := ⟨by rw [cells8_length]; exact HH2.out⟩
  have HZn : Kp (zero16.length = 16) := ⟨rfl⟩
  have HNe : Kp ((!(headL a b == headL a b)) = false) := ⟨by simp⟩
  have HAt : Kp (∀ i (h : i < 16), (hideL key a b [])[i]'(by rw [hideL_length]; omega) = (headL a b)[i]'(by rw [headL_length]; exact h)) := ⟨hideL_at key a b []⟩
  clear hk ha hb
  go_enter Tryd.func8, Tryd.ntmps8
  go_wp2_with (with_reducible refine wpList_box (o := ⟨some 5, _, _, _, _, _⟩) rfl (.tmp 0) rfl rfl ?_)
  intro w1 hk1 hb1 hs1
  have HK1 : Kp _ := ⟨hk1⟩
  clear hk1 hs1
  go_wp2_with fail
  refine (head_any a b w1 HEs.out.1.1 HEs.out.1.2).mono ?_
  rintro x w2 ⟨rfl, hb2⟩
  replace HK1 : Kp _ := ⟨HK1.out.below hb2 HK1.out.lt⟩
  have hB := hb1.trans (hb2.mono hb1.size)
  obtain ⟨H1, hH1⟩ : ∃ H, H = headL a b := ⟨_, rfl⟩
  have HG1 : Kp _ := ⟨hH1⟩
  rw [← hH1] at HQ HH1 HHc1 HNe ⊢
  clear hb1 hb2 hH1
  go_wp2_with (with_reducible refine wpList_alloc (o := ⟨some 11, _, _, _, _, _⟩) tyNonce rfl rfl ?_)
  intro w3 hk3 hb3 hs3
  have HX3 : Kp _ := ⟨hk3⟩
  have hlt := HK1.out.lt
  replace HK1 : Kp _ := ⟨HK1.out.below hb3 HK1.out.lt⟩
  replace hB := hB.trans (hb3.mono hB.size)
  obtain ⟨g1, hg1⟩ : ∃ g, g = w2.heap.size := ⟨_, rfl⟩
  rw [← hg1] at HX3 hlt ⊢
  clear hk3 hb3 hs3 hg1
  go_wp2_with (with_reducible refine wpList_storeAll (o := ⟨none, _, _, _, _, _⟩) (vs := cells8 H1) rwNonce rfl (.tmp 11) (.tmp 18) rfl rfl HX3.out HZn.out HHc1.out (cells8_one _) rfl ?_)
  intro w4 hk4 ho4
  have HX : Kp _ := ⟨hk4⟩
  replace HK1 : Kp _ := ⟨HK1.out.only ho4 (by omega)⟩
  replace hB := hB.trans (ho4.below (Nat.le_of_lt hlt))
  clear hk4 ho4 HX3
  go_wp2_with fail
  refine (head_any a b w4 HEs.out.2.1 HEs.out.2.2).mono ?_
  rintro x w5 ⟨rfl, hb5⟩
  have hl1 := HX.out.lt
  replace HK1 : Kp _ := ⟨HK1.out.below hb5 HK1.out.lt⟩
  replace HX : Kp _ := ⟨HX.out.below hb5 HX.out.lt⟩
  replace hB := hB.trans (hb5.mono hB.size)
  have hl2 : g1 < w5.heap.size := HX.out.lt
  obtain ⟨H2, hH2⟩ : ∃ H, H = headL a b := ⟨_, rfl⟩
  replace HQ : Kp ((H1 == H2) = true) := ⟨by rw [hH2]; first | exact HQ.out | (rw [← HG1.out]; exact HQ.out)⟩
  rw [← hH2] at HH2 HHc2 ⊢
  clear hb5 hH2 hl1
  go_wp2_with (with_reducible refine wpList_alloc (o := ⟨some 12, _, _, _, _, _⟩) tyNonce rfl rfl ?_)
  intro w6 hk6 hb6 hs6
  have HY6 : Kp _ := ⟨hk6⟩
  have hlt2 := HK1.out.lt
  replace HK1 : Kp _ := ⟨HK1.out.below hb6 HK1.out.lt⟩
  replace HX : Kp _ := ⟨HX.out.below hb6 HX.out.lt⟩
  replace hB := hB.trans (hb6.mono hB.size)
  obtain ⟨g2, hg2⟩ : ∃ g, g = w5.heap.size := ⟨_, rfl⟩
  rw [← hg2] at HY6 hl2 hlt2 ⊢
  clear hk6 hb6 hs6 hg2
  go_wp2_with (with_reducible refine wpList_storeAll (o := ⟨none, _, _, _, _, _⟩) (vs := cells8 H2) rwNonce rfl (.tmp 12) (.tmp 21) rfl rfl HY6.out HZn.out HHc2.out (cells8_one _) rfl ?_)
  intro w7 hk7 ho7
  have HY : Kp _ := ⟨hk7⟩
  replace HK1 : Kp _ := ⟨HK1.out.only ho7 (by omega)⟩
  replace HX : Kp _ := ⟨HX.out.only ho7 (by omega)⟩
  replace hB := hB.trans (ho7.below (Nat.le_of_lt hlt2))
  clear hk7 ho7 HY6
  go_wp2_with (with_reducible refine wpList_loadAll (o := ⟨some 23, _, _, _, _, _⟩) rwKey rfl (.tmp 5) rfl rfl HK1.out HKl.out ?_)
  refine (hide_any key a b none 0 0 [] w7 HK.out HEs.out.1.1 HEs.out.1.2 (by omega) (Bs.zero _ _)).mono ?_
  rintro x w8 ⟨A8, c8, rfl, hx8, hb8⟩
  have HZ : Kp _ := ⟨hx8⟩
  have HS : Kp (SD w8 w8 g1 39 (cells8 H1) g2 39 (cells8 H2)) := ⟨⟨Below.refl _ _, HX.out.below hb8 HX.out.lt, HY.out.below hb8 HY.out.lt, (HX.out.below hb8 HX.out.lt).lt, (HY.out.below hb8 HY.out.lt).lt⟩⟩
  replace hB := hB.trans (hb8.mono hB.size)
  clear hb8 hx8 HK1 HX HY HKl HK hlt hl2 hlt2
  go_wp2_with fail
  refine wp_region_held_drew (S := fun W => SD w8 W g1 39 (cells8 H1) g2 39 (cells8 H2)) (by kernel_rfl) (HS.out.drew) (fun hHeld => ?_)
  generalize w8.drew = wS at *
  refine wpAnyH_take (i := 0) (oi := ⟨some 29, _, _, _, _, _⟩) (v := _) rfl (by kernel_rfl) (by kernel_rfl) (by kernel_rfl) (fun _ _ _ h => h) (yieldsIf_load_mid (by rfl) 39 (.tmp 11) rfl g1 0 rfl (cells8 H1) _ (fun W hW => hW.a.all) rwNonce.ty rwNonce.row (by rw [rwNonce.size, HHc1.out])) (by assumption) ?_
  try simp only [Act.put, List.setIfInBounds_toArray, List.set_cons_zero, List.set_cons_succ]
  refine wpAnyH_take (i := 1) (oi := ⟨some 30, _, _, _, _, _⟩) (v := _) rfl (by kernel_rfl) (by kernel_rfl) (by kernel_rfl) (fun _ _ _ h => h) (yieldsIf_load_mid (by rfl) 39 (.tmp 12) rfl g2 0 rfl (cells8 H2) _ (fun W hW => hW.b.all) rwNonce.ty rwNonce.row (by rw [rwNonce.size, HHc2.out])) (by assumption) ?_
  try simp only [Act.put, List.setIfInBounds_toArray, List.set_cons_zero, List.set_cons_succ]
  refine wpAnyH_take (i := 2) (oi := ⟨some 31, _, _, _, _, _⟩) (v := _) rfl (by kernel_rfl) (by kernel_rfl) (by kernel_rfl) (fun _ _ _ h => h) (yieldsIf_eql (by rfl) eqN7 Tryd.eqGuardType39 (.tmp 29) (.tmp 30) rfl H1 H2 rfl rfl HH1.out HH2.out HQ.out) (by assumption) ?_
  try simp only [Act.put, List.setIfInBounds_toArray, List.set_cons_zero, List.set_cons_succ]
  refine wpAnyH_take (i := 3) (oi := ⟨some 32, _, _, _, _, _⟩) (v := ?_) rfl (by kernel_rfl) (by kernel_rfl) (by kernel_rfl) (fun _ _ _ h => h) (Or.inl ⟨by rfl, by intro w hSw; go_simp; try rfl⟩) (by assumption) ?_
  try simp only [Act.put, List.setIfInBounds_toArray, List.set_cons_zero, List.set_cons_succ]
  refine wpAnyH_take (i := 4) (oi := ⟨some 33, _, _, _, _, _⟩) (v := ?_) rfl (by kernel_rfl) (by kernel_rfl) (by kernel_rfl) (fun _ _ _ h => h) (Or.inl ⟨by rfl, by intro w hSw; go_simp; try rfl⟩) (by assumption) ?_
  try simp only [Act.put, List.setIfInBounds_toArray, List.set_cons_zero, List.set_cons_succ]
  refine wpAnyH_take (i := 5) (oi := ⟨some 34, _, _, _, _, _⟩) (v := ?_) rfl (by kernel_rfl) (by kernel_rfl) (by kernel_rfl) (fun _ _ _ h => h) (Or.inl ⟨by rfl, by intro w hSw; go_simp; try rfl⟩) (by assumption) ?_
  try simp only [Act.put, List.setIfInBounds_toArray, List.set_cons_zero, List.set_cons_succ]
  refine wpAnyH_take (i := 6) (oi := ⟨some 35, _, _, _, _, _⟩) (v := ?_) rfl (by kernel_rfl) (by kernel_rfl) (by kernel_rfl) (fun _ _ _ h => h) (Or.inl ⟨by rfl, by intro w hSw; go_simp; try rfl⟩) (by assumption) ?_
  try simp only [Act.put, List.setIfInBounds_toArray, List.set_cons_zero, List.set_cons_succ]
  refine wpAnyH_take (i := 7) (oi := ⟨some 36, _, _, _, _, _⟩) (v := ?_) rfl (by kernel_rfl) (by kernel_rfl) (by kernel_rfl) (fun _ _ _ h => h) (Or.inl ⟨by rfl, by intro w hSw; go_simp; try rfl⟩) (by assumption) ?_
  try simp only [Act.put, List.setIfInBounds_toArray, List.set_cons_zero, List.set_cons_succ]
  refine wpAnyH_take (i := 8) (oi := ⟨some 37, _, _, _, _, _⟩) (v := ?_) rfl (by kernel_rfl) (by kernel_rfl) (by kernel_rfl) (fun _ _ _ h => h) (Or.inl ⟨by rfl, by intro w hSw; go_simp; try rfl⟩) (by assumption) ?_
  try simp only [Act.put, List.setIfInBounds_toArray, List.set_cons_zero, List.set_cons_succ]
  refine wpAnyH_take (i := 9) (oi := ⟨some 38, _, _, _, _, _⟩) (v := ?_) rfl (by kernel_rfl) (by kernel_rfl) (by kernel_rfl) (fun _ _ _ h => h) (Or.inl ⟨by rfl, by intro w hSw; go_simp; try rfl⟩) (by assumption) ?_
  try simp only [Act.put, List.setIfInBounds_toArray, List.set_cons_zero, List.set_cons_succ]
  refine wpAnyH_take (i := 10) (oi := ⟨some 39, _, _, _, _, _⟩) (v := ?_) rfl (by kernel_rfl) (by kernel_rfl) (by kernel_rfl) (fun _ _ _ h => h) (Or.inl ⟨by rfl, by intro w hSw; go_simp; try rfl⟩) (by assumption) ?_
  try simp only [Act.put, List.setIfInBounds_toArray, List.set_cons_zero, List.set_cons_succ]
  refine wpAnyH_take (i := 11) (oi := ⟨some 40, _, _, _, _, _⟩) (v := ?_) rfl (by kernel_rfl) (by kernel_rfl) (by kernel_rfl) (fun _ _ _ h => h) (Or.inl ⟨by rfl, by intro w hSw; go_simp; try rfl⟩) (by assumption) ?_
  try simp only [Act.put, List.setIfInBounds_toArray, List.set_cons_zero, List.set_cons_succ]
  refine wpAnyH_take (i := 12) (oi := ⟨some 41, _, _, _, _, _⟩) (v := ?_) rfl (by kernel_rfl) (by kernel_rfl) (by kernel_rfl) (fun _ _ _ h => h) (Or.inl ⟨by rfl, by intro w hSw; go_simp; try rfl⟩) (by assumption) ?_
  try simp only [Act.put, List.setIfInBounds_toArray, List.set_cons_zero, List.set_cons_succ]
  refine wpAnyH_take (i := 13) (oi := ⟨some 42, _, _, _, _, _⟩) (v := ?_) rfl (by kernel_rfl) (by kernel_rfl) (by kernel_rfl) (fun _ _ _ h => h) (Or.inl ⟨by rfl, by intro w hSw; go_simp; try rfl⟩) (by assumption) ?_
  try simp only [Act.put, List.setIfInBounds_toArray, List.set_cons_zero, List.set_cons_succ]
  refine wpAnyH_take (i := 14) (oi := ⟨some 43, _, _, _, _, _⟩) (v := ?_) rfl (by kernel_rfl) (by kernel_rfl) (by kernel_rfl) (fun _ _ _ h => h) (Or.inl ⟨by rfl, by intro w hSw; go_simp; try rfl⟩) (by assumption) ?_
  try simp only [Act.put, List.setIfInBounds_toArray, List.set_cons_zero, List.set_cons_succ]
  refine wpAnyH_take (i := 15) (oi := ⟨some 44, _, _, _, _, _⟩) (v := ?_) rfl (by kernel_rfl) (by kernel_rfl) (by kernel_rfl) (fun _ _ _ h => h) (Or.inl ⟨by rfl, by intro w hSw; go_simp; try rfl⟩) (by assumption) ?_
  try simp only [Act.put, List.setIfInBounds_toArray, List.set_cons_zero, List.set_cons_succ]
  refine wpAnyH_take (i := 16) (oi := ⟨some 45, _, _, _, _, _⟩) (v := ?_) rfl (by kernel_rfl) (by kernel_rfl) (by kernel_rfl) (fun _ _ _ h => h) (Or.inl ⟨by rfl, by intro w hSw; go_simp; try rfl⟩) (by assumption) ?_
  try simp only [Act.put, List.setIfInBounds_toArray, List.set_cons_zero, List.set_cons_succ]
  refine wpAnyH_take (i := 17) (oi := ⟨some 46, _, _, _, _, _⟩) (v := ?_) rfl (by kernel_rfl) (by kernel_rfl) (by kernel_rfl) (fun _ _ _ h => h) (Or.inl ⟨by rfl, by intro w hSw; go_simp; try rfl⟩) (by assumption) ?_
  try simp only [Act.put, List.setIfInBounds_toArray, List.set_cons_zero, List.set_cons_succ]
  refine wpAnyH_take (i := 18) (oi := ⟨some 47, _, _, _, _, _⟩) (v := ?_) rfl (by kernel_rfl) (by kernel_rfl) (by kernel_rfl) (fun _ _ _ h => h) (Or.inl ⟨by rfl, by intro w hSw; go_simp; try rfl⟩) (by assumption) ?_
  try simp only [Act.put, List.setIfInBounds_toArray, List.set_cons_zero, List.set_cons_succ]
  refine wpAnyH_take (i := 19) (oi := ⟨some 48, _, _, _, _, _⟩) (v := ?_) rfl (by kernel_rfl) (by kernel_rfl) (by kernel_rfl) (fun _ _ _ h => h) (Or.inl ⟨by rfl, by intro w hSw; go_simp; try rfl⟩) (by assumption) ?_
  try simp only [Act.put, List.setIfInBounds_toArray, List.set_cons_zero, List.set_cons_succ]
  refine wpAnyH_take (i := 20) (oi := ⟨some 49, _, _, _, _, _⟩) (v := ?_) rfl (by kernel_rfl) (by kernel_rfl) (by kernel_rfl) (fun _ _ _ h => h) (Or.inl ⟨by rfl, by intro w hSw; go_simp; try rfl⟩) (by assumption) ?_
  try simp only [Act.put, List.setIfInBounds_toArray, List.set_cons_zero, List.set_cons_succ]
  refine wpAnyH_take (i := 21) (oi := ⟨some 50, _, _, _, _, _⟩) (v := ?_) rfl (by kernel_rfl) (by kernel_rfl) (by kernel_rfl) (fun _ _ _ h => h) (Or.inl ⟨by rfl, by intro w hSw; go_simp; try rfl⟩) (by assumption) ?_
  try simp only [Act.put, List.setIfInBounds_toArray, List.set_cons_zero, List.set_cons_succ]
  refine wpAnyH_take (i := 22) (oi := ⟨some 51, _, _, _, _, _⟩) (v := _) rfl (by kernel_rfl) (by kernel_rfl) (by kernel_rfl) (fun _ _ _ h => h) (yieldsIf_load_mid (by rfl) 39 (.tmp 11) rfl g1 0 rfl (cells8 H1) _ (fun W hW => hW.a.all) rwNonce.ty rwNonce.row (by rw [rwNonce.size, HHc1.out])) (by assumption) ?_
  try simp only [Act.put, List.setIfInBounds_toArray, List.set_cons_zero, List.set_cons_succ]
  refine wpAnyH_take (i := 23) (oi := ⟨some 52, _, _, _, _, _⟩) (v := ?_) rfl (by kernel_rfl) (by kernel_rfl) (by kernel_rfl) (fun _ _ _ h => h) (Or.inl ⟨by rfl, by intro w hSw; go_simp; try rfl⟩) (by assumption) ?_
  try simp only [Act.put, List.setIfInBounds_toArray, List.set_cons_zero, List.set_cons_succ]
  refine wpAnyH_take (i := 24) (oi := ⟨some 53, _, _, _, _, _⟩) (v := ?_) rfl (by kernel_rfl) (by kernel_rfl) (by kernel_rfl) (fun _ _ _ h => h) (Or.inl ⟨by rfl, by intro w hSw; go_simp; try rfl⟩) (by assumption) ?_
  try simp only [Act.put, List.setIfInBounds_toArray, List.set_cons_zero, List.set_cons_succ]
  refine wpAnyH_ready (rs := [25]) (by kernel_rfl) (by simp) ?_
  refine AllReadyH.cons (o := ⟨some 54, _, _, _, _, _⟩) rfl (fun K hK => ?_) AllReadyH.nil
  go_simp
  refine (refhead_any a b wS HEs.out.1.1 HEs.out.1.2).mono ?_
  rintro x w51 ⟨rfl, hb'⟩
  rw [← HG1.out]
  refine hK.out _ _ (hHeld.next hb') (fun hHeld2 => ?_)
  clear hb'
  clear hK K hHeld
  have hHeld := hHeld2
  clear hHeld2
  try simp only [Act.put, List.setIfInBounds_toArray, List.set_cons_zero, List.set_cons_succ]
  refine wpAnyH_take (i := 26) (oi := ⟨some 55, _, _, _, _, _⟩) (v := _) rfl (by kernel_rfl) (by kernel_rfl) (by kernel_rfl) (fun _ _ _ h => h) (yieldsIf_neq (by rfl) eqN7 Tryd.eqGuardType39 (.tmp 51) (.tmp 54) rfl H1 H1 rfl rfl HH1.out HH1.out HNe.out) (by assumption) ?_
  try simp only [Act.put, List.setIfInBounds_toArray, List.set_cons_zero, List.set_cons_succ]
  refine wpAnyH_take (i := 27) (oi := ⟨some 56, _, _, _, _, _⟩) (v := ?_) rfl (by kernel_rfl) (by kernel_rfl) (by kernel_rfl) (fun _ _ _ h => h) (Or.inl ⟨by rfl, by intro w hSw; go_simp; try rfl⟩) (by assumption) ?_
  try simp only [Act.put, List.setIfInBounds_toArray, List.set_cons_zero, List.set_cons_succ]
  refine wpAnyH_done (by kernel_rfl) ?_ _
  have HX : Kp _ := ⟨hHeld.a⟩
  have HZ9 : Kp _ := ⟨HZ.out.next hHeld.below (Nat.le_refl _)⟩
  have hB9 := hB.trans (hHeld.below.mono hB.size)
  clear hHeld HZ HS HQ hB
  generalize w51 = w9 at *
  go_wp2
  go_loopw [15] (fun vi wr => ∃ k : Nat, k ≤ 16 ∧ vi = .int .i64 k ∧ Below w9.heap.size w9 wr) (fun vi _ => 16 - (intOf vi).toNat)
  case atStart => exact ⟨0, by omega, rfl, Below.refl _ _⟩
  case round =>
    obtain ⟨k, hk, rfl, hBk⟩ := hrel
    by_cases hlt : k < 16
    · obtain ⟨bz, oz, rfl, hbz, hcz⟩ := (HZ9.out.below hBk).cell (i := k) (by omega)
      have hcx := (HX.out.below hBk HX.out.lt).cell (i := k) (by rw [HHc1.out]; exact hlt)
      rw [HAt.out k hlt] at hcz
      have ec : (cells8 H1)[k]'(by rw [HHc1.out]; exact hlt) = .int .u8 ((H1[k]'(by rw [HH1.out]; exact hlt)).toNat : Int) := by simp [cells8]
      rw [ec] at hcx
      clear ec
      have eH : (headL a b)[k]'(by rw [headL_length]; exact hlt) = H1[k]'(by rw [HH1.out]; exact hlt) := by simp only [HG1.out]
      rw [eH] at hcz
      clear eH
      generalize H1[k]'(by rw [HH1.out]; exact hlt) = y at *
      have hkI : (k : Int) < 16 := by omega
      have hk2 : (k : Int) < 272 := by omega
      have hcap := HZ9.out.cap
      go_wp2_with fail
      go_still (by kernel_rfl)
      go_wp2
      go_roundw
      case rel => exact ⟨k + 1, by omega, by go_num, hBk.drew⟩
      case measure => simp [intOf]; omega
    · have hB8 := hB9.trans (hBk.mono hB9.size)
      have hkI : (16 : Int) ≤ (k : Int) := by omega
      clear HX HZ9
      go_wp2_with fail
      refine (known_any _).mono ?_
      rintro x wk ⟨rfl, hbk⟩
      have hBf := hB8.trans (hbk.mono hB8.size)
      clear hB8 hbk
      go_wp2
      go_ret
      exact ⟨rfl, hBf⟩
set_option maxRecDepth 100000 in
set_option maxHeartbeats 8000000 in
theorem heads_seq (key : List UInt8) (a b d : Nat) (w : World) (hk : key.length = 16) (ha : a < 18446744073709551616) (hb : b < 4294967296) (hd : d < 4294967296) (h2 : b ≠ d) :
    Calls Tryd.prog 8 #[.agg (cells8 key).toArray, .int .u64 a, .int .u32 b, .int .u64 a, .int .u32 d] w fun x w' => x = .returned (.bool true) ∧ Below w.heap.size w w' := by
  have HK : Kp _ := ⟨hk⟩
  have HKl : Kp ((cells8 key).length = 16) := ⟨by rw [cells8_length]; exact hk⟩
  have HEs : Kp ((a < 18446744073709551616 ∧ b < 4294967296) ∧ a < 18446744073709551616 ∧ d < 4294967296) := ⟨⟨⟨ha, hb⟩, ha, hd⟩⟩
  have HQ : Kp ((headL a b == headL a d) = false) := ⟨by
    have h := headL_inj ha hb ha hd
    simp only [beq_eq_false_iff_ne, ne_eq]; rw [h]; exact fun h3 => h2 h3.2⟩
  have HD : Kp (b ≠ d) := ⟨h2⟩
  clear h2
  have HH1 : Kp ((headL a b).length = 16) := ⟨headL_length a b⟩
  have HH2 : Kp ((headL a d).length = 16) := ⟨headL_length a d⟩
  have HHc1 : Kp ((cells8 (headL a b)).length = 16) := ⟨by rw [cells8_length]; exact HH1.out⟩
  have HHc2 : Kp ((cells8 (headL a d)).length = 16) := ⟨by rw [cells8_length]; exact HH2.out⟩
  have HZn : Kp (zero16.length = 16) := ⟨rfl⟩
  have HNe : Kp ((!(headL a b == headL a b)) = false) := ⟨by simp⟩
  have HAt : Kp (∀ i (h : i < 16), (hideL key a b [])[i]'(by rw [hideL_length]; omega) = (headL a b)[i]'(by rw [headL_length]; exact h)) := ⟨hideL_at key a b []⟩
  clear hk ha hb hd
  go_enter Tryd.func8, Tryd.ntmps8
  go_wp2_with (with_reducible refine wpList_box (o := ⟨some 5, _, _, _, _, _⟩) rfl (.tmp 0) rfl rfl ?_)
  intro w1 hk1 hb1 hs1
  have HK1 : Kp _ := ⟨hk1⟩
  clear hk1 hs1
  go_wp2_with fail
  refine (head_any a b w1 HEs.out.1.1 HEs.out.1.2).mono ?_
  rintro x w2 ⟨rfl, hb2⟩
  replace HK1 : Kp _ := ⟨HK1.out.below hb2 HK1.out.lt⟩
  have hB := hb1.trans (hb2.mono hb1.size)
  obtain ⟨H1, hH1⟩ : ∃ H, H = headL a b := ⟨_, rfl⟩
  have HG1 : Kp _ := ⟨hH1⟩
  rw [← hH1] at HQ HH1 HHc1 HNe ⊢
  clear hb1 hb2 hH1
  go_wp2_with (with_reducible refine wpList_alloc (o := ⟨some 11, _, _, _, _, _⟩) tyNonce rfl rfl ?_)
  intro w3 hk3 hb3 hs3
  have HX3 : Kp _ := ⟨hk3⟩
  have hlt := HK1.out.lt
  replace HK1 : Kp _ := ⟨HK1.out.below hb3 HK1.out.lt⟩
  replace hB := hB.trans (hb3.mono hB.size)
  obtain ⟨g1, hg1⟩ : ∃ g, g = w2.heap.size := ⟨_, rfl⟩
  rw [← hg1] at HX3 hlt ⊢
  clear hk3 hb3 hs3 hg1
  go_wp2_with (with_reducible refine wpList_storeAll (o := ⟨none, _, _, _, _, _⟩) (vs := cells8 H1) rwNonce rfl (.tmp 11) (.tmp 18) rfl rfl HX3.out HZn.out HHc1.out (cells8_one _) rfl ?_)
  intro w4 hk4 ho4
  have HX : Kp _ := ⟨hk4⟩
  replace HK1 : Kp _ := ⟨HK1.out.only ho4 (by omega)⟩
  replace hB := hB.trans (ho4.below (Nat.le_of_lt hlt))
  clear hk4 ho4 HX3
  go_wp2_with fail
  refine (head_any a d w4 HEs.out.2.1 HEs.out.2.2).mono ?_
  rintro x w5 ⟨rfl, hb5⟩
  have hl1 := HX.out.lt
  replace HK1 : Kp _ := ⟨HK1.out.below hb5 HK1.out.lt⟩
  replace HX : Kp _ := ⟨HX.out.below hb5 HX.out.lt⟩
  replace hB := hB.trans (hb5.mono hB.size)
  have hl2 : g1 < w5.heap.size := HX.out.lt
  obtain ⟨H2, hH2⟩ : ∃ H, H = headL a d := ⟨_, rfl⟩
  replace HQ : Kp ((H1 == H2) = false) := ⟨by rw [hH2]; first | exact HQ.out | (rw [← HG1.out]; exact HQ.out)⟩
  rw [← hH2] at HH2 HHc2 ⊢
  clear hb5 hH2 hl1
  go_wp2_with (with_reducible refine wpList_alloc (o := ⟨some 12, _, _, _, _, _⟩) tyNonce rfl rfl ?_)
  intro w6 hk6 hb6 hs6
  have HY6 : Kp _ := ⟨hk6⟩
  have hlt2 := HK1.out.lt
  replace HK1 : Kp _ := ⟨HK1.out.below hb6 HK1.out.lt⟩
  replace HX : Kp _ := ⟨HX.out.below hb6 HX.out.lt⟩
  replace hB := hB.trans (hb6.mono hB.size)
  obtain ⟨g2, hg2⟩ : ∃ g, g = w5.heap.size := ⟨_, rfl⟩
  rw [← hg2] at HY6 hl2 hlt2 ⊢
  clear hk6 hb6 hs6 hg2
  go_wp2_with (with_reducible refine wpList_storeAll (o := ⟨none, _, _, _, _, _⟩) (vs := cells8 H2) rwNonce rfl (.tmp 12) (.tmp 21) rfl rfl HY6.out HZn.out HHc2.out (cells8_one _) rfl ?_)
  intro w7 hk7 ho7
  have HY : Kp _ := ⟨hk7⟩
  replace HK1 : Kp _ := ⟨HK1.out.only ho7 (by omega)⟩
  replace HX : Kp _ := ⟨HX.out.only ho7 (by omega)⟩
  replace hB := hB.trans (ho7.below (Nat.le_of_lt hlt2))
  clear hk7 ho7 HY6
  go_wp2_with (with_reducible refine wpList_loadAll (o := ⟨some 23, _, _, _, _, _⟩) rwKey rfl (.tmp 5) rfl rfl HK1.out HKl.out ?_)
  refine (hide_any key a b none 0 0 [] w7 HK.out HEs.out.1.1 HEs.out.1.2 (by omega) (Bs.zero _ _)).mono ?_
  rintro x w8 ⟨A8, c8, rfl, hx8, hb8⟩
  have HZ : Kp _ := ⟨hx8⟩
  have HS : Kp (SD w8 w8 g1 39 (cells8 H1) g2 39 (cells8 H2)) := ⟨⟨Below.refl _ _, HX.out.below hb8 HX.out.lt, HY.out.below hb8 HY.out.lt, (HX.out.below hb8 HX.out.lt).lt, (HY.out.below hb8 HY.out.lt).lt⟩⟩
  replace hB := hB.trans (hb8.mono hB.size)
  clear hb8 hx8 HK1 HX HY HKl HK hlt hl2 hlt2
  have hbd : ((b : Int) == (d : Int)) = false := by have := HD.out; simp only [beq_eq_false_iff_ne, ne_eq]; omega
  go_wp2_with fail
  refine wp_region_held_drew (S := fun W => SD w8 W g1 39 (cells8 H1) g2 39 (cells8 H2)) (by kernel_rfl) (HS.out.drew) (fun hHeld => ?_)
  generalize w8.drew = wS at *
  refine wpAnyH_take (i := 0) (oi := ⟨some 29, _, _, _, _, _⟩) (v := _) rfl (by kernel_rfl) (by kernel_rfl) (by kernel_rfl) (fun _ _ _ h => h) (yieldsIf_load_mid (by rfl) 39 (.tmp 11) rfl g1 0 rfl (cells8 H1) _ (fun W hW => hW.a.all) rwNonce.ty rwNonce.row (by rw [rwNonce.size, HHc1.out])) (by assumption) ?_
  try simp only [Act.put, List.setIfInBounds_toArray, List.set_cons_zero, List.set_cons_succ]
  refine wpAnyH_take (i := 1) (oi := ⟨some 30, _, _, _, _, _⟩) (v := _) rfl (by kernel_rfl) (by kernel_rfl) (by kernel_rfl) (fun _ _ _ h => h) (yieldsIf_load_mid (by rfl) 39 (.tmp 12) rfl g2 0 rfl (cells8 H2) _ (fun W hW => hW.b.all) rwNonce.ty rwNonce.row (by rw [rwNonce.size, HHc2.out])) (by assumption) ?_
  try simp only [Act.put, List.setIfInBounds_toArray, List.set_cons_zero, List.set_cons_succ]
  refine wpAnyH_take (i := 2) (oi := ⟨some 31, _, _, _, _, _⟩) (v := _) rfl (by kernel_rfl) (by kernel_rfl) (by kernel_rfl) (fun _ _ _ h => h) (yieldsIf_eql (by rfl) eqN7 Tryd.eqGuardType39 (.tmp 29) (.tmp 30) rfl H1 H2 rfl rfl HH1.out HH2.out HQ.out) (by assumption) ?_
  try simp only [Act.put, List.setIfInBounds_toArray, List.set_cons_zero, List.set_cons_succ]
  refine wpAnyH_take (i := 3) (oi := ⟨some 32, _, _, _, _, _⟩) (v := ?_) rfl (by kernel_rfl) (by kernel_rfl) (by kernel_rfl) (fun _ _ _ h => h) (Or.inl ⟨by rfl, by intro w hSw; go_simp; try rfl⟩) (by assumption) ?_
  try simp only [Act.put, List.setIfInBounds_toArray, List.set_cons_zero, List.set_cons_succ]
  refine wpAnyH_take (i := 4) (oi := ⟨some 33, _, _, _, _, _⟩) (v := ?_) rfl (by kernel_rfl) (by kernel_rfl) (by kernel_rfl) (fun _ _ _ h => h) (Or.inl ⟨by rfl, by intro w hSw; go_simp; try rfl⟩) (by assumption) ?_
  try simp only [Act.put, List.setIfInBounds_toArray, List.set_cons_zero, List.set_cons_succ]
  refine wpAnyH_take (i := 5) (oi := ⟨some 34, _, _, _, _, _⟩) (v := ?_) rfl (by kernel_rfl) (by kernel_rfl) (by kernel_rfl) (fun _ _ _ h => h) (Or.inl ⟨by rfl, by intro w hSw; go_simp; try rfl⟩) (by assumption) ?_
  try simp only [Act.put, List.setIfInBounds_toArray, List.set_cons_zero, List.set_cons_succ]
  refine wpAnyH_take (i := 6) (oi := ⟨some 35, _, _, _, _, _⟩) (v := ?_) rfl (by kernel_rfl) (by kernel_rfl) (by kernel_rfl) (fun _ _ _ h => h) (Or.inl ⟨by rfl, by intro w hSw; go_simp; try rfl⟩) (by assumption) ?_
  try simp only [Act.put, List.setIfInBounds_toArray, List.set_cons_zero, List.set_cons_succ]
  refine wpAnyH_take (i := 7) (oi := ⟨some 36, _, _, _, _, _⟩) (v := ?_) rfl (by kernel_rfl) (by kernel_rfl) (by kernel_rfl) (fun _ _ _ h => h) (Or.inl ⟨by rfl, by intro w hSw; go_simp; try rfl⟩) (by assumption) ?_
  try simp only [Act.put, List.setIfInBounds_toArray, List.set_cons_zero, List.set_cons_succ]
  refine wpAnyH_take (i := 8) (oi := ⟨some 37, _, _, _, _, _⟩) (v := ?_) rfl (by kernel_rfl) (by kernel_rfl) (by kernel_rfl) (fun _ _ _ h => h) (Or.inl ⟨by rfl, by intro w hSw; go_simp; try rfl⟩) (by assumption) ?_
  try simp only [Act.put, List.setIfInBounds_toArray, List.set_cons_zero, List.set_cons_succ]
  refine wpAnyH_take (i := 9) (oi := ⟨some 38, _, _, _, _, _⟩) (v := ?_) rfl (by kernel_rfl) (by kernel_rfl) (by kernel_rfl) (fun _ _ _ h => h) (Or.inl ⟨by rfl, by intro w hSw; go_simp; try rfl⟩) (by assumption) ?_
  try simp only [Act.put, List.setIfInBounds_toArray, List.set_cons_zero, List.set_cons_succ]
  refine wpAnyH_take (i := 10) (oi := ⟨some 39, _, _, _, _, _⟩) (v := ?_) rfl (by kernel_rfl) (by kernel_rfl) (by kernel_rfl) (fun _ _ _ h => h) (Or.inl ⟨by rfl, by intro w hSw; go_simp; try rfl⟩) (by assumption) ?_
  try simp only [Act.put, List.setIfInBounds_toArray, List.set_cons_zero, List.set_cons_succ]
  refine wpAnyH_take (i := 11) (oi := ⟨some 40, _, _, _, _, _⟩) (v := ?_) rfl (by kernel_rfl) (by kernel_rfl) (by kernel_rfl) (fun _ _ _ h => h) (Or.inl ⟨by rfl, by intro w hSw; go_simp; try rfl⟩) (by assumption) ?_
  try simp only [Act.put, List.setIfInBounds_toArray, List.set_cons_zero, List.set_cons_succ]
  refine wpAnyH_take (i := 12) (oi := ⟨some 41, _, _, _, _, _⟩) (v := ?_) rfl (by kernel_rfl) (by kernel_rfl) (by kernel_rfl) (fun _ _ _ h => h) (Or.inl ⟨by rfl, by intro w hSw; go_simp; try rfl⟩) (by assumption) ?_
  try simp only [Act.put, List.setIfInBounds_toArray, List.set_cons_zero, List.set_cons_succ]
  refine wpAnyH_take (i := 13) (oi := ⟨some 42, _, _, _, _, _⟩) (v := ?_) rfl (by kernel_rfl) (by kernel_rfl) (by kernel_rfl) (fun _ _ _ h => h) (Or.inl ⟨by rfl, by intro w hSw; go_simp; try rfl⟩) (by assumption) ?_
  try simp only [Act.put, List.setIfInBounds_toArray, List.set_cons_zero, List.set_cons_succ]
  refine wpAnyH_take (i := 14) (oi := ⟨some 43, _, _, _, _, _⟩) (v := ?_) rfl (by kernel_rfl) (by kernel_rfl) (by kernel_rfl) (fun _ _ _ h => h) (Or.inl ⟨by rfl, by intro w hSw; go_simp; try rfl⟩) (by assumption) ?_
  try simp only [Act.put, List.setIfInBounds_toArray, List.set_cons_zero, List.set_cons_succ]
  refine wpAnyH_take (i := 15) (oi := ⟨some 44, _, _, _, _, _⟩) (v := ?_) rfl (by kernel_rfl) (by kernel_rfl) (by kernel_rfl) (fun _ _ _ h => h) (Or.inl ⟨by rfl, by intro w hSw; go_simp; try rfl⟩) (by assumption) ?_
  try simp only [Act.put, List.setIfInBounds_toArray, List.set_cons_zero, List.set_cons_succ]
  refine wpAnyH_take (i := 16) (oi := ⟨some 45, _, _, _, _, _⟩) (v := ?_) rfl (by kernel_rfl) (by kernel_rfl) (by kernel_rfl) (fun _ _ _ h => h) (Or.inl ⟨by rfl, by intro w hSw; go_simp; try rfl⟩) (by assumption) ?_
  try simp only [Act.put, List.setIfInBounds_toArray, List.set_cons_zero, List.set_cons_succ]
  refine wpAnyH_take (i := 17) (oi := ⟨some 46, _, _, _, _, _⟩) (v := ?_) rfl (by kernel_rfl) (by kernel_rfl) (by kernel_rfl) (fun _ _ _ h => h) (Or.inl ⟨by rfl, by intro w hSw; go_simp; try rfl⟩) (by assumption) ?_
  try simp only [Act.put, List.setIfInBounds_toArray, List.set_cons_zero, List.set_cons_succ]
  refine wpAnyH_take (i := 18) (oi := ⟨some 47, _, _, _, _, _⟩) (v := ?_) rfl (by kernel_rfl) (by kernel_rfl) (by kernel_rfl) (fun _ _ _ h => h) (Or.inl ⟨by rfl, by intro w hSw; go_simp; try rfl⟩) (by assumption) ?_
  try simp only [Act.put, List.setIfInBounds_toArray, List.set_cons_zero, List.set_cons_succ]
  refine wpAnyH_take (i := 19) (oi := ⟨some 48, _, _, _, _, _⟩) (v := ?_) rfl (by kernel_rfl) (by kernel_rfl) (by kernel_rfl) (fun _ _ _ h => h) (Or.inl ⟨by rfl, by intro w hSw; go_simp; try rfl⟩) (by assumption) ?_
  try simp only [Act.put, List.setIfInBounds_toArray, List.set_cons_zero, List.set_cons_succ]
  refine wpAnyH_take (i := 20) (oi := ⟨some 49, _, _, _, _, _⟩) (v := ?_) rfl (by kernel_rfl) (by kernel_rfl) (by kernel_rfl) (fun _ _ _ h => h) (Or.inl ⟨by rfl, by intro w hSw; go_simp; try rfl⟩) (by assumption) ?_
  try simp only [Act.put, List.setIfInBounds_toArray, List.set_cons_zero, List.set_cons_succ]
  refine wpAnyH_take (i := 21) (oi := ⟨some 50, _, _, _, _, _⟩) (v := ?_) rfl (by kernel_rfl) (by kernel_rfl) (by kernel_rfl) (fun _ _ _ h => h) (Or.inl ⟨by rfl, by intro w hSw; go_simp; try rfl⟩) (by assumption) ?_
  try simp only [Act.put, List.setIfInBounds_toArray, List.set_cons_zero, List.set_cons_succ]
  refine wpAnyH_take (i := 22) (oi := ⟨some 51, _, _, _, _, _⟩) (v := _) rfl (by kernel_rfl) (by kernel_rfl) (by kernel_rfl) (fun _ _ _ h => h) (yieldsIf_load_mid (by rfl) 39 (.tmp 11) rfl g1 0 rfl (cells8 H1) _ (fun W hW => hW.a.all) rwNonce.ty rwNonce.row (by rw [rwNonce.size, HHc1.out])) (by assumption) ?_
  try simp only [Act.put, List.setIfInBounds_toArray, List.set_cons_zero, List.set_cons_succ]
  refine wpAnyH_take (i := 23) (oi := ⟨some 52, _, _, _, _, _⟩) (v := ?_) rfl (by kernel_rfl) (by kernel_rfl) (by kernel_rfl) (fun _ _ _ h => h) (Or.inl ⟨by rfl, by intro w hSw; go_simp; try rfl⟩) (by assumption) ?_
  try simp only [Act.put, List.setIfInBounds_toArray, List.set_cons_zero, List.set_cons_succ]
  refine wpAnyH_take (i := 24) (oi := ⟨some 53, _, _, _, _, _⟩) (v := ?_) rfl (by kernel_rfl) (by kernel_rfl) (by kernel_rfl) (fun _ _ _ h => h) (Or.inl ⟨by rfl, by intro w hSw; go_simp; try rfl⟩) (by assumption) ?_
  try simp only [Act.put, List.setIfInBounds_toArray, List.set_cons_zero, List.set_cons_succ]
  refine wpAnyH_ready (rs := [25]) (by kernel_rfl) (by simp) ?_
  refine AllReadyH.cons (o := ⟨some 54, _, _, _, _, _⟩) rfl (fun K hK => ?_) AllReadyH.nil
  go_simp
  refine (refhead_any a b wS HEs.out.1.1 HEs.out.1.2).mono ?_
  rintro x w51 ⟨rfl, hb'⟩
  rw [← HG1.out]
  refine hK.out _ _ (hHeld.next hb') (fun hHeld2 => ?_)
  clear hb'
  clear hK K hHeld
  have hHeld := hHeld2
  clear hHeld2
  try simp only [Act.put, List.setIfInBounds_toArray, List.set_cons_zero, List.set_cons_succ]
  refine wpAnyH_take (i := 26) (oi := ⟨some 55, _, _, _, _, _⟩) (v := _) rfl (by kernel_rfl) (by kernel_rfl) (by kernel_rfl) (fun _ _ _ h => h) (yieldsIf_neq (by rfl) eqN7 Tryd.eqGuardType39 (.tmp 51) (.tmp 54) rfl H1 H1 rfl rfl HH1.out HH1.out HNe.out) (by assumption) ?_
  try simp only [Act.put, List.setIfInBounds_toArray, List.set_cons_zero, List.set_cons_succ]
  refine wpAnyH_take (i := 27) (oi := ⟨some 56, _, _, _, _, _⟩) (v := ?_) rfl (by kernel_rfl) (by kernel_rfl) (by kernel_rfl) (fun _ _ _ h => h) (Or.inl ⟨by rfl, by intro w hSw; go_simp; try rfl⟩) (by assumption) ?_
  try simp only [Act.put, List.setIfInBounds_toArray, List.set_cons_zero, List.set_cons_succ]
  refine wpAnyH_done (by kernel_rfl) ?_ _
  have HX : Kp _ := ⟨hHeld.a⟩
  have HZ9 : Kp _ := ⟨HZ.out.next hHeld.below (Nat.le_refl _)⟩
  have hB9 := hB.trans (hHeld.below.mono hB.size)
  clear hHeld HZ HS HQ hB
  generalize w51 = w9 at *
  go_wp2
  go_loopw [15] (fun vi wr => ∃ k : Nat, k ≤ 16 ∧ vi = .int .i64 k ∧ Below w9.heap.size w9 wr) (fun vi _ => 16 - (intOf vi).toNat)
  case atStart => exact ⟨0, by omega, rfl, Below.refl _ _⟩
  case round =>
    obtain ⟨k, hk, rfl, hBk⟩ := hrel
    by_cases hlt : k < 16
    · obtain ⟨bz, oz, rfl, hbz, hcz⟩ := (HZ9.out.below hBk).cell (i := k) (by omega)
      have hcx := (HX.out.below hBk HX.out.lt).cell (i := k) (by rw [HHc1.out]; exact hlt)
      rw [HAt.out k hlt] at hcz
      have ec : (cells8 H1)[k]'(by rw [HHc1.out]; exact hlt) = .int .u8 ((H1[k]'(by rw [HH1.out]; exact hlt)).toNat : Int) := by simp [cells8]
      rw [ec] at hcx
      clear ec
      have eH : (headL a b)[k]'(by rw [headL_length]; exact hlt) = H1[k]'(by rw [HH1.out]; exact hlt) := by simp only [HG1.out]
      rw [eH] at hcz
      clear eH
      generalize H1[k]'(by rw [HH1.out]; exact hlt) = y at *
      have hkI : (k : Int) < 16 := by omega
      have hk2 : (k : Int) < 272 := by omega
      have hcap := HZ9.out.cap
      go_wp2_with fail
      go_still (by kernel_rfl)
      go_wp2
      go_roundw
      case rel => exact ⟨k + 1, by omega, by go_num, hBk.drew⟩
      case measure => simp [intOf]; omega
    · have hB8 := hB9.trans (hBk.mono hB9.size)
      have hkI : (16 : Int) ≤ (k : Int) := by omega
      clear HX HZ9
      go_wp2_with fail
      refine (known_any _).mono ?_
      rintro x wk ⟨rfl, hbk⟩
      have hBf := hB8.trans (hbk.mono hB8.size)
      clear hB8 hbk
      go_wp2
      go_ret
      exact ⟨rfl, hBf⟩
set_option maxRecDepth 100000 in
set_option maxHeartbeats 8000000 in
theorem heads_epoch (key : List UInt8) (a b c d : Nat) (w : World) (hk : key.length = 16) (ha : a < 18446744073709551616) (hb : b < 4294967296) (hc : c < 18446744073709551616) (hd : d < 4294967296) (h1 : a ≠ c) :
    Calls Tryd.prog 8 #[.agg (cells8 key).toArray, .int .u64 a, .int .u32 b, .int .u64 c, .int .u32 d] w fun x w' => x = .returned (.bool true) ∧ Below w.heap.size w w' := by
  have HK : Kp _ := ⟨hk⟩
  have HKl : Kp ((cells8 key).length = 16) := ⟨by rw [cells8_length]; exact hk⟩
  have HEs : Kp ((a < 18446744073709551616 ∧ b < 4294967296) ∧ c < 18446744073709551616 ∧ d < 4294967296) := ⟨⟨⟨ha, hb⟩, hc, hd⟩⟩
  have HQ : Kp ((headL a b == headL c d) = false) := ⟨by
    have h := headL_inj ha hb hc hd
    simp only [beq_eq_false_iff_ne, ne_eq]; rw [h]; exact fun h3 => h1 h3.1⟩
  have HD : Kp (a ≠ c) := ⟨h1⟩
  clear h1
  have HH1 : Kp ((headL a b).length = 16) := ⟨headL_length a b⟩
  have HH2 : Kp ((headL c d).length = 16) := ⟨headL_length c d⟩
  have HHc1 : Kp ((cells8 (headL a b)).length = 16) := ⟨by rw [cells8_length]; exact HH1.out⟩
  have HHc2 : Kp ((cells8 (headL c d)).length = 16) := ⟨by rw [cells8_length]; exact HH2.out⟩
  have HZn : Kp (zero16.length = 16) := ⟨rfl⟩
  have HNe : Kp ((!(headL a b == headL a b)) = false) := ⟨by simp⟩
  have HAt : Kp (∀ i (h : i < 16), (hideL key a b [])[i]'(by rw [hideL_length]; omega) = (headL a b)[i]'(by rw [headL_length]; exact h)) := ⟨hideL_at key a b []⟩
  clear hk ha hb hc hd
  go_enter Tryd.func8, Tryd.ntmps8
  go_wp2_with (with_reducible refine wpList_box (o := ⟨some 5, _, _, _, _, _⟩) rfl (.tmp 0) rfl rfl ?_)
  intro w1 hk1 hb1 hs1
  have HK1 : Kp _ := ⟨hk1⟩
  clear hk1 hs1
  go_wp2_with fail
  refine (head_any a b w1 HEs.out.1.1 HEs.out.1.2).mono ?_
  rintro x w2 ⟨rfl, hb2⟩
  replace HK1 : Kp _ := ⟨HK1.out.below hb2 HK1.out.lt⟩
  have hB := hb1.trans (hb2.mono hb1.size)
  obtain ⟨H1, hH1⟩ : ∃ H, H = headL a b := ⟨_, rfl⟩
  have HG1 : Kp _ := ⟨hH1⟩
  rw [← hH1] at HQ HH1 HHc1 HNe ⊢
  clear hb1 hb2 hH1
  go_wp2_with (with_reducible refine wpList_alloc (o := ⟨some 11, _, _, _, _, _⟩) tyNonce rfl rfl ?_)
  intro w3 hk3 hb3 hs3
  have HX3 : Kp _ := ⟨hk3⟩
  have hlt := HK1.out.lt
  replace HK1 : Kp _ := ⟨HK1.out.below hb3 HK1.out.lt⟩
  replace hB := hB.trans (hb3.mono hB.size)
  obtain ⟨g1, hg1⟩ : ∃ g, g = w2.heap.size := ⟨_, rfl⟩
  rw [← hg1] at HX3 hlt ⊢
  clear hk3 hb3 hs3 hg1
  go_wp2_with (with_reducible refine wpList_storeAll (o := ⟨none, _, _, _, _, _⟩) (vs := cells8 H1) rwNonce rfl (.tmp 11) (.tmp 18) rfl rfl HX3.out HZn.out HHc1.out (cells8_one _) rfl ?_)
  intro w4 hk4 ho4
  have HX : Kp _ := ⟨hk4⟩
  replace HK1 : Kp _ := ⟨HK1.out.only ho4 (by omega)⟩
  replace hB := hB.trans (ho4.below (Nat.le_of_lt hlt))
  clear hk4 ho4 HX3
  go_wp2_with fail
  refine (head_any c d w4 HEs.out.2.1 HEs.out.2.2).mono ?_
  rintro x w5 ⟨rfl, hb5⟩
  have hl1 := HX.out.lt
  replace HK1 : Kp _ := ⟨HK1.out.below hb5 HK1.out.lt⟩
  replace HX : Kp _ := ⟨HX.out.below hb5 HX.out.lt⟩
  replace hB := hB.trans (hb5.mono hB.size)
  have hl2 : g1 < w5.heap.size := HX.out.lt
  obtain ⟨H2, hH2⟩ : ∃ H, H = headL c d := ⟨_, rfl⟩
  replace HQ : Kp ((H1 == H2) = false) := ⟨by rw [hH2]; first | exact HQ.out | (rw [← HG1.out]; exact HQ.out)⟩
  rw [← hH2] at HH2 HHc2 ⊢
  clear hb5 hH2 hl1
  go_wp2_with (with_reducible refine wpList_alloc (o := ⟨some 12, _, _, _, _, _⟩) tyNonce rfl rfl ?_)
  intro w6 hk6 hb6 hs6
  have HY6 : Kp _ := ⟨hk6⟩
  have hlt2 := HK1.out.lt
  replace HK1 : Kp _ := ⟨HK1.out.below hb6 HK1.out.lt⟩
  replace HX : Kp _ := ⟨HX.out.below hb6 HX.out.lt⟩
  replace hB := hB.trans (hb6.mono hB.size)
  obtain ⟨g2, hg2⟩ : ∃ g, g = w5.heap.size := ⟨_, rfl⟩
  rw [← hg2] at HY6 hl2 hlt2 ⊢
  clear hk6 hb6 hs6 hg2
  go_wp2_with (with_reducible refine wpList_storeAll (o := ⟨none, _, _, _, _, _⟩) (vs := cells8 H2) rwNonce rfl (.tmp 12) (.tmp 21) rfl rfl HY6.out HZn.out HHc2.out (cells8_one _) rfl ?_)
  intro w7 hk7 ho7
  have HY : Kp _ := ⟨hk7⟩
  replace HK1 : Kp _ := ⟨HK1.out.only ho7 (by omega)⟩
  replace HX : Kp _ := ⟨HX.out.only ho7 (by omega)⟩
  replace hB := hB.trans (ho7.below (Nat.le_of_lt hlt2))
  clear hk7 ho7 HY6
  go_wp2_with (with_reducible refine wpList_loadAll (o := ⟨some 23, _, _, _, _, _⟩) rwKey rfl (.tmp 5) rfl rfl HK1.out HKl.out ?_)
  refine (hide_any key a b none 0 0 [] w7 HK.out HEs.out.1.1 HEs.out.1.2 (by omega) (Bs.zero _ _)).mono ?_
  rintro x w8 ⟨A8, c8, rfl, hx8, hb8⟩
  have HZ : Kp _ := ⟨hx8⟩
  have HS : Kp (SD w8 w8 g1 39 (cells8 H1) g2 39 (cells8 H2)) := ⟨⟨Below.refl _ _, HX.out.below hb8 HX.out.lt, HY.out.below hb8 HY.out.lt, (HX.out.below hb8 HX.out.lt).lt, (HY.out.below hb8 HY.out.lt).lt⟩⟩
  replace hB := hB.trans (hb8.mono hB.size)
  clear hb8 hx8 HK1 HX HY HKl HK hlt hl2 hlt2
  have hac : ((a : Int) == (c : Int)) = false := by have := HD.out; simp only [beq_eq_false_iff_ne, ne_eq]; omega
  go_wp2_with fail
  refine wp_region_held_drew (S := fun W => SD w8 W g1 39 (cells8 H1) g2 39 (cells8 H2)) (by kernel_rfl) (HS.out.drew) (fun hHeld => ?_)
  generalize w8.drew = wS at *
  refine wpAnyH_take (i := 0) (oi := ⟨some 29, _, _, _, _, _⟩) (v := _) rfl (by kernel_rfl) (by kernel_rfl) (by kernel_rfl) (fun _ _ _ h => h) (yieldsIf_load_mid (by rfl) 39 (.tmp 11) rfl g1 0 rfl (cells8 H1) _ (fun W hW => hW.a.all) rwNonce.ty rwNonce.row (by rw [rwNonce.size, HHc1.out])) (by assumption) ?_
  try simp only [Act.put, List.setIfInBounds_toArray, List.set_cons_zero, List.set_cons_succ]
  refine wpAnyH_take (i := 1) (oi := ⟨some 30, _, _, _, _, _⟩) (v := _) rfl (by kernel_rfl) (by kernel_rfl) (by kernel_rfl) (fun _ _ _ h => h) (yieldsIf_load_mid (by rfl) 39 (.tmp 12) rfl g2 0 rfl (cells8 H2) _ (fun W hW => hW.b.all) rwNonce.ty rwNonce.row (by rw [rwNonce.size, HHc2.out])) (by assumption) ?_
  try simp only [Act.put, List.setIfInBounds_toArray, List.set_cons_zero, List.set_cons_succ]
  refine wpAnyH_take (i := 2) (oi := ⟨some 31, _, _, _, _, _⟩) (v := _) rfl (by kernel_rfl) (by kernel_rfl) (by kernel_rfl) (fun _ _ _ h => h) (yieldsIf_eql (by rfl) eqN7 Tryd.eqGuardType39 (.tmp 29) (.tmp 30) rfl H1 H2 rfl rfl HH1.out HH2.out HQ.out) (by assumption) ?_
  try simp only [Act.put, List.setIfInBounds_toArray, List.set_cons_zero, List.set_cons_succ]
  refine wpAnyH_take (i := 3) (oi := ⟨some 32, _, _, _, _, _⟩) (v := ?_) rfl (by kernel_rfl) (by kernel_rfl) (by kernel_rfl) (fun _ _ _ h => h) (Or.inl ⟨by rfl, by intro w hSw; go_simp; try rfl⟩) (by assumption) ?_
  try simp only [Act.put, List.setIfInBounds_toArray, List.set_cons_zero, List.set_cons_succ]
  refine wpAnyH_take (i := 4) (oi := ⟨some 33, _, _, _, _, _⟩) (v := ?_) rfl (by kernel_rfl) (by kernel_rfl) (by kernel_rfl) (fun _ _ _ h => h) (Or.inl ⟨by rfl, by intro w hSw; go_simp; try rfl⟩) (by assumption) ?_
  try simp only [Act.put, List.setIfInBounds_toArray, List.set_cons_zero, List.set_cons_succ]
  refine wpAnyH_take (i := 5) (oi := ⟨some 34, _, _, _, _, _⟩) (v := ?_) rfl (by kernel_rfl) (by kernel_rfl) (by kernel_rfl) (fun _ _ _ h => h) (Or.inl ⟨by rfl, by intro w hSw; go_simp; try rfl⟩) (by assumption) ?_
  try simp only [Act.put, List.setIfInBounds_toArray, List.set_cons_zero, List.set_cons_succ]
  refine wpAnyH_take (i := 6) (oi := ⟨some 35, _, _, _, _, _⟩) (v := ?_) rfl (by kernel_rfl) (by kernel_rfl) (by kernel_rfl) (fun _ _ _ h => h) (Or.inl ⟨by rfl, by intro w hSw; go_simp; try rfl⟩) (by assumption) ?_
  try simp only [Act.put, List.setIfInBounds_toArray, List.set_cons_zero, List.set_cons_succ]
  refine wpAnyH_take (i := 7) (oi := ⟨some 36, _, _, _, _, _⟩) (v := undef) rfl (by kernel_rfl) (by kernel_rfl) (by kernel_rfl) (fun _ _ _ h => h) (Or.inr ⟨by rfl, rfl⟩) (by assumption) ?_
  try simp only [Act.put, List.setIfInBounds_toArray, List.set_cons_zero, List.set_cons_succ]
  refine wpAnyH_take (i := 8) (oi := ⟨some 37, _, _, _, _, _⟩) (v := undef) rfl (by kernel_rfl) (by kernel_rfl) (by kernel_rfl) (fun _ _ _ h => h) (Or.inr ⟨by rfl, rfl⟩) (by assumption) ?_
  try simp only [Act.put, List.setIfInBounds_toArray, List.set_cons_zero, List.set_cons_succ]
  refine wpAnyH_take (i := 9) (oi := ⟨some 38, _, _, _, _, _⟩) (v := undef) rfl (by kernel_rfl) (by kernel_rfl) (by kernel_rfl) (fun _ _ _ h => h) (Or.inr ⟨by rfl, rfl⟩) (by assumption) ?_
  try simp only [Act.put, List.setIfInBounds_toArray, List.set_cons_zero, List.set_cons_succ]
  refine wpAnyH_take (i := 10) (oi := ⟨some 39, _, _, _, _, _⟩) (v := ?_) rfl (by kernel_rfl) (by kernel_rfl) (by kernel_rfl) (fun _ _ _ h => h) (Or.inl ⟨by rfl, by intro w hSw; go_simp; try rfl⟩) (by assumption) ?_
  try simp only [Act.put, List.setIfInBounds_toArray, List.set_cons_zero, List.set_cons_succ]
  refine wpAnyH_take (i := 11) (oi := ⟨some 40, _, _, _, _, _⟩) (v := ?_) rfl (by kernel_rfl) (by kernel_rfl) (by kernel_rfl) (fun _ _ _ h => h) (Or.inl ⟨by rfl, by intro w hSw; go_simp; try rfl⟩) (by assumption) ?_
  try simp only [Act.put, List.setIfInBounds_toArray, List.set_cons_zero, List.set_cons_succ]
  refine wpAnyH_take (i := 12) (oi := ⟨some 41, _, _, _, _, _⟩) (v := ?_) rfl (by kernel_rfl) (by kernel_rfl) (by kernel_rfl) (fun _ _ _ h => h) (Or.inl ⟨by rfl, by intro w hSw; go_simp; try rfl⟩) (by assumption) ?_
  try simp only [Act.put, List.setIfInBounds_toArray, List.set_cons_zero, List.set_cons_succ]
  refine wpAnyH_take (i := 13) (oi := ⟨some 42, _, _, _, _, _⟩) (v := ?_) rfl (by kernel_rfl) (by kernel_rfl) (by kernel_rfl) (fun _ _ _ h => h) (Or.inl ⟨by rfl, by intro w hSw; go_simp; try rfl⟩) (by assumption) ?_
  try simp only [Act.put, List.setIfInBounds_toArray, List.set_cons_zero, List.set_cons_succ]
  refine wpAnyH_take (i := 14) (oi := ⟨some 43, _, _, _, _, _⟩) (v := ?_) rfl (by kernel_rfl) (by kernel_rfl) (by kernel_rfl) (fun _ _ _ h => h) (Or.inl ⟨by rfl, by intro w hSw; go_simp; try rfl⟩) (by assumption) ?_
  try simp only [Act.put, List.setIfInBounds_toArray, List.set_cons_zero, List.set_cons_succ]
  refine wpAnyH_take (i := 15) (oi := ⟨some 44, _, _, _, _, _⟩) (v := ?_) rfl (by kernel_rfl) (by kernel_rfl) (by kernel_rfl) (fun _ _ _ h => h) (Or.inl ⟨by rfl, by intro w hSw; go_simp; try rfl⟩) (by assumption) ?_
  try simp only [Act.put, List.setIfInBounds_toArray, List.set_cons_zero, List.set_cons_succ]
  refine wpAnyH_take (i := 16) (oi := ⟨some 45, _, _, _, _, _⟩) (v := ?_) rfl (by kernel_rfl) (by kernel_rfl) (by kernel_rfl) (fun _ _ _ h => h) (Or.inl ⟨by rfl, by intro w hSw; go_simp; try rfl⟩) (by assumption) ?_
  try simp only [Act.put, List.setIfInBounds_toArray, List.set_cons_zero, List.set_cons_succ]
  refine wpAnyH_take (i := 17) (oi := ⟨some 46, _, _, _, _, _⟩) (v := ?_) rfl (by kernel_rfl) (by kernel_rfl) (by kernel_rfl) (fun _ _ _ h => h) (Or.inl ⟨by rfl, by intro w hSw; go_simp; try rfl⟩) (by assumption) ?_
  try simp only [Act.put, List.setIfInBounds_toArray, List.set_cons_zero, List.set_cons_succ]
  refine wpAnyH_take (i := 18) (oi := ⟨some 47, _, _, _, _, _⟩) (v := ?_) rfl (by kernel_rfl) (by kernel_rfl) (by kernel_rfl) (fun _ _ _ h => h) (Or.inl ⟨by rfl, by intro w hSw; go_simp; try rfl⟩) (by assumption) ?_
  try simp only [Act.put, List.setIfInBounds_toArray, List.set_cons_zero, List.set_cons_succ]
  refine wpAnyH_take (i := 19) (oi := ⟨some 48, _, _, _, _, _⟩) (v := ?_) rfl (by kernel_rfl) (by kernel_rfl) (by kernel_rfl) (fun _ _ _ h => h) (Or.inl ⟨by rfl, by intro w hSw; go_simp; try rfl⟩) (by assumption) ?_
  try simp only [Act.put, List.setIfInBounds_toArray, List.set_cons_zero, List.set_cons_succ]
  refine wpAnyH_take (i := 20) (oi := ⟨some 49, _, _, _, _, _⟩) (v := ?_) rfl (by kernel_rfl) (by kernel_rfl) (by kernel_rfl) (fun _ _ _ h => h) (Or.inl ⟨by rfl, by intro w hSw; go_simp; try rfl⟩) (by assumption) ?_
  try simp only [Act.put, List.setIfInBounds_toArray, List.set_cons_zero, List.set_cons_succ]
  refine wpAnyH_take (i := 21) (oi := ⟨some 50, _, _, _, _, _⟩) (v := ?_) rfl (by kernel_rfl) (by kernel_rfl) (by kernel_rfl) (fun _ _ _ h => h) (Or.inl ⟨by rfl, by intro w hSw; go_simp; try rfl⟩) (by assumption) ?_
  try simp only [Act.put, List.setIfInBounds_toArray, List.set_cons_zero, List.set_cons_succ]
  refine wpAnyH_take (i := 22) (oi := ⟨some 51, _, _, _, _, _⟩) (v := _) rfl (by kernel_rfl) (by kernel_rfl) (by kernel_rfl) (fun _ _ _ h => h) (yieldsIf_load_mid (by rfl) 39 (.tmp 11) rfl g1 0 rfl (cells8 H1) _ (fun W hW => hW.a.all) rwNonce.ty rwNonce.row (by rw [rwNonce.size, HHc1.out])) (by assumption) ?_
  try simp only [Act.put, List.setIfInBounds_toArray, List.set_cons_zero, List.set_cons_succ]
  refine wpAnyH_take (i := 23) (oi := ⟨some 52, _, _, _, _, _⟩) (v := ?_) rfl (by kernel_rfl) (by kernel_rfl) (by kernel_rfl) (fun _ _ _ h => h) (Or.inl ⟨by rfl, by intro w hSw; go_simp; try rfl⟩) (by assumption) ?_
  try simp only [Act.put, List.setIfInBounds_toArray, List.set_cons_zero, List.set_cons_succ]
  refine wpAnyH_take (i := 24) (oi := ⟨some 53, _, _, _, _, _⟩) (v := ?_) rfl (by kernel_rfl) (by kernel_rfl) (by kernel_rfl) (fun _ _ _ h => h) (Or.inl ⟨by rfl, by intro w hSw; go_simp; try rfl⟩) (by assumption) ?_
  try simp only [Act.put, List.setIfInBounds_toArray, List.set_cons_zero, List.set_cons_succ]
  refine wpAnyH_ready (rs := [25]) (by kernel_rfl) (by simp) ?_
  refine AllReadyH.cons (o := ⟨some 54, _, _, _, _, _⟩) rfl (fun K hK => ?_) AllReadyH.nil
  go_simp
  refine (refhead_any a b wS HEs.out.1.1 HEs.out.1.2).mono ?_
  rintro x w51 ⟨rfl, hb'⟩
  rw [← HG1.out]
  refine hK.out _ _ (hHeld.next hb') (fun hHeld2 => ?_)
  clear hb'
  clear hK K hHeld
  have hHeld := hHeld2
  clear hHeld2
  try simp only [Act.put, List.setIfInBounds_toArray, List.set_cons_zero, List.set_cons_succ]
  refine wpAnyH_take (i := 26) (oi := ⟨some 55, _, _, _, _, _⟩) (v := _) rfl (by kernel_rfl) (by kernel_rfl) (by kernel_rfl) (fun _ _ _ h => h) (yieldsIf_neq (by rfl) eqN7 Tryd.eqGuardType39 (.tmp 51) (.tmp 54) rfl H1 H1 rfl rfl HH1.out HH1.out HNe.out) (by assumption) ?_
  try simp only [Act.put, List.setIfInBounds_toArray, List.set_cons_zero, List.set_cons_succ]
  refine wpAnyH_take (i := 27) (oi := ⟨some 56, _, _, _, _, _⟩) (v := ?_) rfl (by kernel_rfl) (by kernel_rfl) (by kernel_rfl) (fun _ _ _ h => h) (Or.inl ⟨by rfl, by intro w hSw; go_simp; try rfl⟩) (by assumption) ?_
  try simp only [Act.put, List.setIfInBounds_toArray, List.set_cons_zero, List.set_cons_succ]
  refine wpAnyH_done (by kernel_rfl) ?_ _
  have HX : Kp _ := ⟨hHeld.a⟩
  have HZ9 : Kp _ := ⟨HZ.out.next hHeld.below (Nat.le_refl _)⟩
  have hB9 := hB.trans (hHeld.below.mono hB.size)
  clear hHeld HZ HS HQ hB
  generalize w51 = w9 at *
  go_wp2
  go_loopw [15] (fun vi wr => ∃ k : Nat, k ≤ 16 ∧ vi = .int .i64 k ∧ Below w9.heap.size w9 wr) (fun vi _ => 16 - (intOf vi).toNat)
  case atStart => exact ⟨0, by omega, rfl, Below.refl _ _⟩
  case round =>
    obtain ⟨k, hk, rfl, hBk⟩ := hrel
    by_cases hlt : k < 16
    · obtain ⟨bz, oz, rfl, hbz, hcz⟩ := (HZ9.out.below hBk).cell (i := k) (by omega)
      have hcx := (HX.out.below hBk HX.out.lt).cell (i := k) (by rw [HHc1.out]; exact hlt)
      rw [HAt.out k hlt] at hcz
      have ec : (cells8 H1)[k]'(by rw [HHc1.out]; exact hlt) = .int .u8 ((H1[k]'(by rw [HH1.out]; exact hlt)).toNat : Int) := by simp [cells8]
      rw [ec] at hcx
      clear ec
      have eH : (headL a b)[k]'(by rw [headL_length]; exact hlt) = H1[k]'(by rw [HH1.out]; exact hlt) := by simp only [HG1.out]
      rw [eH] at hcz
      clear eH
      generalize H1[k]'(by rw [HH1.out]; exact hlt) = y at *
      have hkI : (k : Int) < 16 := by omega
      have hk2 : (k : Int) < 272 := by omega
      have hcap := HZ9.out.cap
      go_wp2_with fail
      go_still (by kernel_rfl)
      go_wp2
      go_roundw
      case rel => exact ⟨k + 1, by omega, by go_num, hBk.drew⟩
      case measure => simp [intOf]; omega
    · have hB8 := hB9.trans (hBk.mono hB9.size)
      have hkI : (16 : Int) ≤ (k : Int) := by omega
      clear HX HZ9
      go_wp2_with fail
      refine (known_any _).mono ?_
      rintro x wk ⟨rfl, hbk⟩
      have hBf := hB8.trans (hbk.mono hB8.size)
      clear hB8 hbk
      go_wp2
      go_ret
      exact ⟨rfl, hBf⟩
theorem law_blockHeads (key : List UInt8) (a b c d : Int) (w : World) (hk : key.length = 16) (ha : (Lit.int .u64 a).wf = true) (hb : (Lit.int .u32 b).wf = true) (hc : (Lit.int .u64 c).wf = true) (hd : (Lit.int .u32 d).wf = true) (_hE : Ety w) :
    Calls Tryd.prog 8 #[.agg (cells8 key).toArray, .int .u64 a, .int .u32 b, .int .u64 c, .int .u32 d] w fun x w' => x = .returned (.bool true) ∧ Below w.heap.size w w' := by
  have ha2 : 0 ≤ a ∧ a ≤ 18446744073709551615 := by simpa [Lit.wf, IntKind.min, IntKind.max, IntKind.signed, IntKind.bits] using ha
  obtain ⟨aN, rfl⟩ := Int.eq_ofNat_of_zero_le ha2.1
  have hb2 : 0 ≤ b ∧ b ≤ 4294967295 := by simpa [Lit.wf, IntKind.min, IntKind.max, IntKind.signed, IntKind.bits] using hb
  obtain ⟨bN, rfl⟩ := Int.eq_ofNat_of_zero_le hb2.1
  have hc2 : 0 ≤ c ∧ c ≤ 18446744073709551615 := by simpa [Lit.wf, IntKind.min, IntKind.max, IntKind.signed, IntKind.bits] using hc
  obtain ⟨cN, rfl⟩ := Int.eq_ofNat_of_zero_le hc2.1
  have hd2 : 0 ≤ d ∧ d ≤ 4294967295 := by simpa [Lit.wf, IntKind.min, IntKind.max, IntKind.signed, IntKind.bits] using hd
  obtain ⟨dN, rfl⟩ := Int.eq_ofNat_of_zero_le hd2.1
  by_cases h1 : aN = cN
  · subst h1
    by_cases h2 : bN = dN
    · subst h2
      exact heads_same key aN bN w hk (by omega) (by omega)
    · exact heads_seq key aN bN dN w hk (by omega) (by omega) (by omega) h2
  · exact heads_epoch key aN bN cN dN w hk (by omega) (by omega) (by omega) (by omega) h1
end Go.Proofs.YtckmobpjdpjocaaDoor
