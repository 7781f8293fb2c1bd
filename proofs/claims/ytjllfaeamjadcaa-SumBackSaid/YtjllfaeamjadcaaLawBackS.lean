/- The walk of SumBack. -/
import Derived.Test.YtjllfaeamjadcaaSumEq
namespace Go.Proofs.Ytjllfaeamjadcaa
open Go.RowKit

set_option maxRecDepth 100000 in
set_option maxHeartbeats 4000000 in
theorem walk_sumBack_lt (a b c : List UInt8) (w : World) (ha : a.length = 32) (hb : b.length = 32) (hc : c.length = 32) (hp : lessL a b = true) (hq : lessL b a = false) (hr : (a == b) = false) : Calls Try.prog 6 #[.agg (cells8 a).toArray, .agg (cells8 b).toArray, .agg (cells8 c).toArray] w fun e w' => e = .returned (.bool true) ∧ Below w.heap.size w w' := by
  have Hal : Kp _ := ⟨ha⟩
  have Hbl : Kp _ := ⟨hb⟩
  have Hcl : Kp _ := ⟨hc⟩
  have HLa : Kp ((cells8 a).length = 32) := ⟨by rw [cells8_length]; exact ha⟩
  have HLb : Kp ((cells8 b).length = 32) := ⟨by rw [cells8_length]; exact hb⟩
  have HLc : Kp ((cells8 c).length = 32) := ⟨by rw [cells8_length]; exact hc⟩
  obtain ⟨S, hS⟩ : ∃ x, x = addL a b := ⟨_, rfl⟩
  have HSl : Kp (S.length = 32) := ⟨by rw [hS]; exact addL_length _ _⟩
  have HLS : Kp ((cells8 S).length = 32) := ⟨by rw [cells8_length]; exact HSl.out⟩
  obtain ⟨Y, hY⟩ : ∃ x, x = addL b c := ⟨_, rfl⟩
  have HYl : Kp (Y.length = 32) := ⟨by rw [hY]; exact addL_length _ _⟩
  have HLY : Kp ((cells8 Y).length = 32) := ⟨by rw [cells8_length]; exact HYl.out⟩
  obtain ⟨R, hR⟩ : ∃ x, x = addL S c := ⟨_, rfl⟩
  have HRl : Kp (R.length = 32) := ⟨by rw [hR]; exact addL_length _ _⟩
  have HLR : Kp ((cells8 R).length = 32) := ⟨by rw [cells8_length]; exact HRl.out⟩
  obtain ⟨Z, hZ⟩ : ∃ x, x = z32 := ⟨_, rfl⟩
  have HZl : Kp (Z.length = 32) := ⟨by rw [hZ]; exact z32_length⟩
  have HLZ : Kp ((cells8 Z).length = 32) := ⟨by rw [cells8_length]; exact HZl.out⟩
  have HB0 : Kp ((Try.prog).built 23 [] = some (cells8 Z).toArray) := ⟨by rw [hZ]; exact dig_built0⟩
  have HZz : Kp (zero32.length = 32) := ⟨rfl⟩
  have CP : Kp (∀ W, Calls Try.prog 14 #[.agg (cells8 a).toArray, .agg (cells8 b).toArray] W fun e w' => e = .returned (.bool true) ∧ Below W.heap.size W w') := ⟨fun W => by
    have h := less_any a b W Hal.out Hbl.out
    rw [show lessL a b = true by exact hp] at h; exact h⟩
  have CQ : Kp (∀ W, Calls Try.prog 14 #[.agg (cells8 b).toArray, .agg (cells8 a).toArray] W fun e w' => e = .returned (.bool false) ∧ Below W.heap.size W w') := ⟨fun W => by
    have h := less_any b a W Hbl.out Hal.out
    rw [show lessL b a = false by exact hq] at h; exact h⟩
  have C1 : Kp (∀ W, Calls Try.prog 10 #[.agg (cells8 a).toArray, .agg (cells8 b).toArray] W fun e w' => e = .returned (.agg (cells8 S).toArray) ∧ Below W.heap.size W w') := ⟨fun W => by
    have h := sadd_any a b W Hal.out Hbl.out
    rw [show addL a b = S by exact hS.symm] at h; exact h⟩
  have C2 : Kp (∀ W, Calls Try.prog 12 #[.agg (cells8 S).toArray, .agg (cells8 b).toArray] W fun e w' => e = .returned (.agg (cells8 a).toArray) ∧ Below W.heap.size W w') := ⟨fun W => by
    have h := ssub_any S b W HSl.out Hbl.out
    rw [show subL S b = a by rw [hS]; exact sub_add ha hb] at h; exact h⟩
  have C3 : Kp (∀ W, Calls Try.prog 10 #[.agg (cells8 b).toArray, .agg (cells8 a).toArray] W fun e w' => e = .returned (.agg (cells8 S).toArray) ∧ Below W.heap.size W w') := ⟨fun W => by
    have h := sadd_any b a W Hbl.out Hal.out
    rw [show addL b a = S by rw [hS]; exact addL_comm a b] at h; exact h⟩
  have C4 : Kp (∀ W, Calls Try.prog 10 #[.agg (cells8 S).toArray, .agg (cells8 c).toArray] W fun e w' => e = .returned (.agg (cells8 R).toArray) ∧ Below W.heap.size W w') := ⟨fun W => by
    have h := sadd_any S c W HSl.out Hcl.out
    rw [show addL S c = R by exact hR.symm] at h; exact h⟩
  have C5 : Kp (∀ W, Calls Try.prog 10 #[.agg (cells8 b).toArray, .agg (cells8 c).toArray] W fun e w' => e = .returned (.agg (cells8 Y).toArray) ∧ Below W.heap.size W w') := ⟨fun W => by
    have h := sadd_any b c W Hbl.out Hcl.out
    rw [show addL b c = Y by exact hY.symm] at h; exact h⟩
  have C6 : Kp (∀ W, Calls Try.prog 10 #[.agg (cells8 a).toArray, .agg (cells8 Y).toArray] W fun e w' => e = .returned (.agg (cells8 R).toArray) ∧ Below W.heap.size W w') := ⟨fun W => by
    have h := sadd_any a Y W Hal.out HYl.out
    rw [show addL a Y = R by rw [hR, hS, hY]; exact addL_assoc.symm] at h; exact h⟩
  have C7 : Kp (∀ W, Calls Try.prog 12 #[.agg (cells8 a).toArray, .agg (cells8 a).toArray] W fun e w' => e = .returned (.agg (cells8 Z).toArray) ∧ Below W.heap.size W w') := ⟨fun W => by
    have h := ssub_any a a W Hal.out Hal.out
    rw [show subL a a = Z by rw [hZ]; exact sub_self ha] at h; exact h⟩
  clear hp hq hS hY hR hZ ha hb hc
  go_enter Try.func6, Try.ntmps6
  go_wp2_with (with_reducible refine wpList_box (o := ⟨some 3, _, _, _, _, _⟩) rfl (.tmp 0) rfl rfl ?_)
  intro w1 hk1 hb1 hs1
  have HA1 : Kp _ := ⟨hk1⟩
  clear hk1 hs1
  go_wp2_with (with_reducible refine wpList_box (o := ⟨some 4, _, _, _, _, _⟩) rfl (.tmp 1) rfl rfl ?_)
  intro w2 hk2 hb2 hs2
  have HB2 : Kp _ := ⟨hk2⟩
  have HA2 : Kp _ := ⟨HA1.out.below hb2 HA1.out.lt⟩
  have hB2 := hb1.trans (hb2.mono hb1.size)
  have n1 : w.heap.size < w1.heap.size := HA1.out.lt
  obtain ⟨gb, hgb⟩ : ∃ g, g = w1.heap.size := ⟨_, rfl⟩
  rw [← hgb] at HB2 n1 ⊢
  clear hk2 hs2 hb1 hb2 HA1 hgb
  go_wp2_with (with_reducible refine wpList_box (o := ⟨some 5, _, _, _, _, _⟩) rfl (.tmp 2) rfl rfl ?_)
  intro w3 hk3 hb3 hs3
  have HC3 : Kp _ := ⟨hk3⟩
  have HA3 : Kp _ := ⟨HA2.out.below hb3 HA2.out.lt⟩
  have HB3 : Kp _ := ⟨HB2.out.below hb3 HB2.out.lt⟩
  have hB3 := hB2.trans (hb3.mono hB2.size)
  have n2 : gb < w2.heap.size := HB2.out.lt
  obtain ⟨gc, hgc⟩ : ∃ g, g = w2.heap.size := ⟨_, rfl⟩
  rw [← hgc] at HC3 n2 ⊢
  clear hk3 hs3 hB2 hb3 HA2 HB2 hgc
  go_wp2_with (first
    | (with_reducible refine wpList_loadAll (o := ⟨some 9, _, _, _, _, _⟩) rwDig rfl (.tmp 3) rfl rfl HA3.out HLa.out ?_)
    | (with_reducible refine wpList_loadAll (o := ⟨some 10, _, _, _, _, _⟩) rwDig rfl (.tmp 4) rfl rfl HB3.out HLb.out ?_))
  go_wp2_with fail
  refine (C1.out _).mono ?_
  rintro e w4 ⟨rfl, hb4⟩
  have HA4 : Kp _ := ⟨HA3.out.below hb4 HA3.out.lt⟩
  have HB4 : Kp _ := ⟨HB3.out.below hb4 HB3.out.lt⟩
  have HC4 : Kp _ := ⟨HC3.out.below hb4 HC3.out.lt⟩
  have hB4 := hB3.trans (hb4.mono hB3.size)
  have n3 : gc < w4.heap.size := HC4.out.lt
  clear hb4 HA3 HB3 HC3 hB3
  go_wp2_with (with_reducible refine wpList_alloc (o := ⟨some 7, _, _, _, _, _⟩) tyDig rfl rfl ?_)
  intro w5 hk5 hb5 hs5
  have HS5 : Kp _ := ⟨hk5⟩
  have HA5 : Kp _ := ⟨HA4.out.below hb5 HA4.out.lt⟩
  have HB5 : Kp _ := ⟨HB4.out.below hb5 HB4.out.lt⟩
  have HC5 : Kp _ := ⟨HC4.out.below hb5 HC4.out.lt⟩
  have hB5 := hB4.trans (hb5.mono hB4.size)
  obtain ⟨gs, hgs⟩ : ∃ g, g = w4.heap.size := ⟨_, rfl⟩
  rw [← hgs] at HS5 n3 ⊢
  clear hk5 hb5 hs5 HA4 HB4 HC4 hB4 hgs
  go_wp2_with (refine wpList_storeAll (o := ⟨none, _, _, _, _, _⟩) (vs := cells8 S) rwDig rfl (.tmp 7) (.tmp 11) rfl rfl HS5.out HZz.out HLS.out (cells8_one _) rfl ?_)
  intro w6 hk6 ho6
  have hT6 : Keep4 w w.heap.size gb gc gs 23 (cells8 a) (cells8 b) (cells8 c) (cells8 S) w6 := ⟨HA5.out.only ho6 (by omega), HB5.out.only ho6 (by omega), HC5.out.only ho6 (by omega), hk6, hB5.trans (ho6.below (by omega))⟩
  clear hk6 ho6 HS5 HA5 HB5 HC5 hB5
  go_wp2_with (first
    | (with_reducible refine wpList_loadAll (o := ⟨some 12, _, _, _, _, _⟩) rwDig rfl (.tmp 3) rfl rfl hT6.a HLa.out ?_)
    | (with_reducible refine wpList_loadAll (o := ⟨some 13, _, _, _, _, _⟩) rwDig rfl (.tmp 4) rfl rfl hT6.b HLb.out ?_))
  go_wp2_with fail
  refine (CP.out _).mono ?_
  rintro e w7 ⟨rfl, hb7⟩
  have hT7 := hT6.next hb7
  clear hb7 hT6
  go_wp2_with (first
    | (with_reducible refine wpList_loadAll (o := ⟨some 17, _, _, _, _, _⟩) rwDig rfl (.tmp 4) rfl rfl hT7.b HLb.out ?_)
    | (with_reducible refine wpList_loadAll (o := ⟨some 18, _, _, _, _, _⟩) rwDig rfl (.tmp 3) rfl rfl hT7.a HLa.out ?_))
  go_wp2_with fail
  refine (CQ.out _).mono ?_
  rintro e w8 ⟨rfl, hb8⟩
  have hT8 := hT7.next hb8
  clear hb8 hT7
  go_wp2_with (first
    | (with_reducible refine wpList_loadAll (o := ⟨some 22, _, _, _, _, _⟩) rwDig rfl (.tmp 3) rfl rfl hT8.a HLa.out ?_)
    | (with_reducible refine wpList_loadAll (o := ⟨some 23, _, _, _, _, _⟩) rwDig rfl (.tmp 4) rfl rfl hT8.b HLb.out ?_)
    | (refine wpList_eql (o := ⟨some 24, _, _, _, _, _⟩) rfl eqDig Try.eqGuardType23 (.tmp 22) (.tmp 23) rfl a b rfl rfl Hal.out Hbl.out hr ?_))
  go_wp2_with fail
  refine wp_region_held_drew (S := Keep4 w w.heap.size gb gc gs 23 (cells8 a) (cells8 b) (cells8 c) (cells8 S)) (by kernel_rfl) (hT8.drew) (fun hHeld => ?_)
  generalize w8.drew = wS at *
  refine wpAnyH_take (i := 0) (oi := ⟨some 27, _, _, _, _, _⟩) (v := _) rfl (by kernel_rfl) (by kernel_rfl) (by kernel_rfl) (fun _ _ _ h => h) (yieldsIf_load_mid (by rfl) _ (.tmp 7) rfl _ _ rfl (cells8 S) _ (fun W hW => hW.d.range (take_all32 HLS.out)) huD rfl (hiD S HLS.out)) (by assumption) ?_
  try simp only [Act.put, List.setIfInBounds_toArray, List.set_cons_zero, List.set_cons_succ]
  refine wpAnyH_take (i := 1) (oi := ⟨some 28, _, _, _, _, _⟩) (v := _) rfl (by kernel_rfl) (by kernel_rfl) (by kernel_rfl) (fun _ _ _ h => h) (yieldsIf_load_mid (by rfl) _ (.tmp 4) rfl _ _ rfl (cells8 b) _ (fun W hW => hW.b.range (take_all32 HLb.out)) huD rfl (hiD b HLb.out)) (by assumption) ?_
  try simp only [Act.put, List.setIfInBounds_toArray, List.set_cons_zero, List.set_cons_succ]
  refine wpAnyH_take (i := 3) (oi := ⟨some 30, _, _, _, _, _⟩) (v := _) rfl (by kernel_rfl) (by kernel_rfl) (by kernel_rfl) (fun _ _ _ h => h) (yieldsIf_load_mid (by rfl) _ (.tmp 3) rfl _ _ rfl (cells8 a) _ (fun W hW => hW.a.range (take_all32 HLa.out)) huD rfl (hiD a HLa.out)) (by assumption) ?_
  try simp only [Act.put, List.setIfInBounds_toArray, List.set_cons_zero, List.set_cons_succ]
  refine wpAnyH_ready (rs := [2]) (by kernel_rfl) (by simp) ?_
  refine AllReadyH.cons (o := ⟨some 29, _, _, _, _, _⟩) rfl (fun K hK => ?_) AllReadyH.nil
  go_simp
  refine (C2.out _).mono ?_
  rintro e w51 ⟨rfl, hb'⟩
  refine hK.out _ _ (hHeld.next hb') (fun hHeld2 => ?_)
  clear hb'
  clear hK K hHeld
  have hHeld := hHeld2
  clear hHeld2
  try simp only [Act.put, List.setIfInBounds_toArray, List.set_cons_zero, List.set_cons_succ]
  refine wpAnyH_take (i := 4) (oi := ⟨some 31, _, _, _, _, _⟩) (v := _) rfl (by kernel_rfl) (by kernel_rfl) (by kernel_rfl) (fun _ _ _ h => h) (yieldsIf_eql (by rfl) eqDig Try.eqGuardType23 (.tmp 29) (.tmp 30) rfl a a rfl rfl Hal.out Hal.out (beq_self_eq_true _)) (by assumption) ?_
  try simp only [Act.put, List.setIfInBounds_toArray, List.set_cons_zero, List.set_cons_succ]
  refine wpAnyH_take (i := 5) (oi := ⟨some 32, _, _, _, _, _⟩) (v := ?_) rfl (by kernel_rfl) (by kernel_rfl) (by kernel_rfl) (fun _ _ _ h => h) (Or.inl ⟨by rfl, by intro w hSw; go_simp; try rfl⟩) (by assumption) ?_
  try simp only [Act.put, List.setIfInBounds_toArray, List.set_cons_zero, List.set_cons_succ]
  refine wpAnyH_take (i := 6) (oi := ⟨some 33, _, _, _, _, _⟩) (v := _) rfl (by kernel_rfl) (by kernel_rfl) (by kernel_rfl) (fun _ _ _ h => h) (yieldsIf_load_mid (by rfl) _ (.tmp 4) rfl _ _ rfl (cells8 b) _ (fun W hW => hW.b.range (take_all32 HLb.out)) huD rfl (hiD b HLb.out)) (by assumption) ?_
  try simp only [Act.put, List.setIfInBounds_toArray, List.set_cons_zero, List.set_cons_succ]
  refine wpAnyH_take (i := 7) (oi := ⟨some 34, _, _, _, _, _⟩) (v := _) rfl (by kernel_rfl) (by kernel_rfl) (by kernel_rfl) (fun _ _ _ h => h) (yieldsIf_load_mid (by rfl) _ (.tmp 3) rfl _ _ rfl (cells8 a) _ (fun W hW => hW.a.range (take_all32 HLa.out)) huD rfl (hiD a HLa.out)) (by assumption) ?_
  try simp only [Act.put, List.setIfInBounds_toArray, List.set_cons_zero, List.set_cons_succ]
  refine wpAnyH_take (i := 9) (oi := ⟨some 36, _, _, _, _, _⟩) (v := _) rfl (by kernel_rfl) (by kernel_rfl) (by kernel_rfl) (fun _ _ _ h => h) (yieldsIf_load_mid (by rfl) _ (.tmp 7) rfl _ _ rfl (cells8 S) _ (fun W hW => hW.d.range (take_all32 HLS.out)) huD rfl (hiD S HLS.out)) (by assumption) ?_
  try simp only [Act.put, List.setIfInBounds_toArray, List.set_cons_zero, List.set_cons_succ]
  refine wpAnyH_ready (rs := [8]) (by kernel_rfl) (by simp) ?_
  refine AllReadyH.cons (o := ⟨some 35, _, _, _, _, _⟩) rfl (fun K hK => ?_) AllReadyH.nil
  go_simp
  refine (C3.out _).mono ?_
  rintro e w52 ⟨rfl, hb'⟩
  refine hK.out _ _ (hHeld.next hb') (fun hHeld2 => ?_)
  clear hb'
  clear hK K hHeld
  have hHeld := hHeld2
  clear hHeld2
  try simp only [Act.put, List.setIfInBounds_toArray, List.set_cons_zero, List.set_cons_succ]
  refine wpAnyH_take (i := 10) (oi := ⟨some 37, _, _, _, _, _⟩) (v := _) rfl (by kernel_rfl) (by kernel_rfl) (by kernel_rfl) (fun _ _ _ h => h) (yieldsIf_eql (by rfl) eqDig Try.eqGuardType23 (.tmp 35) (.tmp 36) rfl S S rfl rfl HSl.out HSl.out (beq_self_eq_true _)) (by assumption) ?_
  try simp only [Act.put, List.setIfInBounds_toArray, List.set_cons_zero, List.set_cons_succ]
  refine wpAnyH_take (i := 11) (oi := ⟨some 38, _, _, _, _, _⟩) (v := ?_) rfl (by kernel_rfl) (by kernel_rfl) (by kernel_rfl) (fun _ _ _ h => h) (Or.inl ⟨by rfl, by intro w hSw; go_simp; try rfl⟩) (by assumption) ?_
  try simp only [Act.put, List.setIfInBounds_toArray, List.set_cons_zero, List.set_cons_succ]
  refine wpAnyH_take (i := 12) (oi := ⟨some 39, _, _, _, _, _⟩) (v := ?_) rfl (by kernel_rfl) (by kernel_rfl) (by kernel_rfl) (fun _ _ _ h => h) (Or.inl ⟨by rfl, by intro w hSw; go_simp; try rfl⟩) (by assumption) ?_
  try simp only [Act.put, List.setIfInBounds_toArray, List.set_cons_zero, List.set_cons_succ]
  refine wpAnyH_take (i := 13) (oi := ⟨some 40, _, _, _, _, _⟩) (v := _) rfl (by kernel_rfl) (by kernel_rfl) (by kernel_rfl) (fun _ _ _ h => h) (yieldsIf_load_mid (by rfl) _ (.tmp 7) rfl _ _ rfl (cells8 S) _ (fun W hW => hW.d.range (take_all32 HLS.out)) huD rfl (hiD S HLS.out)) (by assumption) ?_
  try simp only [Act.put, List.setIfInBounds_toArray, List.set_cons_zero, List.set_cons_succ]
  refine wpAnyH_take (i := 14) (oi := ⟨some 41, _, _, _, _, _⟩) (v := _) rfl (by kernel_rfl) (by kernel_rfl) (by kernel_rfl) (fun _ _ _ h => h) (yieldsIf_load_mid (by rfl) _ (.tmp 5) rfl _ _ rfl (cells8 c) _ (fun W hW => hW.c.range (take_all32 HLc.out)) huD rfl (hiD c HLc.out)) (by assumption) ?_
  try simp only [Act.put, List.setIfInBounds_toArray, List.set_cons_zero, List.set_cons_succ]
  refine wpAnyH_take (i := 16) (oi := ⟨some 43, _, _, _, _, _⟩) (v := _) rfl (by kernel_rfl) (by kernel_rfl) (by kernel_rfl) (fun _ _ _ h => h) (yieldsIf_load_mid (by rfl) _ (.tmp 3) rfl _ _ rfl (cells8 a) _ (fun W hW => hW.a.range (take_all32 HLa.out)) huD rfl (hiD a HLa.out)) (by assumption) ?_
  try simp only [Act.put, List.setIfInBounds_toArray, List.set_cons_zero, List.set_cons_succ]
  refine wpAnyH_take (i := 17) (oi := ⟨some 44, _, _, _, _, _⟩) (v := _) rfl (by kernel_rfl) (by kernel_rfl) (by kernel_rfl) (fun _ _ _ h => h) (yieldsIf_load_mid (by rfl) _ (.tmp 4) rfl _ _ rfl (cells8 b) _ (fun W hW => hW.b.range (take_all32 HLb.out)) huD rfl (hiD b HLb.out)) (by assumption) ?_
  try simp only [Act.put, List.setIfInBounds_toArray, List.set_cons_zero, List.set_cons_succ]
  refine wpAnyH_take (i := 18) (oi := ⟨some 45, _, _, _, _, _⟩) (v := _) rfl (by kernel_rfl) (by kernel_rfl) (by kernel_rfl) (fun _ _ _ h => h) (yieldsIf_load_mid (by rfl) _ (.tmp 5) rfl _ _ rfl (cells8 c) _ (fun W hW => hW.c.range (take_all32 HLc.out)) huD rfl (hiD c HLc.out)) (by assumption) ?_
  try simp only [Act.put, List.setIfInBounds_toArray, List.set_cons_zero, List.set_cons_succ]
  refine wpAnyH_ready (rs := [15]) (by kernel_rfl) (by simp) ?_
  refine AllReadyH.cons (o := ⟨some 42, _, _, _, _, _⟩) rfl (fun K hK => ?_) AllReadyH.nil
  go_simp
  refine (C4.out _).mono ?_
  rintro e w53 ⟨rfl, hb'⟩
  refine hK.out _ _ (hHeld.next hb') (fun hHeld2 => ?_)
  clear hb'
  clear hK K hHeld
  have hHeld := hHeld2
  clear hHeld2
  try simp only [Act.put, List.setIfInBounds_toArray, List.set_cons_zero, List.set_cons_succ]
  refine wpAnyH_ready (rs := [19]) (by kernel_rfl) (by simp) ?_
  refine AllReadyH.cons (o := ⟨some 46, _, _, _, _, _⟩) rfl (fun K hK => ?_) AllReadyH.nil
  go_simp
  refine (C5.out _).mono ?_
  rintro e w54 ⟨rfl, hb'⟩
  refine hK.out _ _ (hHeld.next hb') (fun hHeld2 => ?_)
  clear hb'
  clear hK K hHeld
  have hHeld := hHeld2
  clear hHeld2
  try simp only [Act.put, List.setIfInBounds_toArray, List.set_cons_zero, List.set_cons_succ]
  refine wpAnyH_ready (rs := [20]) (by kernel_rfl) (by simp) ?_
  refine AllReadyH.cons (o := ⟨some 47, _, _, _, _, _⟩) rfl (fun K hK => ?_) AllReadyH.nil
  go_simp
  refine (C6.out _).mono ?_
  rintro e w55 ⟨rfl, hb'⟩
  refine hK.out _ _ (hHeld.next hb') (fun hHeld2 => ?_)
  clear hb'
  clear hK K hHeld
  have hHeld := hHeld2
  clear hHeld2
  try simp only [Act.put, List.setIfInBounds_toArray, List.set_cons_zero, List.set_cons_succ]
  refine wpAnyH_take (i := 21) (oi := ⟨some 48, _, _, _, _, _⟩) (v := _) rfl (by kernel_rfl) (by kernel_rfl) (by kernel_rfl) (fun _ _ _ h => h) (yieldsIf_eql (by rfl) eqDig Try.eqGuardType23 (.tmp 42) (.tmp 47) rfl R R rfl rfl HRl.out HRl.out (beq_self_eq_true _)) (by assumption) ?_
  try simp only [Act.put, List.setIfInBounds_toArray, List.set_cons_zero, List.set_cons_succ]
  refine wpAnyH_take (i := 22) (oi := ⟨some 49, _, _, _, _, _⟩) (v := ?_) rfl (by kernel_rfl) (by kernel_rfl) (by kernel_rfl) (fun _ _ _ h => h) (Or.inl ⟨by rfl, by intro w hSw; go_simp; try rfl⟩) (by assumption) ?_
  try simp only [Act.put, List.setIfInBounds_toArray, List.set_cons_zero, List.set_cons_succ]
  refine wpAnyH_take (i := 23) (oi := ⟨some 50, _, _, _, _, _⟩) (v := ?_) rfl (by kernel_rfl) (by kernel_rfl) (by kernel_rfl) (fun _ _ _ h => h) (Or.inl ⟨by rfl, by intro w hSw; go_simp; try rfl⟩) (by assumption) ?_
  try simp only [Act.put, List.setIfInBounds_toArray, List.set_cons_zero, List.set_cons_succ]
  refine wpAnyH_take (i := 24) (oi := ⟨some 51, _, _, _, _, _⟩) (v := _) rfl (by kernel_rfl) (by kernel_rfl) (by kernel_rfl) (fun _ _ _ h => h) (yieldsIf_load_mid (by rfl) _ (.tmp 3) rfl _ _ rfl (cells8 a) _ (fun W hW => hW.a.range (take_all32 HLa.out)) huD rfl (hiD a HLa.out)) (by assumption) ?_
  try simp only [Act.put, List.setIfInBounds_toArray, List.set_cons_zero, List.set_cons_succ]
  refine wpAnyH_take (i := 25) (oi := ⟨some 52, _, _, _, _, _⟩) (v := _) rfl (by kernel_rfl) (by kernel_rfl) (by kernel_rfl) (fun _ _ _ h => h) (yieldsIf_load_mid (by rfl) _ (.tmp 3) rfl _ _ rfl (cells8 a) _ (fun W hW => hW.a.range (take_all32 HLa.out)) huD rfl (hiD a HLa.out)) (by assumption) ?_
  try simp only [Act.put, List.setIfInBounds_toArray, List.set_cons_zero, List.set_cons_succ]
  refine wpAnyH_take (i := 27) (oi := ⟨some 54, _, _, _, _, _⟩) (v := _) rfl (by kernel_rfl) (by kernel_rfl) (by kernel_rfl) (fun _ _ _ h => h) (yieldsIf_build0 (by rfl) rfl HB0.out) (by assumption) ?_
  try simp only [Act.put, List.setIfInBounds_toArray, List.set_cons_zero, List.set_cons_succ]
  refine wpAnyH_ready (rs := [26]) (by kernel_rfl) (by simp) ?_
  refine AllReadyH.cons (o := ⟨some 53, _, _, _, _, _⟩) rfl (fun K hK => ?_) AllReadyH.nil
  go_simp
  refine (C7.out _).mono ?_
  rintro e w56 ⟨rfl, hb'⟩
  refine hK.out _ _ (hHeld.next hb') (fun hHeld2 => ?_)
  clear hb'
  clear hK K hHeld
  have hHeld := hHeld2
  clear hHeld2
  try simp only [Act.put, List.setIfInBounds_toArray, List.set_cons_zero, List.set_cons_succ]
  refine wpAnyH_take (i := 28) (oi := ⟨some 55, _, _, _, _, _⟩) (v := _) rfl (by kernel_rfl) (by kernel_rfl) (by kernel_rfl) (fun _ _ _ h => h) (yieldsIf_eql (by rfl) eqDig Try.eqGuardType23 (.tmp 53) (.tmp 54) rfl Z Z rfl rfl HZl.out HZl.out (beq_self_eq_true _)) (by assumption) ?_
  try simp only [Act.put, List.setIfInBounds_toArray, List.set_cons_zero, List.set_cons_succ]
  refine wpAnyH_take (i := 29) (oi := ⟨some 56, _, _, _, _, _⟩) (v := ?_) rfl (by kernel_rfl) (by kernel_rfl) (by kernel_rfl) (fun _ _ _ h => h) (Or.inl ⟨by rfl, by intro w hSw; go_simp; try rfl⟩) (by assumption) ?_
  try simp only [Act.put, List.setIfInBounds_toArray, List.set_cons_zero, List.set_cons_succ]
  refine wpAnyH_take (i := 30) (oi := ⟨some 57, _, _, _, _, _⟩) (v := ?_) rfl (by kernel_rfl) (by kernel_rfl) (by kernel_rfl) (fun _ _ _ h => h) (Or.inl ⟨by rfl, by intro w hSw; go_simp; try rfl⟩) (by assumption) ?_
  try simp only [Act.put, List.setIfInBounds_toArray, List.set_cons_zero, List.set_cons_succ]
  refine wpAnyH_take (i := 31) (oi := ⟨some 58, _, _, _, _, _⟩) (v := ?_) rfl (by kernel_rfl) (by kernel_rfl) (by kernel_rfl) (fun _ _ _ h => h) (Or.inl ⟨by rfl, by intro w hSw; go_simp; try rfl⟩) (by assumption) ?_
  try simp only [Act.put, List.setIfInBounds_toArray, List.set_cons_zero, List.set_cons_succ]
  refine wpAnyH_take (i := 32) (oi := ⟨some 59, _, _, _, _, _⟩) (v := ?_) rfl (by kernel_rfl) (by kernel_rfl) (by kernel_rfl) (fun _ _ _ h => h) (Or.inl ⟨by rfl, by intro w hSw; go_simp; try rfl⟩) (by assumption) ?_
  try simp only [Act.put, List.setIfInBounds_toArray, List.set_cons_zero, List.set_cons_succ]
  refine wpAnyH_take (i := 33) (oi := ⟨some 60, _, _, _, _, _⟩) (v := ?_) rfl (by kernel_rfl) (by kernel_rfl) (by kernel_rfl) (fun _ _ _ h => h) (Or.inl ⟨by rfl, by intro w hSw; go_simp; try rfl⟩) (by assumption) ?_
  try simp only [Act.put, List.setIfInBounds_toArray, List.set_cons_zero, List.set_cons_succ]
  refine wpAnyH_take (i := 34) (oi := ⟨some 61, _, _, _, _, _⟩) (v := ?_) rfl (by kernel_rfl) (by kernel_rfl) (by kernel_rfl) (fun _ _ _ h => h) (Or.inl ⟨by rfl, by intro w hSw; go_simp; try rfl⟩) (by assumption) ?_
  try simp only [Act.put, List.setIfInBounds_toArray, List.set_cons_zero, List.set_cons_succ]
  refine wpAnyH_ready (rs := [35]) (by kernel_rfl) (by simp) ?_
  refine AllReadyH.cons (o := ⟨some 62, _, _, _, _, _⟩) rfl (fun K hK => ?_) AllReadyH.nil
  go_simp
  refine (known5_any _).mono ?_
  rintro e w57 ⟨rfl, hb'⟩
  refine hK.out _ _ (hHeld.next hb') (fun hHeld2 => ?_)
  clear hb'
  clear hK K hHeld
  have hHeld := hHeld2
  clear hHeld2
  try simp only [Act.put, List.setIfInBounds_toArray, List.set_cons_zero, List.set_cons_succ]
  refine wpAnyH_take (i := 36) (oi := ⟨some 63, _, _, _, _, _⟩) (v := ?_) rfl (by kernel_rfl) (by kernel_rfl) (by kernel_rfl) (fun _ _ _ h => h) (Or.inl ⟨by rfl, by intro w hSw; go_simp; try rfl⟩) (by assumption) ?_
  try simp only [Act.put, List.setIfInBounds_toArray, List.set_cons_zero, List.set_cons_succ]
  refine wpAnyH_take (i := 37) (oi := ⟨some 6, _, _, _, _, _⟩) (v := ?_) rfl (by kernel_rfl) (by kernel_rfl) (by kernel_rfl) (fun _ _ _ h => h) (Or.inl ⟨by rfl, by intro w hSw; go_simp; try rfl⟩) (by assumption) ?_
  try simp only [Act.put, List.setIfInBounds_toArray, List.set_cons_zero, List.set_cons_succ]
  refine wpAnyH_done (by kernel_rfl) ?_ _
  go_wp2
  go_ret
  exact ⟨by rfl, hHeld.below⟩
set_option maxRecDepth 100000 in
set_option maxHeartbeats 4000000 in
theorem walk_sumBack_gt (a b c : List UInt8) (w : World) (ha : a.length = 32) (hb : b.length = 32) (hc : c.length = 32) (hp : lessL a b = false) (hq : lessL b a = true) (hr : (a == b) = false) : Calls Try.prog 6 #[.agg (cells8 a).toArray, .agg (cells8 b).toArray, .agg (cells8 c).toArray] w fun e w' => e = .returned (.bool true) ∧ Below w.heap.size w w' := by
  have Hal : Kp _ := ⟨ha⟩
  have Hbl : Kp _ := ⟨hb⟩
  have Hcl : Kp _ := ⟨hc⟩
  have HLa : Kp ((cells8 a).length = 32) := ⟨by rw [cells8_length]; exact ha⟩
  have HLb : Kp ((cells8 b).length = 32) := ⟨by rw [cells8_length]; exact hb⟩
  have HLc : Kp ((cells8 c).length = 32) := ⟨by rw [cells8_length]; exact hc⟩
  obtain ⟨S, hS⟩ : ∃ x, x = addL a b := ⟨_, rfl⟩
  have HSl : Kp (S.length = 32) := ⟨by rw [hS]; exact addL_length _ _⟩
  have HLS : Kp ((cells8 S).length = 32) := ⟨by rw [cells8_length]; exact HSl.out⟩
  obtain ⟨Y, hY⟩ : ∃ x, x = addL b c := ⟨_, rfl⟩
  have HYl : Kp (Y.length = 32) := ⟨by rw [hY]; exact addL_length _ _⟩
  have HLY : Kp ((cells8 Y).length = 32) := ⟨by rw [cells8_length]; exact HYl.out⟩
  obtain ⟨R, hR⟩ : ∃ x, x = addL S c := ⟨_, rfl⟩
  have HRl : Kp (R.length = 32) := ⟨by rw [hR]; exact addL_length _ _⟩
  have HLR : Kp ((cells8 R).length = 32) := ⟨by rw [cells8_length]; exact HRl.out⟩
  obtain ⟨Z, hZ⟩ : ∃ x, x = z32 := ⟨_, rfl⟩
  have HZl : Kp (Z.length = 32) := ⟨by rw [hZ]; exact z32_length⟩
  have HLZ : Kp ((cells8 Z).length = 32) := ⟨by rw [cells8_length]; exact HZl.out⟩
  have HB0 : Kp ((Try.prog).built 23 [] = some (cells8 Z).toArray) := ⟨by rw [hZ]; exact dig_built0⟩
  have HZz : Kp (zero32.length = 32) := ⟨rfl⟩
  have CP : Kp (∀ W, Calls Try.prog 14 #[.agg (cells8 a).toArray, .agg (cells8 b).toArray] W fun e w' => e = .returned (.bool false) ∧ Below W.heap.size W w') := ⟨fun W => by
    have h := less_any a b W Hal.out Hbl.out
    rw [show lessL a b = false by exact hp] at h; exact h⟩
  have CQ : Kp (∀ W, Calls Try.prog 14 #[.agg (cells8 b).toArray, .agg (cells8 a).toArray] W fun e w' => e = .returned (.bool true) ∧ Below W.heap.size W w') := ⟨fun W => by
    have h := less_any b a W Hbl.out Hal.out
    rw [show lessL b a = true by exact hq] at h; exact h⟩
  have C1 : Kp (∀ W, Calls Try.prog 10 #[.agg (cells8 a).toArray, .agg (cells8 b).toArray] W fun e w' => e = .returned (.agg (cells8 S).toArray) ∧ Below W.heap.size W w') := ⟨fun W => by
    have h := sadd_any a b W Hal.out Hbl.out
    rw [show addL a b = S by exact hS.symm] at h; exact h⟩
  have C2 : Kp (∀ W, Calls Try.prog 12 #[.agg (cells8 S).toArray, .agg (cells8 b).toArray] W fun e w' => e = .returned (.agg (cells8 a).toArray) ∧ Below W.heap.size W w') := ⟨fun W => by
    have h := ssub_any S b W HSl.out Hbl.out
    rw [show subL S b = a by rw [hS]; exact sub_add ha hb] at h; exact h⟩
  have C3 : Kp (∀ W, Calls Try.prog 10 #[.agg (cells8 b).toArray, .agg (cells8 a).toArray] W fun e w' => e = .returned (.agg (cells8 S).toArray) ∧ Below W.heap.size W w') := ⟨fun W => by
    have h := sadd_any b a W Hbl.out Hal.out
    rw [show addL b a = S by rw [hS]; exact addL_comm a b] at h; exact h⟩
  have C4 : Kp (∀ W, Calls Try.prog 10 #[.agg (cells8 S).toArray, .agg (cells8 c).toArray] W fun e w' => e = .returned (.agg (cells8 R).toArray) ∧ Below W.heap.size W w') := ⟨fun W => by
    have h := sadd_any S c W HSl.out Hcl.out
    rw [show addL S c = R by exact hR.symm] at h; exact h⟩
  have C5 : Kp (∀ W, Calls Try.prog 10 #[.agg (cells8 b).toArray, .agg (cells8 c).toArray] W fun e w' => e = .returned (.agg (cells8 Y).toArray) ∧ Below W.heap.size W w') := ⟨fun W => by
    have h := sadd_any b c W Hbl.out Hcl.out
    rw [show addL b c = Y by exact hY.symm] at h; exact h⟩
  have C6 : Kp (∀ W, Calls Try.prog 10 #[.agg (cells8 a).toArray, .agg (cells8 Y).toArray] W fun e w' => e = .returned (.agg (cells8 R).toArray) ∧ Below W.heap.size W w') := ⟨fun W => by
    have h := sadd_any a Y W Hal.out HYl.out
    rw [show addL a Y = R by rw [hR, hS, hY]; exact addL_assoc.symm] at h; exact h⟩
  have C7 : Kp (∀ W, Calls Try.prog 12 #[.agg (cells8 a).toArray, .agg (cells8 a).toArray] W fun e w' => e = .returned (.agg (cells8 Z).toArray) ∧ Below W.heap.size W w') := ⟨fun W => by
    have h := ssub_any a a W Hal.out Hal.out
    rw [show subL a a = Z by rw [hZ]; exact sub_self ha] at h; exact h⟩
  clear hp hq hS hY hR hZ ha hb hc
  go_enter Try.func6, Try.ntmps6
  go_wp2_with (with_reducible refine wpList_box (o := ⟨some 3, _, _, _, _, _⟩) rfl (.tmp 0) rfl rfl ?_)
  intro w1 hk1 hb1 hs1
  have HA1 : Kp _ := ⟨hk1⟩
  clear hk1 hs1
  go_wp2_with (with_reducible refine wpList_box (o := ⟨some 4, _, _, _, _, _⟩) rfl (.tmp 1) rfl rfl ?_)
  intro w2 hk2 hb2 hs2
  have HB2 : Kp _ := ⟨hk2⟩
  have HA2 : Kp _ := ⟨HA1.out.below hb2 HA1.out.lt⟩
  have hB2 := hb1.trans (hb2.mono hb1.size)
  have n1 : w.heap.size < w1.heap.size := HA1.out.lt
  obtain ⟨gb, hgb⟩ : ∃ g, g = w1.heap.size := ⟨_, rfl⟩
  rw [← hgb] at HB2 n1 ⊢
  clear hk2 hs2 hb1 hb2 HA1 hgb
  go_wp2_with (with_reducible refine wpList_box (o := ⟨some 5, _, _, _, _, _⟩) rfl (.tmp 2) rfl rfl ?_)
  intro w3 hk3 hb3 hs3
  have HC3 : Kp _ := ⟨hk3⟩
  have HA3 : Kp _ := ⟨HA2.out.below hb3 HA2.out.lt⟩
  have HB3 : Kp _ := ⟨HB2.out.below hb3 HB2.out.lt⟩
  have hB3 := hB2.trans (hb3.mono hB2.size)
  have n2 : gb < w2.heap.size := HB2.out.lt
  obtain ⟨gc, hgc⟩ : ∃ g, g = w2.heap.size := ⟨_, rfl⟩
  rw [← hgc] at HC3 n2 ⊢
  clear hk3 hs3 hB2 hb3 HA2 HB2 hgc
  go_wp2_with (first
    | (with_reducible refine wpList_loadAll (o := ⟨some 9, _, _, _, _, _⟩) rwDig rfl (.tmp 3) rfl rfl HA3.out HLa.out ?_)
    | (with_reducible refine wpList_loadAll (o := ⟨some 10, _, _, _, _, _⟩) rwDig rfl (.tmp 4) rfl rfl HB3.out HLb.out ?_))
  go_wp2_with fail
  refine (C1.out _).mono ?_
  rintro e w4 ⟨rfl, hb4⟩
  have HA4 : Kp _ := ⟨HA3.out.below hb4 HA3.out.lt⟩
  have HB4 : Kp _ := ⟨HB3.out.below hb4 HB3.out.lt⟩
  have HC4 : Kp _ := ⟨HC3.out.below hb4 HC3.out.lt⟩
  have hB4 := hB3.trans (hb4.mono hB3.size)
  have n3 : gc < w4.heap.size := HC4.out.lt
  clear hb4 HA3 HB3 HC3 hB3
  go_wp2_with (with_reducible refine wpList_alloc (o := ⟨some 7, _, _, _, _, _⟩) tyDig rfl rfl ?_)
  intro w5 hk5 hb5 hs5
  have HS5 : Kp _ := ⟨hk5⟩
  have HA5 : Kp _ := ⟨HA4.out.below hb5 HA4.out.lt⟩
  have HB5 : Kp _ := ⟨HB4.out.below hb5 HB4.out.lt⟩
  have HC5 : Kp _ := ⟨HC4.out.below hb5 HC4.out.lt⟩
  have hB5 := hB4.trans (hb5.mono hB4.size)
  obtain ⟨gs, hgs⟩ : ∃ g, g = w4.heap.size := ⟨_, rfl⟩
  rw [← hgs] at HS5 n3 ⊢
  clear hk5 hb5 hs5 HA4 HB4 HC4 hB4 hgs
  go_wp2_with (refine wpList_storeAll (o := ⟨none, _, _, _, _, _⟩) (vs := cells8 S) rwDig rfl (.tmp 7) (.tmp 11) rfl rfl HS5.out HZz.out HLS.out (cells8_one _) rfl ?_)
  intro w6 hk6 ho6
  have hT6 : Keep4 w w.heap.size gb gc gs 23 (cells8 a) (cells8 b) (cells8 c) (cells8 S) w6 := ⟨HA5.out.only ho6 (by omega), HB5.out.only ho6 (by omega), HC5.out.only ho6 (by omega), hk6, hB5.trans (ho6.below (by omega))⟩
  clear hk6 ho6 HS5 HA5 HB5 HC5 hB5
  go_wp2_with (first
    | (with_reducible refine wpList_loadAll (o := ⟨some 12, _, _, _, _, _⟩) rwDig rfl (.tmp 3) rfl rfl hT6.a HLa.out ?_)
    | (with_reducible refine wpList_loadAll (o := ⟨some 13, _, _, _, _, _⟩) rwDig rfl (.tmp 4) rfl rfl hT6.b HLb.out ?_))
  go_wp2_with fail
  refine (CP.out _).mono ?_
  rintro e w7 ⟨rfl, hb7⟩
  have hT7 := hT6.next hb7
  clear hb7 hT6
  go_wp2_with (first
    | (with_reducible refine wpList_loadAll (o := ⟨some 17, _, _, _, _, _⟩) rwDig rfl (.tmp 4) rfl rfl hT7.b HLb.out ?_)
    | (with_reducible refine wpList_loadAll (o := ⟨some 18, _, _, _, _, _⟩) rwDig rfl (.tmp 3) rfl rfl hT7.a HLa.out ?_))
  go_wp2_with fail
  refine (CQ.out _).mono ?_
  rintro e w8 ⟨rfl, hb8⟩
  have hT8 := hT7.next hb8
  clear hb8 hT7
  go_wp2_with (first
    | (with_reducible refine wpList_loadAll (o := ⟨some 22, _, _, _, _, _⟩) rwDig rfl (.tmp 3) rfl rfl hT8.a HLa.out ?_)
    | (with_reducible refine wpList_loadAll (o := ⟨some 23, _, _, _, _, _⟩) rwDig rfl (.tmp 4) rfl rfl hT8.b HLb.out ?_)
    | (refine wpList_eql (o := ⟨some 24, _, _, _, _, _⟩) rfl eqDig Try.eqGuardType23 (.tmp 22) (.tmp 23) rfl a b rfl rfl Hal.out Hbl.out hr ?_))
  go_wp2_with fail
  refine wp_region_held_drew (S := Keep4 w w.heap.size gb gc gs 23 (cells8 a) (cells8 b) (cells8 c) (cells8 S)) (by kernel_rfl) (hT8.drew) (fun hHeld => ?_)
  generalize w8.drew = wS at *
  refine wpAnyH_take (i := 0) (oi := ⟨some 27, _, _, _, _, _⟩) (v := _) rfl (by kernel_rfl) (by kernel_rfl) (by kernel_rfl) (fun _ _ _ h => h) (yieldsIf_load_mid (by rfl) _ (.tmp 7) rfl _ _ rfl (cells8 S) _ (fun W hW => hW.d.range (take_all32 HLS.out)) huD rfl (hiD S HLS.out)) (by assumption) ?_
  try simp only [Act.put, List.setIfInBounds_toArray, List.set_cons_zero, List.set_cons_succ]
  refine wpAnyH_take (i := 1) (oi := ⟨some 28, _, _, _, _, _⟩) (v := _) rfl (by kernel_rfl) (by kernel_rfl) (by kernel_rfl) (fun _ _ _ h => h) (yieldsIf_load_mid (by rfl) _ (.tmp 4) rfl _ _ rfl (cells8 b) _ (fun W hW => hW.b.range (take_all32 HLb.out)) huD rfl (hiD b HLb.out)) (by assumption) ?_
  try simp only [Act.put, List.setIfInBounds_toArray, List.set_cons_zero, List.set_cons_succ]
  refine wpAnyH_take (i := 3) (oi := ⟨some 30, _, _, _, _, _⟩) (v := _) rfl (by kernel_rfl) (by kernel_rfl) (by kernel_rfl) (fun _ _ _ h => h) (yieldsIf_load_mid (by rfl) _ (.tmp 3) rfl _ _ rfl (cells8 a) _ (fun W hW => hW.a.range (take_all32 HLa.out)) huD rfl (hiD a HLa.out)) (by assumption) ?_
  try simp only [Act.put, List.setIfInBounds_toArray, List.set_cons_zero, List.set_cons_succ]
  refine wpAnyH_ready (rs := [2]) (by kernel_rfl) (by simp) ?_
  refine AllReadyH.cons (o := ⟨some 29, _, _, _, _, _⟩) rfl (fun K hK => ?_) AllReadyH.nil
  go_simp
  refine (C2.out _).mono ?_
  rintro e w51 ⟨rfl, hb'⟩
  refine hK.out _ _ (hHeld.next hb') (fun hHeld2 => ?_)
  clear hb'
  clear hK K hHeld
  have hHeld := hHeld2
  clear hHeld2
  try simp only [Act.put, List.setIfInBounds_toArray, List.set_cons_zero, List.set_cons_succ]
  refine wpAnyH_take (i := 4) (oi := ⟨some 31, _, _, _, _, _⟩) (v := _) rfl (by kernel_rfl) (by kernel_rfl) (by kernel_rfl) (fun _ _ _ h => h) (yieldsIf_eql (by rfl) eqDig Try.eqGuardType23 (.tmp 29) (.tmp 30) rfl a a rfl rfl Hal.out Hal.out (beq_self_eq_true _)) (by assumption) ?_
  try simp only [Act.put, List.setIfInBounds_toArray, List.set_cons_zero, List.set_cons_succ]
  refine wpAnyH_take (i := 5) (oi := ⟨some 32, _, _, _, _, _⟩) (v := ?_) rfl (by kernel_rfl) (by kernel_rfl) (by kernel_rfl) (fun _ _ _ h => h) (Or.inl ⟨by rfl, by intro w hSw; go_simp; try rfl⟩) (by assumption) ?_
  try simp only [Act.put, List.setIfInBounds_toArray, List.set_cons_zero, List.set_cons_succ]
  refine wpAnyH_take (i := 6) (oi := ⟨some 33, _, _, _, _, _⟩) (v := _) rfl (by kernel_rfl) (by kernel_rfl) (by kernel_rfl) (fun _ _ _ h => h) (yieldsIf_load_mid (by rfl) _ (.tmp 4) rfl _ _ rfl (cells8 b) _ (fun W hW => hW.b.range (take_all32 HLb.out)) huD rfl (hiD b HLb.out)) (by assumption) ?_
  try simp only [Act.put, List.setIfInBounds_toArray, List.set_cons_zero, List.set_cons_succ]
  refine wpAnyH_take (i := 7) (oi := ⟨some 34, _, _, _, _, _⟩) (v := _) rfl (by kernel_rfl) (by kernel_rfl) (by kernel_rfl) (fun _ _ _ h => h) (yieldsIf_load_mid (by rfl) _ (.tmp 3) rfl _ _ rfl (cells8 a) _ (fun W hW => hW.a.range (take_all32 HLa.out)) huD rfl (hiD a HLa.out)) (by assumption) ?_
  try simp only [Act.put, List.setIfInBounds_toArray, List.set_cons_zero, List.set_cons_succ]
  refine wpAnyH_take (i := 9) (oi := ⟨some 36, _, _, _, _, _⟩) (v := _) rfl (by kernel_rfl) (by kernel_rfl) (by kernel_rfl) (fun _ _ _ h => h) (yieldsIf_load_mid (by rfl) _ (.tmp 7) rfl _ _ rfl (cells8 S) _ (fun W hW => hW.d.range (take_all32 HLS.out)) huD rfl (hiD S HLS.out)) (by assumption) ?_
  try simp only [Act.put, List.setIfInBounds_toArray, List.set_cons_zero, List.set_cons_succ]
  refine wpAnyH_ready (rs := [8]) (by kernel_rfl) (by simp) ?_
  refine AllReadyH.cons (o := ⟨some 35, _, _, _, _, _⟩) rfl (fun K hK => ?_) AllReadyH.nil
  go_simp
  refine (C3.out _).mono ?_
  rintro e w52 ⟨rfl, hb'⟩
  refine hK.out _ _ (hHeld.next hb') (fun hHeld2 => ?_)
  clear hb'
  clear hK K hHeld
  have hHeld := hHeld2
  clear hHeld2
  try simp only [Act.put, List.setIfInBounds_toArray, List.set_cons_zero, List.set_cons_succ]
  refine wpAnyH_take (i := 10) (oi := ⟨some 37, _, _, _, _, _⟩) (v := _) rfl (by kernel_rfl) (by kernel_rfl) (by kernel_rfl) (fun _ _ _ h => h) (yieldsIf_eql (by rfl) eqDig Try.eqGuardType23 (.tmp 35) (.tmp 36) rfl S S rfl rfl HSl.out HSl.out (beq_self_eq_true _)) (by assumption) ?_
  try simp only [Act.put, List.setIfInBounds_toArray, List.set_cons_zero, List.set_cons_succ]
  refine wpAnyH_take (i := 11) (oi := ⟨some 38, _, _, _, _, _⟩) (v := ?_) rfl (by kernel_rfl) (by kernel_rfl) (by kernel_rfl) (fun _ _ _ h => h) (Or.inl ⟨by rfl, by intro w hSw; go_simp; try rfl⟩) (by assumption) ?_
  try simp only [Act.put, List.setIfInBounds_toArray, List.set_cons_zero, List.set_cons_succ]
  refine wpAnyH_take (i := 12) (oi := ⟨some 39, _, _, _, _, _⟩) (v := ?_) rfl (by kernel_rfl) (by kernel_rfl) (by kernel_rfl) (fun _ _ _ h => h) (Or.inl ⟨by rfl, by intro w hSw; go_simp; try rfl⟩) (by assumption) ?_
  try simp only [Act.put, List.setIfInBounds_toArray, List.set_cons_zero, List.set_cons_succ]
  refine wpAnyH_take (i := 13) (oi := ⟨some 40, _, _, _, _, _⟩) (v := _) rfl (by kernel_rfl) (by kernel_rfl) (by kernel_rfl) (fun _ _ _ h => h) (yieldsIf_load_mid (by rfl) _ (.tmp 7) rfl _ _ rfl (cells8 S) _ (fun W hW => hW.d.range (take_all32 HLS.out)) huD rfl (hiD S HLS.out)) (by assumption) ?_
  try simp only [Act.put, List.setIfInBounds_toArray, List.set_cons_zero, List.set_cons_succ]
  refine wpAnyH_take (i := 14) (oi := ⟨some 41, _, _, _, _, _⟩) (v := _) rfl (by kernel_rfl) (by kernel_rfl) (by kernel_rfl) (fun _ _ _ h => h) (yieldsIf_load_mid (by rfl) _ (.tmp 5) rfl _ _ rfl (cells8 c) _ (fun W hW => hW.c.range (take_all32 HLc.out)) huD rfl (hiD c HLc.out)) (by assumption) ?_
  try simp only [Act.put, List.setIfInBounds_toArray, List.set_cons_zero, List.set_cons_succ]
  refine wpAnyH_take (i := 16) (oi := ⟨some 43, _, _, _, _, _⟩) (v := _) rfl (by kernel_rfl) (by kernel_rfl) (by kernel_rfl) (fun _ _ _ h => h) (yieldsIf_load_mid (by rfl) _ (.tmp 3) rfl _ _ rfl (cells8 a) _ (fun W hW => hW.a.range (take_all32 HLa.out)) huD rfl (hiD a HLa.out)) (by assumption) ?_
  try simp only [Act.put, List.setIfInBounds_toArray, List.set_cons_zero, List.set_cons_succ]
  refine wpAnyH_take (i := 17) (oi := ⟨some 44, _, _, _, _, _⟩) (v := _) rfl (by kernel_rfl) (by kernel_rfl) (by kernel_rfl) (fun _ _ _ h => h) (yieldsIf_load_mid (by rfl) _ (.tmp 4) rfl _ _ rfl (cells8 b) _ (fun W hW => hW.b.range (take_all32 HLb.out)) huD rfl (hiD b HLb.out)) (by assumption) ?_
  try simp only [Act.put, List.setIfInBounds_toArray, List.set_cons_zero, List.set_cons_succ]
  refine wpAnyH_take (i := 18) (oi := ⟨some 45, _, _, _, _, _⟩) (v := _) rfl (by kernel_rfl) (by kernel_rfl) (by kernel_rfl) (fun _ _ _ h => h) (yieldsIf_load_mid (by rfl) _ (.tmp 5) rfl _ _ rfl (cells8 c) _ (fun W hW => hW.c.range (take_all32 HLc.out)) huD rfl (hiD c HLc.out)) (by assumption) ?_
  try simp only [Act.put, List.setIfInBounds_toArray, List.set_cons_zero, List.set_cons_succ]
  refine wpAnyH_ready (rs := [15]) (by kernel_rfl) (by simp) ?_
  refine AllReadyH.cons (o := ⟨some 42, _, _, _, _, _⟩) rfl (fun K hK => ?_) AllReadyH.nil
  go_simp
  refine (C4.out _).mono ?_
  rintro e w53 ⟨rfl, hb'⟩
  refine hK.out _ _ (hHeld.next hb') (fun hHeld2 => ?_)
  clear hb'
  clear hK K hHeld
  have hHeld := hHeld2
  clear hHeld2
  try simp only [Act.put, List.setIfInBounds_toArray, List.set_cons_zero, List.set_cons_succ]
  refine wpAnyH_ready (rs := [19]) (by kernel_rfl) (by simp) ?_
  refine AllReadyH.cons (o := ⟨some 46, _, _, _, _, _⟩) rfl (fun K hK => ?_) AllReadyH.nil
  go_simp
  refine (C5.out _).mono ?_
  rintro e w54 ⟨rfl, hb'⟩
  refine hK.out _ _ (hHeld.next hb') (fun hHeld2 => ?_)
  clear hb'
  clear hK K hHeld
  have hHeld := hHeld2
  clear hHeld2
  try simp only [Act.put, List.setIfInBounds_toArray, List.set_cons_zero, List.set_cons_succ]
  refine wpAnyH_ready (rs := [20]) (by kernel_rfl) (by simp) ?_
  refine AllReadyH.cons (o := ⟨some 47, _, _, _, _, _⟩) rfl (fun K hK => ?_) AllReadyH.nil
  go_simp
  refine (C6.out _).mono ?_
  rintro e w55 ⟨rfl, hb'⟩
  refine hK.out _ _ (hHeld.next hb') (fun hHeld2 => ?_)
  clear hb'
  clear hK K hHeld
  have hHeld := hHeld2
  clear hHeld2
  try simp only [Act.put, List.setIfInBounds_toArray, List.set_cons_zero, List.set_cons_succ]
  refine wpAnyH_take (i := 21) (oi := ⟨some 48, _, _, _, _, _⟩) (v := _) rfl (by kernel_rfl) (by kernel_rfl) (by kernel_rfl) (fun _ _ _ h => h) (yieldsIf_eql (by rfl) eqDig Try.eqGuardType23 (.tmp 42) (.tmp 47) rfl R R rfl rfl HRl.out HRl.out (beq_self_eq_true _)) (by assumption) ?_
  try simp only [Act.put, List.setIfInBounds_toArray, List.set_cons_zero, List.set_cons_succ]
  refine wpAnyH_take (i := 22) (oi := ⟨some 49, _, _, _, _, _⟩) (v := ?_) rfl (by kernel_rfl) (by kernel_rfl) (by kernel_rfl) (fun _ _ _ h => h) (Or.inl ⟨by rfl, by intro w hSw; go_simp; try rfl⟩) (by assumption) ?_
  try simp only [Act.put, List.setIfInBounds_toArray, List.set_cons_zero, List.set_cons_succ]
  refine wpAnyH_take (i := 23) (oi := ⟨some 50, _, _, _, _, _⟩) (v := ?_) rfl (by kernel_rfl) (by kernel_rfl) (by kernel_rfl) (fun _ _ _ h => h) (Or.inl ⟨by rfl, by intro w hSw; go_simp; try rfl⟩) (by assumption) ?_
  try simp only [Act.put, List.setIfInBounds_toArray, List.set_cons_zero, List.set_cons_succ]
  refine wpAnyH_take (i := 24) (oi := ⟨some 51, _, _, _, _, _⟩) (v := _) rfl (by kernel_rfl) (by kernel_rfl) (by kernel_rfl) (fun _ _ _ h => h) (yieldsIf_load_mid (by rfl) _ (.tmp 3) rfl _ _ rfl (cells8 a) _ (fun W hW => hW.a.range (take_all32 HLa.out)) huD rfl (hiD a HLa.out)) (by assumption) ?_
  try simp only [Act.put, List.setIfInBounds_toArray, List.set_cons_zero, List.set_cons_succ]
  refine wpAnyH_take (i := 25) (oi := ⟨some 52, _, _, _, _, _⟩) (v := _) rfl (by kernel_rfl) (by kernel_rfl) (by kernel_rfl) (fun _ _ _ h => h) (yieldsIf_load_mid (by rfl) _ (.tmp 3) rfl _ _ rfl (cells8 a) _ (fun W hW => hW.a.range (take_all32 HLa.out)) huD rfl (hiD a HLa.out)) (by assumption) ?_
  try simp only [Act.put, List.setIfInBounds_toArray, List.set_cons_zero, List.set_cons_succ]
  refine wpAnyH_take (i := 27) (oi := ⟨some 54, _, _, _, _, _⟩) (v := _) rfl (by kernel_rfl) (by kernel_rfl) (by kernel_rfl) (fun _ _ _ h => h) (yieldsIf_build0 (by rfl) rfl HB0.out) (by assumption) ?_
  try simp only [Act.put, List.setIfInBounds_toArray, List.set_cons_zero, List.set_cons_succ]
  refine wpAnyH_ready (rs := [26]) (by kernel_rfl) (by simp) ?_
  refine AllReadyH.cons (o := ⟨some 53, _, _, _, _, _⟩) rfl (fun K hK => ?_) AllReadyH.nil
  go_simp
  refine (C7.out _).mono ?_
  rintro e w56 ⟨rfl, hb'⟩
  refine hK.out _ _ (hHeld.next hb') (fun hHeld2 => ?_)
  clear hb'
  clear hK K hHeld
  have hHeld := hHeld2
  clear hHeld2
  try simp only [Act.put, List.setIfInBounds_toArray, List.set_cons_zero, List.set_cons_succ]
  refine wpAnyH_take (i := 28) (oi := ⟨some 55, _, _, _, _, _⟩) (v := _) rfl (by kernel_rfl) (by kernel_rfl) (by kernel_rfl) (fun _ _ _ h => h) (yieldsIf_eql (by rfl) eqDig Try.eqGuardType23 (.tmp 53) (.tmp 54) rfl Z Z rfl rfl HZl.out HZl.out (beq_self_eq_true _)) (by assumption) ?_
  try simp only [Act.put, List.setIfInBounds_toArray, List.set_cons_zero, List.set_cons_succ]
  refine wpAnyH_take (i := 29) (oi := ⟨some 56, _, _, _, _, _⟩) (v := ?_) rfl (by kernel_rfl) (by kernel_rfl) (by kernel_rfl) (fun _ _ _ h => h) (Or.inl ⟨by rfl, by intro w hSw; go_simp; try rfl⟩) (by assumption) ?_
  try simp only [Act.put, List.setIfInBounds_toArray, List.set_cons_zero, List.set_cons_succ]
  refine wpAnyH_take (i := 30) (oi := ⟨some 57, _, _, _, _, _⟩) (v := ?_) rfl (by kernel_rfl) (by kernel_rfl) (by kernel_rfl) (fun _ _ _ h => h) (Or.inl ⟨by rfl, by intro w hSw; go_simp; try rfl⟩) (by assumption) ?_
  try simp only [Act.put, List.setIfInBounds_toArray, List.set_cons_zero, List.set_cons_succ]
  refine wpAnyH_take (i := 31) (oi := ⟨some 58, _, _, _, _, _⟩) (v := ?_) rfl (by kernel_rfl) (by kernel_rfl) (by kernel_rfl) (fun _ _ _ h => h) (Or.inl ⟨by rfl, by intro w hSw; go_simp; try rfl⟩) (by assumption) ?_
  try simp only [Act.put, List.setIfInBounds_toArray, List.set_cons_zero, List.set_cons_succ]
  refine wpAnyH_take (i := 32) (oi := ⟨some 59, _, _, _, _, _⟩) (v := ?_) rfl (by kernel_rfl) (by kernel_rfl) (by kernel_rfl) (fun _ _ _ h => h) (Or.inl ⟨by rfl, by intro w hSw; go_simp; try rfl⟩) (by assumption) ?_
  try simp only [Act.put, List.setIfInBounds_toArray, List.set_cons_zero, List.set_cons_succ]
  refine wpAnyH_take (i := 33) (oi := ⟨some 60, _, _, _, _, _⟩) (v := ?_) rfl (by kernel_rfl) (by kernel_rfl) (by kernel_rfl) (fun _ _ _ h => h) (Or.inl ⟨by rfl, by intro w hSw; go_simp; try rfl⟩) (by assumption) ?_
  try simp only [Act.put, List.setIfInBounds_toArray, List.set_cons_zero, List.set_cons_succ]
  refine wpAnyH_take (i := 34) (oi := ⟨some 61, _, _, _, _, _⟩) (v := ?_) rfl (by kernel_rfl) (by kernel_rfl) (by kernel_rfl) (fun _ _ _ h => h) (Or.inl ⟨by rfl, by intro w hSw; go_simp; try rfl⟩) (by assumption) ?_
  try simp only [Act.put, List.setIfInBounds_toArray, List.set_cons_zero, List.set_cons_succ]
  refine wpAnyH_ready (rs := [35]) (by kernel_rfl) (by simp) ?_
  refine AllReadyH.cons (o := ⟨some 62, _, _, _, _, _⟩) rfl (fun K hK => ?_) AllReadyH.nil
  go_simp
  refine (known5_any _).mono ?_
  rintro e w57 ⟨rfl, hb'⟩
  refine hK.out _ _ (hHeld.next hb') (fun hHeld2 => ?_)
  clear hb'
  clear hK K hHeld
  have hHeld := hHeld2
  clear hHeld2
  try simp only [Act.put, List.setIfInBounds_toArray, List.set_cons_zero, List.set_cons_succ]
  refine wpAnyH_take (i := 36) (oi := ⟨some 63, _, _, _, _, _⟩) (v := ?_) rfl (by kernel_rfl) (by kernel_rfl) (by kernel_rfl) (fun _ _ _ h => h) (Or.inl ⟨by rfl, by intro w hSw; go_simp; try rfl⟩) (by assumption) ?_
  try simp only [Act.put, List.setIfInBounds_toArray, List.set_cons_zero, List.set_cons_succ]
  refine wpAnyH_take (i := 37) (oi := ⟨some 6, _, _, _, _, _⟩) (v := ?_) rfl (by kernel_rfl) (by kernel_rfl) (by kernel_rfl) (fun _ _ _ h => h) (Or.inl ⟨by rfl, by intro w hSw; go_simp; try rfl⟩) (by assumption) ?_
  try simp only [Act.put, List.setIfInBounds_toArray, List.set_cons_zero, List.set_cons_succ]
  refine wpAnyH_done (by kernel_rfl) ?_ _
  go_wp2
  go_ret
  exact ⟨by rfl, hHeld.below⟩
set_option maxRecDepth 100000 in
set_option maxHeartbeats 4000000 in
theorem walk_sumBack_eq (a b c : List UInt8) (w : World) (ha : a.length = 32) (hb : b.length = 32) (hc : c.length = 32) (hp : lessL a b = false) (hq : lessL b a = false) (hr : (a == b) = true) : Calls Try.prog 6 #[.agg (cells8 a).toArray, .agg (cells8 b).toArray, .agg (cells8 c).toArray] w fun e w' => e = .returned (.bool true) ∧ Below w.heap.size w w' := by
  have Hal : Kp _ := ⟨ha⟩
  have Hbl : Kp _ := ⟨hb⟩
  have Hcl : Kp _ := ⟨hc⟩
  have HLa : Kp ((cells8 a).length = 32) := ⟨by rw [cells8_length]; exact ha⟩
  have HLb : Kp ((cells8 b).length = 32) := ⟨by rw [cells8_length]; exact hb⟩
  have HLc : Kp ((cells8 c).length = 32) := ⟨by rw [cells8_length]; exact hc⟩
  obtain ⟨S, hS⟩ : ∃ x, x = addL a b := ⟨_, rfl⟩
  have HSl : Kp (S.length = 32) := ⟨by rw [hS]; exact addL_length _ _⟩
  have HLS : Kp ((cells8 S).length = 32) := ⟨by rw [cells8_length]; exact HSl.out⟩
  obtain ⟨Y, hY⟩ : ∃ x, x = addL b c := ⟨_, rfl⟩
  have HYl : Kp (Y.length = 32) := ⟨by rw [hY]; exact addL_length _ _⟩
  have HLY : Kp ((cells8 Y).length = 32) := ⟨by rw [cells8_length]; exact HYl.out⟩
  obtain ⟨R, hR⟩ : ∃ x, x = addL S c := ⟨_, rfl⟩
  have HRl : Kp (R.length = 32) := ⟨by rw [hR]; exact addL_length _ _⟩
  have HLR : Kp ((cells8 R).length = 32) := ⟨by rw [cells8_length]; exact HRl.out⟩
  obtain ⟨Z, hZ⟩ : ∃ x, x = z32 := ⟨_, rfl⟩
  have HZl : Kp (Z.length = 32) := ⟨by rw [hZ]; exact z32_length⟩
  have HLZ : Kp ((cells8 Z).length = 32) := ⟨by rw [cells8_length]; exact HZl.out⟩
  have HB0 : Kp ((Try.prog).built 23 [] = some (cells8 Z).toArray) := ⟨by rw [hZ]; exact dig_built0⟩
  have HZz : Kp (zero32.length = 32) := ⟨rfl⟩
  have CP : Kp (∀ W, Calls Try.prog 14 #[.agg (cells8 a).toArray, .agg (cells8 b).toArray] W fun e w' => e = .returned (.bool false) ∧ Below W.heap.size W w') := ⟨fun W => by
    have h := less_any a b W Hal.out Hbl.out
    rw [show lessL a b = false by exact hp] at h; exact h⟩
  have CQ : Kp (∀ W, Calls Try.prog 14 #[.agg (cells8 b).toArray, .agg (cells8 a).toArray] W fun e w' => e = .returned (.bool false) ∧ Below W.heap.size W w') := ⟨fun W => by
    have h := less_any b a W Hbl.out Hal.out
    rw [show lessL b a = false by exact hq] at h; exact h⟩
  have C1 : Kp (∀ W, Calls Try.prog 10 #[.agg (cells8 a).toArray, .agg (cells8 b).toArray] W fun e w' => e = .returned (.agg (cells8 S).toArray) ∧ Below W.heap.size W w') := ⟨fun W => by
    have h := sadd_any a b W Hal.out Hbl.out
    rw [show addL a b = S by exact hS.symm] at h; exact h⟩
  have C2 : Kp (∀ W, Calls Try.prog 12 #[.agg (cells8 S).toArray, .agg (cells8 b).toArray] W fun e w' => e = .returned (.agg (cells8 a).toArray) ∧ Below W.heap.size W w') := ⟨fun W => by
    have h := ssub_any S b W HSl.out Hbl.out
    rw [show subL S b = a by rw [hS]; exact sub_add ha hb] at h; exact h⟩
  have C3 : Kp (∀ W, Calls Try.prog 10 #[.agg (cells8 b).toArray, .agg (cells8 a).toArray] W fun e w' => e = .returned (.agg (cells8 S).toArray) ∧ Below W.heap.size W w') := ⟨fun W => by
    have h := sadd_any b a W Hbl.out Hal.out
    rw [show addL b a = S by rw [hS]; exact addL_comm a b] at h; exact h⟩
  have C4 : Kp (∀ W, Calls Try.prog 10 #[.agg (cells8 S).toArray, .agg (cells8 c).toArray] W fun e w' => e = .returned (.agg (cells8 R).toArray) ∧ Below W.heap.size W w') := ⟨fun W => by
    have h := sadd_any S c W HSl.out Hcl.out
    rw [show addL S c = R by exact hR.symm] at h; exact h⟩
  have C5 : Kp (∀ W, Calls Try.prog 10 #[.agg (cells8 b).toArray, .agg (cells8 c).toArray] W fun e w' => e = .returned (.agg (cells8 Y).toArray) ∧ Below W.heap.size W w') := ⟨fun W => by
    have h := sadd_any b c W Hbl.out Hcl.out
    rw [show addL b c = Y by exact hY.symm] at h; exact h⟩
  have C6 : Kp (∀ W, Calls Try.prog 10 #[.agg (cells8 a).toArray, .agg (cells8 Y).toArray] W fun e w' => e = .returned (.agg (cells8 R).toArray) ∧ Below W.heap.size W w') := ⟨fun W => by
    have h := sadd_any a Y W Hal.out HYl.out
    rw [show addL a Y = R by rw [hR, hS, hY]; exact addL_assoc.symm] at h; exact h⟩
  have C7 : Kp (∀ W, Calls Try.prog 12 #[.agg (cells8 a).toArray, .agg (cells8 a).toArray] W fun e w' => e = .returned (.agg (cells8 Z).toArray) ∧ Below W.heap.size W w') := ⟨fun W => by
    have h := ssub_any a a W Hal.out Hal.out
    rw [show subL a a = Z by rw [hZ]; exact sub_self ha] at h; exact h⟩
  clear hp hq hS hY hR hZ ha hb hc
  go_enter Try.func6, Try.ntmps6
  go_wp2_with (with_reducible refine wpList_box (o := ⟨some 3, _, _, _, _, _⟩) rfl (.tmp 0) rfl rfl ?_)
  intro w1 hk1 hb1 hs1
  have HA1 : Kp _ := ⟨hk1⟩
  clear hk1 hs1
  go_wp2_with (with_reducible refine wpList_box (o := ⟨some 4, _, _, _, _, _⟩) rfl (.tmp 1) rfl rfl ?_)
  intro w2 hk2 hb2 hs2
  have HB2 : Kp _ := ⟨hk2⟩
  have HA2 : Kp _ := ⟨HA1.out.below hb2 HA1.out.lt⟩
  have hB2 := hb1.trans (hb2.mono hb1.size)
  have n1 : w.heap.size < w1.heap.size := HA1.out.lt
  obtain ⟨gb, hgb⟩ : ∃ g, g = w1.heap.size := ⟨_, rfl⟩
  rw [← hgb] at HB2 n1 ⊢
  clear hk2 hs2 hb1 hb2 HA1 hgb
  go_wp2_with (with_reducible refine wpList_box (o := ⟨some 5, _, _, _, _, _⟩) rfl (.tmp 2) rfl rfl ?_)
  intro w3 hk3 hb3 hs3
  have HC3 : Kp _ := ⟨hk3⟩
  have HA3 : Kp _ := ⟨HA2.out.below hb3 HA2.out.lt⟩
  have HB3 : Kp _ := ⟨HB2.out.below hb3 HB2.out.lt⟩
  have hB3 := hB2.trans (hb3.mono hB2.size)
  have n2 : gb < w2.heap.size := HB2.out.lt
  obtain ⟨gc, hgc⟩ : ∃ g, g = w2.heap.size := ⟨_, rfl⟩
  rw [← hgc] at HC3 n2 ⊢
  clear hk3 hs3 hB2 hb3 HA2 HB2 hgc
  go_wp2_with (first
    | (with_reducible refine wpList_loadAll (o := ⟨some 9, _, _, _, _, _⟩) rwDig rfl (.tmp 3) rfl rfl HA3.out HLa.out ?_)
    | (with_reducible refine wpList_loadAll (o := ⟨some 10, _, _, _, _, _⟩) rwDig rfl (.tmp 4) rfl rfl HB3.out HLb.out ?_))
  go_wp2_with fail
  refine (C1.out _).mono ?_
  rintro e w4 ⟨rfl, hb4⟩
  have HA4 : Kp _ := ⟨HA3.out.below hb4 HA3.out.lt⟩
  have HB4 : Kp _ := ⟨HB3.out.below hb4 HB3.out.lt⟩
  have HC4 : Kp _ := ⟨HC3.out.below hb4 HC3.out.lt⟩
  have hB4 := hB3.trans (hb4.mono hB3.size)
  have n3 : gc < w4.heap.size := HC4.out.lt
  clear hb4 HA3 HB3 HC3 hB3
  go_wp2_with (with_reducible refine wpList_alloc (o := ⟨some 7, _, _, _, _, _⟩) tyDig rfl rfl ?_)
  intro w5 hk5 hb5 hs5
  have HS5 : Kp _ := ⟨hk5⟩
  have HA5 : Kp _ := ⟨HA4.out.below hb5 HA4.out.lt⟩
  have HB5 : Kp _ := ⟨HB4.out.below hb5 HB4.out.lt⟩
  have HC5 : Kp _ := ⟨HC4.out.below hb5 HC4.out.lt⟩
  have hB5 := hB4.trans (hb5.mono hB4.size)
  obtain ⟨gs, hgs⟩ : ∃ g, g = w4.heap.size := ⟨_, rfl⟩
  rw [← hgs] at HS5 n3 ⊢
  clear hk5 hb5 hs5 HA4 HB4 HC4 hB4 hgs
  go_wp2_with (refine wpList_storeAll (o := ⟨none, _, _, _, _, _⟩) (vs := cells8 S) rwDig rfl (.tmp 7) (.tmp 11) rfl rfl HS5.out HZz.out HLS.out (cells8_one _) rfl ?_)
  intro w6 hk6 ho6
  have hT6 : Keep4 w w.heap.size gb gc gs 23 (cells8 a) (cells8 b) (cells8 c) (cells8 S) w6 := ⟨HA5.out.only ho6 (by omega), HB5.out.only ho6 (by omega), HC5.out.only ho6 (by omega), hk6, hB5.trans (ho6.below (by omega))⟩
  clear hk6 ho6 HS5 HA5 HB5 HC5 hB5
  go_wp2_with (first
    | (with_reducible refine wpList_loadAll (o := ⟨some 12, _, _, _, _, _⟩) rwDig rfl (.tmp 3) rfl rfl hT6.a HLa.out ?_)
    | (with_reducible refine wpList_loadAll (o := ⟨some 13, _, _, _, _, _⟩) rwDig rfl (.tmp 4) rfl rfl hT6.b HLb.out ?_))
  go_wp2_with fail
  refine (CP.out _).mono ?_
  rintro e w7 ⟨rfl, hb7⟩
  have hT7 := hT6.next hb7
  clear hb7 hT6
  go_wp2_with (first
    | (with_reducible refine wpList_loadAll (o := ⟨some 17, _, _, _, _, _⟩) rwDig rfl (.tmp 4) rfl rfl hT7.b HLb.out ?_)
    | (with_reducible refine wpList_loadAll (o := ⟨some 18, _, _, _, _, _⟩) rwDig rfl (.tmp 3) rfl rfl hT7.a HLa.out ?_))
  go_wp2_with fail
  refine (CQ.out _).mono ?_
  rintro e w8 ⟨rfl, hb8⟩
  have hT8 := hT7.next hb8
  clear hb8 hT7
  go_wp2_with (first
    | (with_reducible refine wpList_loadAll (o := ⟨some 22, _, _, _, _, _⟩) rwDig rfl (.tmp 3) rfl rfl hT8.a HLa.out ?_)
    | (with_reducible refine wpList_loadAll (o := ⟨some 23, _, _, _, _, _⟩) rwDig rfl (.tmp 4) rfl rfl hT8.b HLb.out ?_)
    | (refine wpList_eql (o := ⟨some 24, _, _, _, _, _⟩) rfl eqDig Try.eqGuardType23 (.tmp 22) (.tmp 23) rfl a b rfl rfl Hal.out Hbl.out hr ?_))
  go_wp2_with fail
  refine wp_region_held_drew (S := Keep4 w w.heap.size gb gc gs 23 (cells8 a) (cells8 b) (cells8 c) (cells8 S)) (by kernel_rfl) (hT8.drew) (fun hHeld => ?_)
  generalize w8.drew = wS at *
  refine wpAnyH_take (i := 0) (oi := ⟨some 27, _, _, _, _, _⟩) (v := _) rfl (by kernel_rfl) (by kernel_rfl) (by kernel_rfl) (fun _ _ _ h => h) (yieldsIf_load_mid (by rfl) _ (.tmp 7) rfl _ _ rfl (cells8 S) _ (fun W hW => hW.d.range (take_all32 HLS.out)) huD rfl (hiD S HLS.out)) (by assumption) ?_
  try simp only [Act.put, List.setIfInBounds_toArray, List.set_cons_zero, List.set_cons_succ]
  refine wpAnyH_take (i := 1) (oi := ⟨some 28, _, _, _, _, _⟩) (v := _) rfl (by kernel_rfl) (by kernel_rfl) (by kernel_rfl) (fun _ _ _ h => h) (yieldsIf_load_mid (by rfl) _ (.tmp 4) rfl _ _ rfl (cells8 b) _ (fun W hW => hW.b.range (take_all32 HLb.out)) huD rfl (hiD b HLb.out)) (by assumption) ?_
  try simp only [Act.put, List.setIfInBounds_toArray, List.set_cons_zero, List.set_cons_succ]
  refine wpAnyH_take (i := 3) (oi := ⟨some 30, _, _, _, _, _⟩) (v := _) rfl (by kernel_rfl) (by kernel_rfl) (by kernel_rfl) (fun _ _ _ h => h) (yieldsIf_load_mid (by rfl) _ (.tmp 3) rfl _ _ rfl (cells8 a) _ (fun W hW => hW.a.range (take_all32 HLa.out)) huD rfl (hiD a HLa.out)) (by assumption) ?_
  try simp only [Act.put, List.setIfInBounds_toArray, List.set_cons_zero, List.set_cons_succ]
  refine wpAnyH_ready (rs := [2]) (by kernel_rfl) (by simp) ?_
  refine AllReadyH.cons (o := ⟨some 29, _, _, _, _, _⟩) rfl (fun K hK => ?_) AllReadyH.nil
  go_simp
  refine (C2.out _).mono ?_
  rintro e w51 ⟨rfl, hb'⟩
  refine hK.out _ _ (hHeld.next hb') (fun hHeld2 => ?_)
  clear hb'
  clear hK K hHeld
  have hHeld := hHeld2
  clear hHeld2
  try simp only [Act.put, List.setIfInBounds_toArray, List.set_cons_zero, List.set_cons_succ]
  refine wpAnyH_take (i := 4) (oi := ⟨some 31, _, _, _, _, _⟩) (v := _) rfl (by kernel_rfl) (by kernel_rfl) (by kernel_rfl) (fun _ _ _ h => h) (yieldsIf_eql (by rfl) eqDig Try.eqGuardType23 (.tmp 29) (.tmp 30) rfl a a rfl rfl Hal.out Hal.out (beq_self_eq_true _)) (by assumption) ?_
  try simp only [Act.put, List.setIfInBounds_toArray, List.set_cons_zero, List.set_cons_succ]
  refine wpAnyH_take (i := 5) (oi := ⟨some 32, _, _, _, _, _⟩) (v := ?_) rfl (by kernel_rfl) (by kernel_rfl) (by kernel_rfl) (fun _ _ _ h => h) (Or.inl ⟨by rfl, by intro w hSw; go_simp; try rfl⟩) (by assumption) ?_
  try simp only [Act.put, List.setIfInBounds_toArray, List.set_cons_zero, List.set_cons_succ]
  refine wpAnyH_take (i := 6) (oi := ⟨some 33, _, _, _, _, _⟩) (v := _) rfl (by kernel_rfl) (by kernel_rfl) (by kernel_rfl) (fun _ _ _ h => h) (yieldsIf_load_mid (by rfl) _ (.tmp 4) rfl _ _ rfl (cells8 b) _ (fun W hW => hW.b.range (take_all32 HLb.out)) huD rfl (hiD b HLb.out)) (by assumption) ?_
  try simp only [Act.put, List.setIfInBounds_toArray, List.set_cons_zero, List.set_cons_succ]
  refine wpAnyH_take (i := 7) (oi := ⟨some 34, _, _, _, _, _⟩) (v := _) rfl (by kernel_rfl) (by kernel_rfl) (by kernel_rfl) (fun _ _ _ h => h) (yieldsIf_load_mid (by rfl) _ (.tmp 3) rfl _ _ rfl (cells8 a) _ (fun W hW => hW.a.range (take_all32 HLa.out)) huD rfl (hiD a HLa.out)) (by assumption) ?_
  try simp only [Act.put, List.setIfInBounds_toArray, List.set_cons_zero, List.set_cons_succ]
  refine wpAnyH_take (i := 9) (oi := ⟨some 36, _, _, _, _, _⟩) (v := _) rfl (by kernel_rfl) (by kernel_rfl) (by kernel_rfl) (fun _ _ _ h => h) (yieldsIf_load_mid (by rfl) _ (.tmp 7) rfl _ _ rfl (cells8 S) _ (fun W hW => hW.d.range (take_all32 HLS.out)) huD rfl (hiD S HLS.out)) (by assumption) ?_
  try simp only [Act.put, List.setIfInBounds_toArray, List.set_cons_zero, List.set_cons_succ]
  refine wpAnyH_ready (rs := [8]) (by kernel_rfl) (by simp) ?_
  refine AllReadyH.cons (o := ⟨some 35, _, _, _, _, _⟩) rfl (fun K hK => ?_) AllReadyH.nil
  go_simp
  refine (C3.out _).mono ?_
  rintro e w52 ⟨rfl, hb'⟩
  refine hK.out _ _ (hHeld.next hb') (fun hHeld2 => ?_)
  clear hb'
  clear hK K hHeld
  have hHeld := hHeld2
  clear hHeld2
  try simp only [Act.put, List.setIfInBounds_toArray, List.set_cons_zero, List.set_cons_succ]
  refine wpAnyH_take (i := 10) (oi := ⟨some 37, _, _, _, _, _⟩) (v := _) rfl (by kernel_rfl) (by kernel_rfl) (by kernel_rfl) (fun _ _ _ h => h) (yieldsIf_eql (by rfl) eqDig Try.eqGuardType23 (.tmp 35) (.tmp 36) rfl S S rfl rfl HSl.out HSl.out (beq_self_eq_true _)) (by assumption) ?_
  try simp only [Act.put, List.setIfInBounds_toArray, List.set_cons_zero, List.set_cons_succ]
  refine wpAnyH_take (i := 11) (oi := ⟨some 38, _, _, _, _, _⟩) (v := ?_) rfl (by kernel_rfl) (by kernel_rfl) (by kernel_rfl) (fun _ _ _ h => h) (Or.inl ⟨by rfl, by intro w hSw; go_simp; try rfl⟩) (by assumption) ?_
  try simp only [Act.put, List.setIfInBounds_toArray, List.set_cons_zero, List.set_cons_succ]
  refine wpAnyH_take (i := 12) (oi := ⟨some 39, _, _, _, _, _⟩) (v := ?_) rfl (by kernel_rfl) (by kernel_rfl) (by kernel_rfl) (fun _ _ _ h => h) (Or.inl ⟨by rfl, by intro w hSw; go_simp; try rfl⟩) (by assumption) ?_
  try simp only [Act.put, List.setIfInBounds_toArray, List.set_cons_zero, List.set_cons_succ]
  refine wpAnyH_take (i := 13) (oi := ⟨some 40, _, _, _, _, _⟩) (v := _) rfl (by kernel_rfl) (by kernel_rfl) (by kernel_rfl) (fun _ _ _ h => h) (yieldsIf_load_mid (by rfl) _ (.tmp 7) rfl _ _ rfl (cells8 S) _ (fun W hW => hW.d.range (take_all32 HLS.out)) huD rfl (hiD S HLS.out)) (by assumption) ?_
  try simp only [Act.put, List.setIfInBounds_toArray, List.set_cons_zero, List.set_cons_succ]
  refine wpAnyH_take (i := 14) (oi := ⟨some 41, _, _, _, _, _⟩) (v := _) rfl (by kernel_rfl) (by kernel_rfl) (by kernel_rfl) (fun _ _ _ h => h) (yieldsIf_load_mid (by rfl) _ (.tmp 5) rfl _ _ rfl (cells8 c) _ (fun W hW => hW.c.range (take_all32 HLc.out)) huD rfl (hiD c HLc.out)) (by assumption) ?_
  try simp only [Act.put, List.setIfInBounds_toArray, List.set_cons_zero, List.set_cons_succ]
  refine wpAnyH_take (i := 16) (oi := ⟨some 43, _, _, _, _, _⟩) (v := _) rfl (by kernel_rfl) (by kernel_rfl) (by kernel_rfl) (fun _ _ _ h => h) (yieldsIf_load_mid (by rfl) _ (.tmp 3) rfl _ _ rfl (cells8 a) _ (fun W hW => hW.a.range (take_all32 HLa.out)) huD rfl (hiD a HLa.out)) (by assumption) ?_
  try simp only [Act.put, List.setIfInBounds_toArray, List.set_cons_zero, List.set_cons_succ]
  refine wpAnyH_take (i := 17) (oi := ⟨some 44, _, _, _, _, _⟩) (v := _) rfl (by kernel_rfl) (by kernel_rfl) (by kernel_rfl) (fun _ _ _ h => h) (yieldsIf_load_mid (by rfl) _ (.tmp 4) rfl _ _ rfl (cells8 b) _ (fun W hW => hW.b.range (take_all32 HLb.out)) huD rfl (hiD b HLb.out)) (by assumption) ?_
  try simp only [Act.put, List.setIfInBounds_toArray, List.set_cons_zero, List.set_cons_succ]
  refine wpAnyH_take (i := 18) (oi := ⟨some 45, _, _, _, _, _⟩) (v := _) rfl (by kernel_rfl) (by kernel_rfl) (by kernel_rfl) (fun _ _ _ h => h) (yieldsIf_load_mid (by rfl) _ (.tmp 5) rfl _ _ rfl (cells8 c) _ (fun W hW => hW.c.range (take_all32 HLc.out)) huD rfl (hiD c HLc.out)) (by assumption) ?_
  try simp only [Act.put, List.setIfInBounds_toArray, List.set_cons_zero, List.set_cons_succ]
  refine wpAnyH_ready (rs := [15]) (by kernel_rfl) (by simp) ?_
  refine AllReadyH.cons (o := ⟨some 42, _, _, _, _, _⟩) rfl (fun K hK => ?_) AllReadyH.nil
  go_simp
  refine (C4.out _).mono ?_
  rintro e w53 ⟨rfl, hb'⟩
  refine hK.out _ _ (hHeld.next hb') (fun hHeld2 => ?_)
  clear hb'
  clear hK K hHeld
  have hHeld := hHeld2
  clear hHeld2
  try simp only [Act.put, List.setIfInBounds_toArray, List.set_cons_zero, List.set_cons_succ]
  refine wpAnyH_ready (rs := [19]) (by kernel_rfl) (by simp) ?_
  refine AllReadyH.cons (o := ⟨some 46, _, _, _, _, _⟩) rfl (fun K hK => ?_) AllReadyH.nil
  go_simp
  refine (C5.out _).mono ?_
  rintro e w54 ⟨rfl, hb'⟩
  refine hK.out _ _ (hHeld.next hb') (fun hHeld2 => ?_)
  clear hb'
  clear hK K hHeld
  have hHeld := hHeld2
  clear hHeld2
  try simp only [Act.put, List.setIfInBounds_toArray, List.set_cons_zero, List.set_cons_succ]
  refine wpAnyH_ready (rs := [20]) (by kernel_rfl) (by simp) ?_
  refine AllReadyH.cons (o := ⟨some 47, _, _, _, _, _⟩) rfl (fun K hK => ?_) AllReadyH.nil
  go_simp
  refine (C6.out _).mono ?_
  rintro e w55 ⟨rfl, hb'⟩
  refine hK.out _ _ (hHeld.next hb') (fun hHeld2 => ?_)
  clear hb'
  clear hK K hHeld
  have hHeld := hHeld2
  clear hHeld2
  try simp only [Act.put, List.setIfInBounds_toArray, List.set_cons_zero, List.set_cons_succ]
  refine wpAnyH_take (i := 21) (oi := ⟨some 48, _, _, _, _, _⟩) (v := _) rfl (by kernel_rfl) (by kernel_rfl) (by kernel_rfl) (fun _ _ _ h => h) (yieldsIf_eql (by rfl) eqDig Try.eqGuardType23 (.tmp 42) (.tmp 47) rfl R R rfl rfl HRl.out HRl.out (beq_self_eq_true _)) (by assumption) ?_
  try simp only [Act.put, List.setIfInBounds_toArray, List.set_cons_zero, List.set_cons_succ]
  refine wpAnyH_take (i := 22) (oi := ⟨some 49, _, _, _, _, _⟩) (v := ?_) rfl (by kernel_rfl) (by kernel_rfl) (by kernel_rfl) (fun _ _ _ h => h) (Or.inl ⟨by rfl, by intro w hSw; go_simp; try rfl⟩) (by assumption) ?_
  try simp only [Act.put, List.setIfInBounds_toArray, List.set_cons_zero, List.set_cons_succ]
  refine wpAnyH_take (i := 23) (oi := ⟨some 50, _, _, _, _, _⟩) (v := ?_) rfl (by kernel_rfl) (by kernel_rfl) (by kernel_rfl) (fun _ _ _ h => h) (Or.inl ⟨by rfl, by intro w hSw; go_simp; try rfl⟩) (by assumption) ?_
  try simp only [Act.put, List.setIfInBounds_toArray, List.set_cons_zero, List.set_cons_succ]
  refine wpAnyH_take (i := 24) (oi := ⟨some 51, _, _, _, _, _⟩) (v := _) rfl (by kernel_rfl) (by kernel_rfl) (by kernel_rfl) (fun _ _ _ h => h) (yieldsIf_load_mid (by rfl) _ (.tmp 3) rfl _ _ rfl (cells8 a) _ (fun W hW => hW.a.range (take_all32 HLa.out)) huD rfl (hiD a HLa.out)) (by assumption) ?_
  try simp only [Act.put, List.setIfInBounds_toArray, List.set_cons_zero, List.set_cons_succ]
  refine wpAnyH_take (i := 25) (oi := ⟨some 52, _, _, _, _, _⟩) (v := _) rfl (by kernel_rfl) (by kernel_rfl) (by kernel_rfl) (fun _ _ _ h => h) (yieldsIf_load_mid (by rfl) _ (.tmp 3) rfl _ _ rfl (cells8 a) _ (fun W hW => hW.a.range (take_all32 HLa.out)) huD rfl (hiD a HLa.out)) (by assumption) ?_
  try simp only [Act.put, List.setIfInBounds_toArray, List.set_cons_zero, List.set_cons_succ]
  refine wpAnyH_take (i := 27) (oi := ⟨some 54, _, _, _, _, _⟩) (v := _) rfl (by kernel_rfl) (by kernel_rfl) (by kernel_rfl) (fun _ _ _ h => h) (yieldsIf_build0 (by rfl) rfl HB0.out) (by assumption) ?_
  try simp only [Act.put, List.setIfInBounds_toArray, List.set_cons_zero, List.set_cons_succ]
  refine wpAnyH_ready (rs := [26]) (by kernel_rfl) (by simp) ?_
  refine AllReadyH.cons (o := ⟨some 53, _, _, _, _, _⟩) rfl (fun K hK => ?_) AllReadyH.nil
  go_simp
  refine (C7.out _).mono ?_
  rintro e w56 ⟨rfl, hb'⟩
  refine hK.out _ _ (hHeld.next hb') (fun hHeld2 => ?_)
  clear hb'
  clear hK K hHeld
  have hHeld := hHeld2
  clear hHeld2
  try simp only [Act.put, List.setIfInBounds_toArray, List.set_cons_zero, List.set_cons_succ]
  refine wpAnyH_take (i := 28) (oi := ⟨some 55, _, _, _, _, _⟩) (v := _) rfl (by kernel_rfl) (by kernel_rfl) (by kernel_rfl) (fun _ _ _ h => h) (yieldsIf_eql (by rfl) eqDig Try.eqGuardType23 (.tmp 53) (.tmp 54) rfl Z Z rfl rfl HZl.out HZl.out (beq_self_eq_true _)) (by assumption) ?_
  try simp only [Act.put, List.setIfInBounds_toArray, List.set_cons_zero, List.set_cons_succ]
  refine wpAnyH_take (i := 29) (oi := ⟨some 56, _, _, _, _, _⟩) (v := ?_) rfl (by kernel_rfl) (by kernel_rfl) (by kernel_rfl) (fun _ _ _ h => h) (Or.inl ⟨by rfl, by intro w hSw; go_simp; try rfl⟩) (by assumption) ?_
  try simp only [Act.put, List.setIfInBounds_toArray, List.set_cons_zero, List.set_cons_succ]
  refine wpAnyH_take (i := 30) (oi := ⟨some 57, _, _, _, _, _⟩) (v := ?_) rfl (by kernel_rfl) (by kernel_rfl) (by kernel_rfl) (fun _ _ _ h => h) (Or.inl ⟨by rfl, by intro w hSw; go_simp; try rfl⟩) (by assumption) ?_
  try simp only [Act.put, List.setIfInBounds_toArray, List.set_cons_zero, List.set_cons_succ]
  refine wpAnyH_take (i := 31) (oi := ⟨some 58, _, _, _, _, _⟩) (v := ?_) rfl (by kernel_rfl) (by kernel_rfl) (by kernel_rfl) (fun _ _ _ h => h) (Or.inl ⟨by rfl, by intro w hSw; go_simp; try rfl⟩) (by assumption) ?_
  try simp only [Act.put, List.setIfInBounds_toArray, List.set_cons_zero, List.set_cons_succ]
  refine wpAnyH_take (i := 32) (oi := ⟨some 59, _, _, _, _, _⟩) (v := ?_) rfl (by kernel_rfl) (by kernel_rfl) (by kernel_rfl) (fun _ _ _ h => h) (Or.inl ⟨by rfl, by intro w hSw; go_simp; try rfl⟩) (by assumption) ?_
  try simp only [Act.put, List.setIfInBounds_toArray, List.set_cons_zero, List.set_cons_succ]
  refine wpAnyH_take (i := 33) (oi := ⟨some 60, _, _, _, _, _⟩) (v := ?_) rfl (by kernel_rfl) (by kernel_rfl) (by kernel_rfl) (fun _ _ _ h => h) (Or.inl ⟨by rfl, by intro w hSw; go_simp; try rfl⟩) (by assumption) ?_
  try simp only [Act.put, List.setIfInBounds_toArray, List.set_cons_zero, List.set_cons_succ]
  refine wpAnyH_take (i := 34) (oi := ⟨some 61, _, _, _, _, _⟩) (v := ?_) rfl (by kernel_rfl) (by kernel_rfl) (by kernel_rfl) (fun _ _ _ h => h) (Or.inl ⟨by rfl, by intro w hSw; go_simp; try rfl⟩) (by assumption) ?_
  try simp only [Act.put, List.setIfInBounds_toArray, List.set_cons_zero, List.set_cons_succ]
  refine wpAnyH_ready (rs := [35]) (by kernel_rfl) (by simp) ?_
  refine AllReadyH.cons (o := ⟨some 62, _, _, _, _, _⟩) rfl (fun K hK => ?_) AllReadyH.nil
  go_simp
  refine (known5_any _).mono ?_
  rintro e w57 ⟨rfl, hb'⟩
  refine hK.out _ _ (hHeld.next hb') (fun hHeld2 => ?_)
  clear hb'
  clear hK K hHeld
  have hHeld := hHeld2
  clear hHeld2
  try simp only [Act.put, List.setIfInBounds_toArray, List.set_cons_zero, List.set_cons_succ]
  refine wpAnyH_take (i := 36) (oi := ⟨some 63, _, _, _, _, _⟩) (v := ?_) rfl (by kernel_rfl) (by kernel_rfl) (by kernel_rfl) (fun _ _ _ h => h) (Or.inl ⟨by rfl, by intro w hSw; go_simp; try rfl⟩) (by assumption) ?_
  try simp only [Act.put, List.setIfInBounds_toArray, List.set_cons_zero, List.set_cons_succ]
  refine wpAnyH_take (i := 37) (oi := ⟨some 6, _, _, _, _, _⟩) (v := ?_) rfl (by kernel_rfl) (by kernel_rfl) (by kernel_rfl) (fun _ _ _ h => h) (Or.inl ⟨by rfl, by intro w hSw; go_simp; try rfl⟩) (by assumption) ?_
  try simp only [Act.put, List.setIfInBounds_toArray, List.set_cons_zero, List.set_cons_succ]
  refine wpAnyH_done (by kernel_rfl) ?_ _
  go_wp2
  go_ret
  exact ⟨by rfl, hHeld.below⟩
theorem law_sumBack (a b c : List UInt8) (w : World) (ha : a.length = 32) (hb : b.length = 32) (hc : c.length = 32) : Calls Try.prog 6 #[.agg (cells8 a).toArray, .agg (cells8 b).toArray, .agg (cells8 c).toArray] w fun e w' => e = .returned (.bool true) ∧ Below w.heap.size w w' := by
  rcases Nat.lt_trichotomy (getN a) (getN b) with h | h | h
  · exact walk_sumBack_lt a b c w ha hb hc (lessL_true h) (lessL_false (by omega)) (beq_false (by omega))
  · exact walk_sumBack_eq a b c w ha hb hc (lessL_false (by omega)) (lessL_false (by omega)) (by rw [eq32 ha hb h]; exact beq_self_eq_true _)
  · exact walk_sumBack_gt a b c w ha hb hc (lessL_false (by omega)) (lessL_true h) (beq_false (by omega))
end Go.Proofs.Ytjllfaeamjadcaa
