/- The walk of SumAdds. -/
import Derived.Test.YtjllfaeamjadcaaSumEq
import Derived.Test.YtjllfaeamjadcaaSumRefS
namespace Go.Proofs.Ytjllfaeamjadcaa
open Go.RowKit

set_option maxRecDepth 100000 in
set_option maxHeartbeats 4000000 in
theorem law_sumAdds (a b : List UInt8) (w : World) (ha : a.length = 32) (hb : b.length = 32) : Calls Try.prog 3 #[.agg (cells8 a).toArray, .agg (cells8 b).toArray] w fun e w' => e = .returned (.bool true) ∧ Below w.heap.size w w' := by
  have Hal : Kp _ := ⟨ha⟩
  have Hbl : Kp _ := ⟨hb⟩
  have HLa : Kp ((cells8 a).length = 32) := ⟨by rw [cells8_length]; exact ha⟩
  have HLb : Kp ((cells8 b).length = 32) := ⟨by rw [cells8_length]; exact hb⟩
  obtain ⟨S, hS⟩ : ∃ x, x = addL a b := ⟨_, rfl⟩
  have HSl : Kp (S.length = 32) := ⟨by rw [hS]; exact addL_length _ _⟩
  have HLS : Kp ((cells8 S).length = 32) := ⟨by rw [cells8_length]; exact HSl.out⟩
  obtain ⟨D, hD⟩ : ∃ x, x = subL a b := ⟨_, rfl⟩
  have HDl : Kp (D.length = 32) := ⟨by rw [hD]; exact subL_length _ _⟩
  have HLD : Kp ((cells8 D).length = 32) := ⟨by rw [cells8_length]; exact HDl.out⟩
  obtain ⟨q, hq⟩ : ∃ x, x = lessL a b := ⟨_, rfl⟩
  have C1 : Kp (∀ W, Calls Try.prog 10 #[.agg (cells8 a).toArray, .agg (cells8 b).toArray] W fun e w' => e = .returned (.agg (cells8 S).toArray) ∧ Below W.heap.size W w') := ⟨fun W => by
    have h := sadd_any a b W Hal.out Hbl.out
    rw [show addL a b = S by exact hS.symm] at h; exact h⟩
  have C2 : Kp (∀ W, Calls Try.prog 11 #[.agg (cells8 a).toArray, .agg (cells8 b).toArray] W fun e w' => e = .returned (.agg (cells8 S).toArray) ∧ Below W.heap.size W w') := ⟨fun W => by
    have h := refadd_any a b W Hal.out Hbl.out
    rw [← hS] at h; exact h⟩
  have C3 : Kp (∀ W, Calls Try.prog 12 #[.agg (cells8 a).toArray, .agg (cells8 b).toArray] W fun e w' => e = .returned (.agg (cells8 D).toArray) ∧ Below W.heap.size W w') := ⟨fun W => by
    have h := ssub_any a b W Hal.out Hbl.out
    rw [show subL a b = D by exact hD.symm] at h; exact h⟩
  have C4 : Kp (∀ W, Calls Try.prog 13 #[.agg (cells8 a).toArray, .agg (cells8 b).toArray] W fun e w' => e = .returned (.agg (cells8 D).toArray) ∧ Below W.heap.size W w') := ⟨fun W => by
    have h := refsub_any a b W Hal.out Hbl.out
    rw [← hD] at h; exact h⟩
  have C5 : Kp (∀ W, Calls Try.prog 14 #[.agg (cells8 a).toArray, .agg (cells8 b).toArray] W fun e w' => e = .returned (.bool q) ∧ Below W.heap.size W w') := ⟨fun W => by
    have h := less_any a b W Hal.out Hbl.out
    rw [show lessL a b = q by exact hq.symm] at h; exact h⟩
  have C6 : Kp (∀ W, Calls Try.prog 15 #[.agg (cells8 a).toArray, .agg (cells8 b).toArray] W fun e w' => e = .returned (.bool q) ∧ Below W.heap.size W w') := ⟨fun W => by
    have h := refless_any a b W Hal.out Hbl.out
    rw [← hq] at h; exact h⟩
  clear hS hD hq ha hb
  go_enter Try.func3, Try.ntmps3
  go_wp2_with (with_reducible refine wpList_box (o := ⟨some 2, _, _, _, _, _⟩) rfl (.tmp 0) rfl rfl ?_)
  intro w1 hk1 hb1 hs1
  have HK1 : Kp _ := ⟨hk1⟩
  clear hk1 hs1
  go_wp2_with (with_reducible refine wpList_box (o := ⟨some 3, _, _, _, _, _⟩) rfl (.tmp 1) rfl rfl ?_)
  intro w2 hk2 hb2 hs2
  have hT2 : Two w w.heap.size w1.heap.size 23 (cells8 a) (cells8 b) w2 := ⟨HK1.out.below hb2 HK1.out.lt, hk2, hb1.trans (hb2.mono hb1.size)⟩
  obtain ⟨gb, hgb⟩ : ∃ g, g = w1.heap.size := ⟨_, rfl⟩
  rw [← hgb] at hT2 ⊢
  clear hk2 hb1 hb2 hs2 HK1 hgb
  go_wp2_with fail
  refine wp_region_held_drew (S := Two w w.heap.size gb 23 (cells8 a) (cells8 b)) (by kernel_rfl) (hT2.drew) (fun hHeld => ?_)
  generalize w2.drew = wS at *
  refine wpAnyH_take (i := 0) (oi := ⟨some 5, _, _, _, _, _⟩) (v := _) rfl (by kernel_rfl) (by kernel_rfl) (by kernel_rfl) (fun _ _ _ h => h) (yieldsIf_load_mid (by rfl) _ (.tmp 2) rfl _ _ rfl (cells8 a) _ (fun W hW => hW.a.range (take_all32 HLa.out)) huD rfl (hiD a HLa.out)) (by assumption) ?_
  try simp only [Act.put, List.setIfInBounds_toArray, List.set_cons_zero, List.set_cons_succ]
  refine wpAnyH_take (i := 1) (oi := ⟨some 6, _, _, _, _, _⟩) (v := _) rfl (by kernel_rfl) (by kernel_rfl) (by kernel_rfl) (fun _ _ _ h => h) (yieldsIf_load_mid (by rfl) _ (.tmp 3) rfl _ _ rfl (cells8 b) _ (fun W hW => hW.b.range (take_all32 HLb.out)) huD rfl (hiD b HLb.out)) (by assumption) ?_
  try simp only [Act.put, List.setIfInBounds_toArray, List.set_cons_zero, List.set_cons_succ]
  refine wpAnyH_take (i := 3) (oi := ⟨some 8, _, _, _, _, _⟩) (v := _) rfl (by kernel_rfl) (by kernel_rfl) (by kernel_rfl) (fun _ _ _ h => h) (yieldsIf_load_mid (by rfl) _ (.tmp 2) rfl _ _ rfl (cells8 a) _ (fun W hW => hW.a.range (take_all32 HLa.out)) huD rfl (hiD a HLa.out)) (by assumption) ?_
  try simp only [Act.put, List.setIfInBounds_toArray, List.set_cons_zero, List.set_cons_succ]
  refine wpAnyH_take (i := 4) (oi := ⟨some 9, _, _, _, _, _⟩) (v := _) rfl (by kernel_rfl) (by kernel_rfl) (by kernel_rfl) (fun _ _ _ h => h) (yieldsIf_load_mid (by rfl) _ (.tmp 3) rfl _ _ rfl (cells8 b) _ (fun W hW => hW.b.range (take_all32 HLb.out)) huD rfl (hiD b HLb.out)) (by assumption) ?_
  try simp only [Act.put, List.setIfInBounds_toArray, List.set_cons_zero, List.set_cons_succ]
  refine wpAnyH_ready (rs := [2]) (by kernel_rfl) (by simp) ?_
  refine AllReadyH.cons (o := ⟨some 7, _, _, _, _, _⟩) rfl (fun K hK => ?_) AllReadyH.nil
  go_simp
  refine (C1.out _).mono ?_
  rintro e w51 ⟨rfl, hb'⟩
  refine hK.out _ _ (hHeld.next hb') (fun hHeld2 => ?_)
  clear hb'
  clear hK K hHeld
  have hHeld := hHeld2
  clear hHeld2
  try simp only [Act.put, List.setIfInBounds_toArray, List.set_cons_zero, List.set_cons_succ]
  refine wpAnyH_ready (rs := [5]) (by kernel_rfl) (by simp) ?_
  refine AllReadyH.cons (o := ⟨some 10, _, _, _, _, _⟩) rfl (fun K hK => ?_) AllReadyH.nil
  go_simp
  refine (C2.out _).mono ?_
  rintro e w52 ⟨rfl, hb'⟩
  refine hK.out _ _ (hHeld.next hb') (fun hHeld2 => ?_)
  clear hb'
  clear hK K hHeld
  have hHeld := hHeld2
  clear hHeld2
  try simp only [Act.put, List.setIfInBounds_toArray, List.set_cons_zero, List.set_cons_succ]
  refine wpAnyH_take (i := 6) (oi := ⟨some 11, _, _, _, _, _⟩) (v := _) rfl (by kernel_rfl) (by kernel_rfl) (by kernel_rfl) (fun _ _ _ h => h) (yieldsIf_eql (by rfl) eqDig Try.eqGuardType23 (.tmp 7) (.tmp 10) rfl S S rfl rfl HSl.out HSl.out (beq_self_eq_true _)) (by assumption) ?_
  try simp only [Act.put, List.setIfInBounds_toArray, List.set_cons_zero, List.set_cons_succ]
  refine wpAnyH_take (i := 7) (oi := ⟨some 12, _, _, _, _, _⟩) (v := ?_) rfl (by kernel_rfl) (by kernel_rfl) (by kernel_rfl) (fun _ _ _ h => h) (Or.inl ⟨by rfl, by intro w hSw; go_simp; try rfl⟩) (by assumption) ?_
  try simp only [Act.put, List.setIfInBounds_toArray, List.set_cons_zero, List.set_cons_succ]
  refine wpAnyH_take (i := 8) (oi := ⟨some 13, _, _, _, _, _⟩) (v := _) rfl (by kernel_rfl) (by kernel_rfl) (by kernel_rfl) (fun _ _ _ h => h) (yieldsIf_load_mid (by rfl) _ (.tmp 2) rfl _ _ rfl (cells8 a) _ (fun W hW => hW.a.range (take_all32 HLa.out)) huD rfl (hiD a HLa.out)) (by assumption) ?_
  try simp only [Act.put, List.setIfInBounds_toArray, List.set_cons_zero, List.set_cons_succ]
  refine wpAnyH_take (i := 9) (oi := ⟨some 14, _, _, _, _, _⟩) (v := _) rfl (by kernel_rfl) (by kernel_rfl) (by kernel_rfl) (fun _ _ _ h => h) (yieldsIf_load_mid (by rfl) _ (.tmp 3) rfl _ _ rfl (cells8 b) _ (fun W hW => hW.b.range (take_all32 HLb.out)) huD rfl (hiD b HLb.out)) (by assumption) ?_
  try simp only [Act.put, List.setIfInBounds_toArray, List.set_cons_zero, List.set_cons_succ]
  refine wpAnyH_take (i := 11) (oi := ⟨some 16, _, _, _, _, _⟩) (v := _) rfl (by kernel_rfl) (by kernel_rfl) (by kernel_rfl) (fun _ _ _ h => h) (yieldsIf_load_mid (by rfl) _ (.tmp 2) rfl _ _ rfl (cells8 a) _ (fun W hW => hW.a.range (take_all32 HLa.out)) huD rfl (hiD a HLa.out)) (by assumption) ?_
  try simp only [Act.put, List.setIfInBounds_toArray, List.set_cons_zero, List.set_cons_succ]
  refine wpAnyH_take (i := 12) (oi := ⟨some 17, _, _, _, _, _⟩) (v := _) rfl (by kernel_rfl) (by kernel_rfl) (by kernel_rfl) (fun _ _ _ h => h) (yieldsIf_load_mid (by rfl) _ (.tmp 3) rfl _ _ rfl (cells8 b) _ (fun W hW => hW.b.range (take_all32 HLb.out)) huD rfl (hiD b HLb.out)) (by assumption) ?_
  try simp only [Act.put, List.setIfInBounds_toArray, List.set_cons_zero, List.set_cons_succ]
  refine wpAnyH_ready (rs := [10]) (by kernel_rfl) (by simp) ?_
  refine AllReadyH.cons (o := ⟨some 15, _, _, _, _, _⟩) rfl (fun K hK => ?_) AllReadyH.nil
  go_simp
  refine (C3.out _).mono ?_
  rintro e w53 ⟨rfl, hb'⟩
  refine hK.out _ _ (hHeld.next hb') (fun hHeld2 => ?_)
  clear hb'
  clear hK K hHeld
  have hHeld := hHeld2
  clear hHeld2
  try simp only [Act.put, List.setIfInBounds_toArray, List.set_cons_zero, List.set_cons_succ]
  refine wpAnyH_ready (rs := [13]) (by kernel_rfl) (by simp) ?_
  refine AllReadyH.cons (o := ⟨some 18, _, _, _, _, _⟩) rfl (fun K hK => ?_) AllReadyH.nil
  go_simp
  refine (C4.out _).mono ?_
  rintro e w54 ⟨rfl, hb'⟩
  refine hK.out _ _ (hHeld.next hb') (fun hHeld2 => ?_)
  clear hb'
  clear hK K hHeld
  have hHeld := hHeld2
  clear hHeld2
  try simp only [Act.put, List.setIfInBounds_toArray, List.set_cons_zero, List.set_cons_succ]
  refine wpAnyH_take (i := 14) (oi := ⟨some 19, _, _, _, _, _⟩) (v := _) rfl (by kernel_rfl) (by kernel_rfl) (by kernel_rfl) (fun _ _ _ h => h) (yieldsIf_eql (by rfl) eqDig Try.eqGuardType23 (.tmp 15) (.tmp 18) rfl D D rfl rfl HDl.out HDl.out (beq_self_eq_true _)) (by assumption) ?_
  try simp only [Act.put, List.setIfInBounds_toArray, List.set_cons_zero, List.set_cons_succ]
  refine wpAnyH_take (i := 15) (oi := ⟨some 20, _, _, _, _, _⟩) (v := ?_) rfl (by kernel_rfl) (by kernel_rfl) (by kernel_rfl) (fun _ _ _ h => h) (Or.inl ⟨by rfl, by intro w hSw; go_simp; try rfl⟩) (by assumption) ?_
  try simp only [Act.put, List.setIfInBounds_toArray, List.set_cons_zero, List.set_cons_succ]
  refine wpAnyH_take (i := 16) (oi := ⟨some 21, _, _, _, _, _⟩) (v := ?_) rfl (by kernel_rfl) (by kernel_rfl) (by kernel_rfl) (fun _ _ _ h => h) (Or.inl ⟨by rfl, by intro w hSw; go_simp; try rfl⟩) (by assumption) ?_
  try simp only [Act.put, List.setIfInBounds_toArray, List.set_cons_zero, List.set_cons_succ]
  refine wpAnyH_take (i := 17) (oi := ⟨some 22, _, _, _, _, _⟩) (v := _) rfl (by kernel_rfl) (by kernel_rfl) (by kernel_rfl) (fun _ _ _ h => h) (yieldsIf_load_mid (by rfl) _ (.tmp 2) rfl _ _ rfl (cells8 a) _ (fun W hW => hW.a.range (take_all32 HLa.out)) huD rfl (hiD a HLa.out)) (by assumption) ?_
  try simp only [Act.put, List.setIfInBounds_toArray, List.set_cons_zero, List.set_cons_succ]
  refine wpAnyH_take (i := 18) (oi := ⟨some 23, _, _, _, _, _⟩) (v := _) rfl (by kernel_rfl) (by kernel_rfl) (by kernel_rfl) (fun _ _ _ h => h) (yieldsIf_load_mid (by rfl) _ (.tmp 3) rfl _ _ rfl (cells8 b) _ (fun W hW => hW.b.range (take_all32 HLb.out)) huD rfl (hiD b HLb.out)) (by assumption) ?_
  try simp only [Act.put, List.setIfInBounds_toArray, List.set_cons_zero, List.set_cons_succ]
  refine wpAnyH_take (i := 20) (oi := ⟨some 25, _, _, _, _, _⟩) (v := _) rfl (by kernel_rfl) (by kernel_rfl) (by kernel_rfl) (fun _ _ _ h => h) (yieldsIf_load_mid (by rfl) _ (.tmp 2) rfl _ _ rfl (cells8 a) _ (fun W hW => hW.a.range (take_all32 HLa.out)) huD rfl (hiD a HLa.out)) (by assumption) ?_
  try simp only [Act.put, List.setIfInBounds_toArray, List.set_cons_zero, List.set_cons_succ]
  refine wpAnyH_take (i := 21) (oi := ⟨some 26, _, _, _, _, _⟩) (v := _) rfl (by kernel_rfl) (by kernel_rfl) (by kernel_rfl) (fun _ _ _ h => h) (yieldsIf_load_mid (by rfl) _ (.tmp 3) rfl _ _ rfl (cells8 b) _ (fun W hW => hW.b.range (take_all32 HLb.out)) huD rfl (hiD b HLb.out)) (by assumption) ?_
  try simp only [Act.put, List.setIfInBounds_toArray, List.set_cons_zero, List.set_cons_succ]
  refine wpAnyH_ready (rs := [19]) (by kernel_rfl) (by simp) ?_
  refine AllReadyH.cons (o := ⟨some 24, _, _, _, _, _⟩) rfl (fun K hK => ?_) AllReadyH.nil
  go_simp
  refine (C5.out _).mono ?_
  rintro e w55 ⟨rfl, hb'⟩
  refine hK.out _ _ (hHeld.next hb') (fun hHeld2 => ?_)
  clear hb'
  clear hK K hHeld
  have hHeld := hHeld2
  clear hHeld2
  try simp only [Act.put, List.setIfInBounds_toArray, List.set_cons_zero, List.set_cons_succ]
  refine wpAnyH_ready (rs := [22]) (by kernel_rfl) (by simp) ?_
  refine AllReadyH.cons (o := ⟨some 27, _, _, _, _, _⟩) rfl (fun K hK => ?_) AllReadyH.nil
  go_simp
  refine (C6.out _).mono ?_
  rintro e w56 ⟨rfl, hb'⟩
  refine hK.out _ _ (hHeld.next hb') (fun hHeld2 => ?_)
  clear hb'
  clear hK K hHeld
  have hHeld := hHeld2
  clear hHeld2
  try simp only [Act.put, List.setIfInBounds_toArray, List.set_cons_zero, List.set_cons_succ]
  refine wpAnyH_take (i := 23) (oi := ⟨some 28, _, _, _, _, _⟩) (v := ?_) rfl (by kernel_rfl) (by kernel_rfl) (by kernel_rfl) (fun _ _ _ h => h) (Or.inl ⟨by rfl, by intro w hSw; go_simp; try rfl⟩) (by assumption) ?_
  try simp only [Act.put, List.setIfInBounds_toArray, List.set_cons_zero, List.set_cons_succ]
  refine wpAnyH_take (i := 24) (oi := ⟨some 29, _, _, _, _, _⟩) (v := ?_) rfl (by kernel_rfl) (by kernel_rfl) (by kernel_rfl) (fun _ _ _ h => h) (Or.inl ⟨by rfl, by intro w hSw; go_simp; try rfl⟩) (by assumption) ?_
  try simp only [Act.put, List.setIfInBounds_toArray, List.set_cons_zero, List.set_cons_succ]
  refine wpAnyH_take (i := 25) (oi := ⟨some 30, _, _, _, _, _⟩) (v := ?_) rfl (by kernel_rfl) (by kernel_rfl) (by kernel_rfl) (fun _ _ _ h => h) (Or.inl ⟨by rfl, by intro w hSw; go_simp; try rfl⟩) (by assumption) ?_
  try simp only [Act.put, List.setIfInBounds_toArray, List.set_cons_zero, List.set_cons_succ]
  refine wpAnyH_ready (rs := [26]) (by kernel_rfl) (by simp) ?_
  refine AllReadyH.cons (o := ⟨some 31, _, _, _, _, _⟩) rfl (fun K hK => ?_) AllReadyH.nil
  go_simp
  refine (known5_any _).mono ?_
  rintro e w57 ⟨rfl, hb'⟩
  refine hK.out _ _ (hHeld.next hb') (fun hHeld2 => ?_)
  clear hb'
  clear hK K hHeld
  have hHeld := hHeld2
  clear hHeld2
  try simp only [Act.put, List.setIfInBounds_toArray, List.set_cons_zero, List.set_cons_succ]
  refine wpAnyH_take (i := 27) (oi := ⟨some 32, _, _, _, _, _⟩) (v := ?_) rfl (by kernel_rfl) (by kernel_rfl) (by kernel_rfl) (fun _ _ _ h => h) (Or.inl ⟨by rfl, by intro w hSw; go_simp; try rfl⟩) (by assumption) ?_
  try simp only [Act.put, List.setIfInBounds_toArray, List.set_cons_zero, List.set_cons_succ]
  refine wpAnyH_take (i := 28) (oi := ⟨some 4, _, _, _, _, _⟩) (v := ?_) rfl (by kernel_rfl) (by kernel_rfl) (by kernel_rfl) (fun _ _ _ h => h) (Or.inl ⟨by rfl, by intro w hSw; go_simp; try rfl⟩) (by assumption) ?_
  try simp only [Act.put, List.setIfInBounds_toArray, List.set_cons_zero, List.set_cons_succ]
  refine wpAnyH_done (by kernel_rfl) ?_ _
  go_wp2
  go_ret
  exact ⟨by rfl, hHeld.below⟩
end Go.Proofs.Ytjllfaeamjadcaa
