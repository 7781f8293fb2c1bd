/- The law PathTells. -/
import Derived.Test.YtaedlaeflliibaaDoorLLast15
import Derived.Test.YtaedlaeflliibaaDoorPtY
namespace Go.Proofs.YtaedlaeflliibaaDoor
open Go.RowKit Go.Shelf Go.Deep

section
set_option maxRecDepth 100000
set_option maxHeartbeats 4000000
theorem law_pathTells (b1 : Bool) (A1 : Option Addr) (n1 c1 : Nat) (l1 : List Nm) (b2 : Bool) (A2 : Option Addr) (n2 c2 : Nat) (l2 : List Nm) (w : World) (h1 : Ss w w.heap.size A1 n1 c1 l1) (k1 : longN l1 ≤ 1048576) (h2 : Ss w w.heap.size A2 n2 c2 l2) (k2 : longN l2 ≤ 1048576) :
    Calls Tryd.prog 4 #[.agg #[.bool b1, .slice A1 n1 c1], .agg #[.bool b2, .slice A2 n2 c2]] w fun e w' => e = .returned (.bool true) ∧ Below w.heap.size w w' := by
  have hx2 := box_two w [.bool b1, .slice A1 n1 c1] [.bool b2, .slice A2 n2 c2]
  obtain ⟨w1, hw1⟩ : ∃ w1, w1 = (w.alloc (.cells #[.bool b1, .slice A1 n1 c1] 25)).alloc (.cells #[.bool b2, .slice A2 n2 c2] 25) := ⟨_, rfl⟩
  have HX : Kp _ := ⟨hx2⟩
  rw [← hw1] at HX
  obtain ⟨GP, hGP⟩ : ∃ g, g = w.heap.size := ⟨_, rfl⟩
  obtain ⟨GQ, hGQ⟩ : ∃ g, g = w.heap.size + 1 := ⟨_, rfl⟩
  have KP : Kp (Blk w1 GP 25 [.bool b1, .slice A1 n1 c1]) := ⟨by rw [hGP]; exact HX.out.1⟩
  have KQ : Kp (Blk w1 GQ 25 [.bool b2, .slice A2 n2 c2]) := ⟨by rw [hGQ]; exact HX.out.2.1⟩
  have HW : Kp (Below w.heap.size w w1) := ⟨HX.out.2.2⟩
  have S1 : Kp _ := ⟨h1.next HX.out.2.2 (Nat.le_refl _)⟩
  have S2 : Kp _ := ⟨h2.next HX.out.2.2 (Nat.le_refl _)⟩
  obtain ⟨N1, hN1⟩ : ∃ x, x = longN l1 := ⟨_, rfl⟩
  obtain ⟨N2, hN2⟩ : ∃ x, x = longN l2 := ⟨_, rfl⟩
  obtain ⟨NS, hNS'⟩ : ∃ x, x = N1 + N2 := ⟨_, rfl⟩
  have HN1 : Kp (longN l1 = N1) := ⟨hN1.symm⟩
  have HN2 : Kp (longN l2 = N2) := ⟨hN2.symm⟩
  have hNS : (N1 : Int) + (N2 : Int) = (NS : Int) := by omega
  have hNSw : IntKind.i64.wrap ((N1 : Int) + (N2 : Int)) = (NS : Int) := by rw [hNS, IntKind.wrap_i64]; omega
  have hNSw2 : IntKind.i64.wrap (NS : Int) = (NS : Int) := by rw [IntKind.wrap_i64]; omega
  obtain ⟨pr, hpr⟩ : ∃ x, x = printA b1 l1 := ⟨_, rfl⟩
  have HPr : Kp (printA b1 l1 = pr) := ⟨hpr.symm⟩
  obtain ⟨lb, hlb⟩ : ∃ x, x = lastB b1 l1 := ⟨_, rfl⟩
  have HLb : Kp (lastB b1 l1 = lb) := ⟨hlb.symm⟩
  obtain ⟨nm, hnm⟩ : ∃ x, x = lastN l1 := ⟨_, rfl⟩
  have HLn : Kp (lastN l1 = nm) := ⟨hnm.symm⟩
  obtain ⟨E, hE⟩ : ∃ x, x = lastE l1 := ⟨_, rfl⟩
  have HLe : Kp (lastE l1 = E) := ⟨hE.symm⟩
  obtain ⟨rr, hrr⟩ : ∃ x, x = ((b1 == b2) && (l1 == l2)) := ⟨_, rfl⟩
  have HRr : Kp (((b1 == b2) && (l1 == l2)) = rr) := ⟨hrr.symm⟩
  clear hx2 HX h1 h2 hN1 hN2 hNS' hpr hlb hnm hE hrr
  go_enter Tryd.func4, Tryd.ntmps4
  go_upto_region 1 with fail
  rw [← hw1, ← hGQ, show w.heap.size = GP from hGP.symm]
  clear hw1 hGQ hGP
  have hN1 : ((longN l1 : Nat) : Int) = (N1 : Int) := by rw [HN1.out]
  have hN2 : ((longN l2 : Nat) : Int) = (N2 : Int) := by rw [HN2.out]
  have hSz : w1.heap.size ≤ w1.heap.size := Nat.le_refl _
  refine wp_region_held_drew (S := fun WW => Below w1.heap.size w1 WW) (by kernel_rfl) ((Below.refl _ _).drew) (fun hHeld => ?_)
  generalize w1.drew = wS at *
  refine wpAnyH_take (i := 0) (oi := ⟨some 11, _, _, _, _, _⟩) (v := _) rfl (by kernel_rfl) (by kernel_rfl) (by kernel_rfl) (fun _ _ _ h => h) (yieldsIf_ldP rfl _ rfl rfl b1 A1 n1 c1 (fun W h => KP.out.below h KP.out.lt)) (by assumption) ?_
  try simp only [Act.put, List.setIfInBounds_toArray, List.set_cons_zero, List.set_cons_succ]
  refine wpAnyH_take (i := 2) (oi := ⟨some 13, _, _, _, _, _⟩) (v := _) rfl (by kernel_rfl) (by kernel_rfl) (by kernel_rfl) (fun _ _ _ h => h) (yieldsIf_ldP rfl _ rfl rfl b2 A2 n2 c2 (fun W h => KQ.out.below h KQ.out.lt)) (by assumption) ?_
  try simp only [Act.put, List.setIfInBounds_toArray, List.set_cons_zero, List.set_cons_succ]
  refine wpAnyH_ready (rs := [1]) (by kernel_rfl) (by simp) ?_
  refine AllReadyH.cons (o := ⟨some 12, _, _, _, _, _⟩) rfl (fun K hK => ?_) AllReadyH.nil
  go_simp
  refine (reflong_any b1 A1 n1 c1 l1 wS _ (S1.out.next hHeld (Nat.le_refl _)) (Nat.le_refl _) (by omega)).mono ?_
  rintro e w101 ⟨rfl, hb'⟩
  rw [hN1]
  refine hK.out _ _ (hHeld.trans (hb'.mono hHeld.size)) (fun hHeld2 => ?_)
  clear hb'
  clear hK K hHeld
  have hHeld := hHeld2
  clear hHeld2
  try simp only [Act.put, List.setIfInBounds_toArray, List.set_cons_zero, List.set_cons_succ]
  refine wpAnyH_ready (rs := [3]) (by kernel_rfl) (by simp) ?_
  refine AllReadyH.cons (o := ⟨some 14, _, _, _, _, _⟩) rfl (fun K hK => ?_) AllReadyH.nil
  go_simp
  refine (reflong_any b2 A2 n2 c2 l2 w101 _ (S2.out.next hHeld (Nat.le_refl _)) (Nat.le_refl _) (by omega)).mono ?_
  rintro e w102 ⟨rfl, hb'⟩
  rw [hN2]
  refine hK.out _ _ (hHeld.trans (hb'.mono hHeld.size)) (fun hHeld2 => ?_)
  clear hb'
  clear hK K hHeld
  have hHeld := hHeld2
  clear hHeld2
  try simp only [Act.put, List.setIfInBounds_toArray, List.set_cons_zero, List.set_cons_succ]
  refine wpAnyH_take (i := 4) (oi := ⟨some 15, _, _, _, _, _⟩) (v := ?_) rfl (by kernel_rfl) (by kernel_rfl) (by kernel_rfl) (fun _ _ _ h => h) (Or.inl ⟨by rfl, by intro w hSw; go_simp; try rfl⟩) (by assumption) ?_
  try simp only [Act.put, List.setIfInBounds_toArray, List.set_cons_zero, List.set_cons_succ]
  refine wpAnyH_take (i := 5) (oi := ⟨some 16, _, _, _, _, _⟩) (v := ?_) rfl (by kernel_rfl) (by kernel_rfl) (by kernel_rfl) (fun _ _ _ h => h) (Or.inl ⟨by rfl, by intro w hSw; go_simp; try rfl⟩) (by assumption) ?_
  try simp only [Act.put, List.setIfInBounds_toArray, List.set_cons_zero, List.set_cons_succ]
  refine wpAnyH_done (by kernel_rfl) ?_ _
  clear hN1 hN2
  replace hHeld : Below w1.heap.size w1 w102 := hHeld
  replace KP : Kp _ := ⟨KP.out.below hHeld KP.out.lt⟩
  replace KQ : Kp _ := ⟨KQ.out.below hHeld KQ.out.lt⟩
  replace S1 : Kp _ := ⟨S1.out.next hHeld (Nat.le_refl _)⟩
  replace S2 : Kp _ := ⟨S2.out.next hHeld (Nat.le_refl _)⟩
  replace HW : Kp _ := ⟨HW.out.trans (hHeld.mono HW.out.size)⟩
  clear hHeld
  by_cases hbig : 1000 < NS
  · have hb1 : (1000 : Int) < (NS : Int) := by omega
    go_wp2_with fail
    refine (known15_any _).mono ?_
    rintro e w3 ⟨rfl, hb'⟩
    replace HW : Kp _ := ⟨HW.out.trans (hb'.mono HW.out.size)⟩
    clear hb'
    go_wp2
    go_ret
    exact ⟨rfl, HW.out⟩
  have hb1 : ¬ (1000 : Int) < (NS : Int) := by omega
  have HNS : Kp (longN l1 ≤ 1000 ∧ longN l2 ≤ 1000) := ⟨by have h1 := HN1.out; have h2 := HN2.out; have h3 := hNS; omega⟩
  have HC1 : Kp (n1 ≤ 1000 ∧ n2 ≤ 1000) := ⟨by have h1 := longN_count l1; have h2 := longN_count l2; have h3 := S1.out.len; have h4 := S2.out.len; have h5 := HNS.out; omega⟩
  clear hbig
  have cKP0 : w102.cell? ⟨GP, 0, none⟩ = some (.bool b1) := KP.out.cell? 0
  have cKP1 : w102.cell? ⟨GP, 1, none⟩ = some (.slice A1 n1 c1) := KP.out.cell? 1
  go_wp2_with fail
  refine (lastPt_any b1 A1 n1 c1 l1 _ _ S1.out (Nat.le_refl _) (by have := HC1.out; omega)).mono ?_
  rintro e w3 ⟨A5, n5, c5, rfl, hs5, hb'⟩
  replace KP : Kp _ := ⟨KP.out.below hb' KP.out.lt⟩
  replace KQ : Kp _ := ⟨KQ.out.below hb' KQ.out.lt⟩
  replace S1 : Kp _ := ⟨S1.out.next hb' (Nat.le_refl _)⟩
  replace S2 : Kp _ := ⟨S2.out.next hb' (Nat.le_refl _)⟩
  replace HW : Kp _ := ⟨HW.out.trans (hb'.mono HW.out.size)⟩
  have S5 : Kp _ := ⟨hs5⟩
  clear hs5
  rw [HLb.out, HLn.out, HLe.out]
  clear hb'
  clear cKP0 cKP1
  have cKP0 : w3.cell? ⟨GP, 0, none⟩ = some (.bool b1) := KP.out.cell? 0
  have cKP1 : w3.cell? ⟨GP, 1, none⟩ = some (.slice A1 n1 c1) := KP.out.cell? 1
  go_upto_region 4 with fail
  have hbx : Below w3.heap.size w3 (w3.alloc (.cells #[.bool lb, .slice A5 n5 c5] 25)) := (Below.refl _ _).alloc (Nat.le_refl _) _
  have KA : Kp _ := ⟨Blk.new w3 25 [.bool lb, .slice A5 n5 c5]⟩
  obtain ⟨w4, hw4⟩ : ∃ x, x = w3.alloc (.cells #[.bool lb, .slice A5 n5 c5] 25) := ⟨_, rfl⟩
  rw [← hw4] at hbx KA ⊢
  replace KP : Kp _ := ⟨KP.out.below hbx KP.out.lt⟩
  replace KQ : Kp _ := ⟨KQ.out.below hbx KQ.out.lt⟩
  replace S1 : Kp _ := ⟨S1.out.next hbx (Nat.le_refl _)⟩
  replace S2 : Kp _ := ⟨S2.out.next hbx (Nat.le_refl _)⟩
  replace S5 : Kp _ := ⟨S5.out.next hbx (Nat.le_refl _)⟩
  replace HW : Kp _ := ⟨HW.out.trans (hbx.mono HW.out.size)⟩
  obtain ⟨GA, hG⟩ : ∃ g, g = w3.heap.size := ⟨_, rfl⟩
  rw [← hG] at KA ⊢
  clear hG hbx hw4
  clear cKP0 cKP1
  have cKP0 : w4.cell? ⟨GP, 0, none⟩ = some (.bool b1) := KP.out.cell? 0
  have cKP1 : w4.cell? ⟨GP, 1, none⟩ = some (.slice A1 n1 c1) := KP.out.cell? 1
  go_wp2_with fail
  refine (reflast_any b1 A1 n1 c1 l1 _ _ S1.out (Nat.le_refl _) (by have := HC1.out; omega)).mono ?_
  rintro e w5 ⟨A8, n8, c8, rfl, hs8, hb'⟩
  replace KP : Kp _ := ⟨KP.out.below hb' KP.out.lt⟩
  replace KQ : Kp _ := ⟨KQ.out.below hb' KQ.out.lt⟩
  replace KA : Kp _ := ⟨KA.out.below hb' KA.out.lt⟩
  replace S1 : Kp _ := ⟨S1.out.next hb' (Nat.le_refl _)⟩
  replace S2 : Kp _ := ⟨S2.out.next hb' (Nat.le_refl _)⟩
  replace S5 : Kp _ := ⟨S5.out.next hb' (Nat.le_refl _)⟩
  replace HW : Kp _ := ⟨HW.out.trans (hb'.mono HW.out.size)⟩
  have S8 : Kp _ := ⟨hs8⟩
  clear hs8
  rw [HLb.out, HLn.out, HLe.out]
  clear hb'
  clear cKP0 cKP1
  have cKP0 : w5.cell? ⟨GP, 0, none⟩ = some (.bool b1) := KP.out.cell? 0
  have cKP1 : w5.cell? ⟨GP, 1, none⟩ = some (.slice A1 n1 c1) := KP.out.cell? 1
  go_upto_region 5 with fail
  have hbx : Below w5.heap.size w5 (w5.alloc (.cells #[.bool lb, .slice A8 n8 c8] 25)) := (Below.refl _ _).alloc (Nat.le_refl _) _
  have KC : Kp _ := ⟨Blk.new w5 25 [.bool lb, .slice A8 n8 c8]⟩
  obtain ⟨w6, hw6⟩ : ∃ x, x = w5.alloc (.cells #[.bool lb, .slice A8 n8 c8] 25) := ⟨_, rfl⟩
  rw [← hw6] at hbx KC ⊢
  replace KP : Kp _ := ⟨KP.out.below hbx KP.out.lt⟩
  replace KQ : Kp _ := ⟨KQ.out.below hbx KQ.out.lt⟩
  replace KA : Kp _ := ⟨KA.out.below hbx KA.out.lt⟩
  replace S1 : Kp _ := ⟨S1.out.next hbx (Nat.le_refl _)⟩
  replace S2 : Kp _ := ⟨S2.out.next hbx (Nat.le_refl _)⟩
  replace S5 : Kp _ := ⟨S5.out.next hbx (Nat.le_refl _)⟩
  replace S8 : Kp _ := ⟨S8.out.next hbx (Nat.le_refl _)⟩
  replace HW : Kp _ := ⟨HW.out.trans (hbx.mono HW.out.size)⟩
  obtain ⟨GC, hG⟩ : ∃ g, g = w5.heap.size := ⟨_, rfl⟩
  rw [← hG] at KC ⊢
  clear hG hbx hw6
  clear cKP0 cKP1
  have hSz : w6.heap.size ≤ w6.heap.size := Nat.le_refl _
  refine wp_region_held_drew (S := fun WW => Below w6.heap.size w6 WW) (by kernel_rfl) ((Below.refl _ _).drew) (fun hHeld => ?_)
  generalize w6.drew = wS at *
  refine wpAnyH_take (i := 0) (oi := ⟨some 30, _, _, _, _, _⟩) (v := _) rfl (by kernel_rfl) (by kernel_rfl) (by kernel_rfl) (fun _ _ _ h => h) (yieldsIf_ldP rfl _ rfl rfl b1 A1 n1 c1 (fun W h => KP.out.below h KP.out.lt)) (by assumption) ?_
  try simp only [Act.put, List.setIfInBounds_toArray, List.set_cons_zero, List.set_cons_succ]
  refine wpAnyH_take (i := 2) (oi := ⟨some 32, _, _, _, _, _⟩) (v := _) rfl (by kernel_rfl) (by kernel_rfl) (by kernel_rfl) (fun _ _ _ h => h) (yieldsIf_ldP rfl _ rfl rfl b1 A1 n1 c1 (fun W h => KP.out.below h KP.out.lt)) (by assumption) ?_
  try simp only [Act.put, List.setIfInBounds_toArray, List.set_cons_zero, List.set_cons_succ]
  refine wpAnyH_ready (rs := [1]) (by kernel_rfl) (by simp) ?_
  refine AllReadyH.cons (o := ⟨some 31, _, _, _, _, _⟩) rfl (fun K hK => ?_) AllReadyH.nil
  go_simp
  refine (print_any b1 A1 n1 c1 l1 wS _ (S1.out.next hHeld (Nat.le_refl _)) (Nat.le_refl _) (by have := HNS.out; omega)).mono ?_
  rintro e w101 ⟨rfl, hb'⟩
  rw [HPr.out]
  refine hK.out _ _ (hHeld.trans (hb'.mono hHeld.size)) (fun hHeld2 => ?_)
  clear hb'
  clear hK K hHeld
  have hHeld := hHeld2
  clear hHeld2
  try simp only [Act.put, List.setIfInBounds_toArray, List.set_cons_zero, List.set_cons_succ]
  refine wpAnyH_ready (rs := [3]) (by kernel_rfl) (by simp) ?_
  refine AllReadyH.cons (o := ⟨some 33, _, _, _, _, _⟩) rfl (fun K hK => ?_) AllReadyH.nil
  go_simp
  refine (refprint_any b1 A1 n1 c1 l1 w101 _ (S1.out.next hHeld (Nat.le_refl _)) (Nat.le_refl _) (by have := HNS.out; omega)).mono ?_
  rintro e w102 ⟨rfl, hb'⟩
  rw [HPr.out]
  refine hK.out _ _ (hHeld.trans (hb'.mono hHeld.size)) (fun hHeld2 => ?_)
  clear hb'
  clear hK K hHeld
  have hHeld := hHeld2
  clear hHeld2
  try simp only [Act.put, List.setIfInBounds_toArray, List.set_cons_zero, List.set_cons_succ]
  refine wpAnyH_take (i := 4) (oi := ⟨some 34, _, _, _, _, _⟩) (v := ?_) rfl (by kernel_rfl) (by kernel_rfl) (by kernel_rfl) (fun _ _ _ h => h) (Or.inl ⟨by rfl, by intro w hSw; go_simp; try rfl⟩) (by assumption) ?_
  try simp only [Act.put, List.setIfInBounds_toArray, List.set_cons_zero, List.set_cons_succ]
  refine wpAnyH_take (i := 5) (oi := ⟨some 35, _, _, _, _, _⟩) (v := ?_) rfl (by kernel_rfl) (by kernel_rfl) (by kernel_rfl) (fun _ _ _ h => h) (Or.inl ⟨by rfl, by intro w hSw; go_simp; try rfl⟩) (by assumption) ?_
  try simp only [Act.put, List.setIfInBounds_toArray, List.set_cons_zero, List.set_cons_succ]
  refine wpAnyH_take (i := 6) (oi := ⟨some 36, _, _, _, _, _⟩) (v := _) rfl (by kernel_rfl) (by kernel_rfl) (by kernel_rfl) (fun _ _ _ h => h) (yieldsIf_ldP rfl _ rfl rfl b1 A1 n1 c1 (fun W h => KP.out.below h KP.out.lt)) (by assumption) ?_
  try simp only [Act.put, List.setIfInBounds_toArray, List.set_cons_zero, List.set_cons_succ]
  refine wpAnyH_take (i := 7) (oi := ⟨some 37, _, _, _, _, _⟩) (v := _) rfl (by kernel_rfl) (by kernel_rfl) (by kernel_rfl) (fun _ _ _ h => h) (yieldsIf_ldP rfl _ rfl rfl b2 A2 n2 c2 (fun W h => KQ.out.below h KQ.out.lt)) (by assumption) ?_
  try simp only [Act.put, List.setIfInBounds_toArray, List.set_cons_zero, List.set_cons_succ]
  refine wpAnyH_take (i := 9) (oi := ⟨some 39, _, _, _, _, _⟩) (v := _) rfl (by kernel_rfl) (by kernel_rfl) (by kernel_rfl) (fun _ _ _ h => h) (yieldsIf_ldP rfl _ rfl rfl b1 A1 n1 c1 (fun W h => KP.out.below h KP.out.lt)) (by assumption) ?_
  try simp only [Act.put, List.setIfInBounds_toArray, List.set_cons_zero, List.set_cons_succ]
  refine wpAnyH_take (i := 10) (oi := ⟨some 40, _, _, _, _, _⟩) (v := _) rfl (by kernel_rfl) (by kernel_rfl) (by kernel_rfl) (fun _ _ _ h => h) (yieldsIf_ldP rfl _ rfl rfl b2 A2 n2 c2 (fun W h => KQ.out.below h KQ.out.lt)) (by assumption) ?_
  try simp only [Act.put, List.setIfInBounds_toArray, List.set_cons_zero, List.set_cons_succ]
  refine wpAnyH_ready (rs := [8]) (by kernel_rfl) (by simp) ?_
  refine AllReadyH.cons (o := ⟨some 38, _, _, _, _, _⟩) rfl (fun K hK => ?_) AllReadyH.nil
  go_simp
  refine (joinPt_any b1 b2 A1 A2 n1 c1 n2 c2 l1 l2 w102 _ _ (S1.out.next hHeld (Nat.le_refl _)) (S2.out.next hHeld (Nat.le_refl _)) (Nat.le_refl _) (Nat.le_refl _) (by have := HC1.out; omega)).mono ?_
  rintro e w103 ⟨A3, n3, c3, rfl, hs3, hb'⟩
  have S3 : Kp _ := ⟨hs3⟩
  clear hs3
  refine hK.out _ _ (hHeld.trans (hb'.mono hHeld.size)) (fun hHeld2 => ?_)
  clear hb'
  clear hK K hHeld
  have hHeld := hHeld2
  clear hHeld2
  try simp only [Act.put, List.setIfInBounds_toArray, List.set_cons_zero, List.set_cons_succ]
  refine wpAnyH_ready (rs := [11]) (by kernel_rfl) (by simp) ?_
  refine AllReadyH.cons (o := ⟨some 41, _, _, _, _, _⟩) rfl (fun K hK => ?_) AllReadyH.nil
  go_simp
  refine (refjoin_any b1 b2 A1 A2 n1 c1 n2 c2 l1 l2 w103 _ _ (S1.out.next hHeld (Nat.le_refl _)) (S2.out.next hHeld (Nat.le_refl _)) (Nat.le_refl _) (Nat.le_refl _) (by have := HC1.out; omega)).mono ?_
  rintro e w104 ⟨A4, n4, c4, rfl, hs4, hb'⟩
  replace S3 : Kp _ := ⟨S3.out.next hb' (Nat.le_refl _)⟩
  have S4 : Kp _ := ⟨hs4⟩
  clear hs4
  refine hK.out _ _ (hHeld.trans (hb'.mono hHeld.size)) (fun hHeld2 => ?_)
  clear hb'
  clear hK K hHeld
  have hHeld := hHeld2
  clear hHeld2
  try simp only [Act.put, List.setIfInBounds_toArray, List.set_cons_zero, List.set_cons_succ]
  refine wpAnyH_ready (rs := [12]) (by kernel_rfl) (by simp) ?_
  refine AllReadyH.cons (o := ⟨some 42, _, _, _, _, _⟩) rfl (fun K hK => ?_) AllReadyH.nil
  go_simp
  refine (refsame_any _ _ A3 A4 n3 c3 n4 c4 _ _ w104 _ _ S3.out S4.out (Nat.le_refl _) (Nat.le_refl _)).mono ?_
  rintro e w105 ⟨rfl, hb'⟩
  rw [same_self]
  refine hK.out _ _ (hHeld.trans (hb'.mono hHeld.size)) (fun hHeld2 => ?_)
  clear hb'
  clear hK K hHeld
  have hHeld := hHeld2
  clear hHeld2
  try simp only [Act.put, List.setIfInBounds_toArray, List.set_cons_zero, List.set_cons_succ]
  refine wpAnyH_take (i := 13) (oi := ⟨some 43, _, _, _, _, _⟩) (v := ?_) rfl (by kernel_rfl) (by kernel_rfl) (by kernel_rfl) (fun _ _ _ h => h) (Or.inl ⟨by rfl, by intro w hSw; go_simp; try rfl⟩) (by assumption) ?_
  try simp only [Act.put, List.setIfInBounds_toArray, List.set_cons_zero, List.set_cons_succ]
  refine wpAnyH_take (i := 14) (oi := ⟨some 44, _, _, _, _, _⟩) (v := ?_) rfl (by kernel_rfl) (by kernel_rfl) (by kernel_rfl) (fun _ _ _ h => h) (Or.inl ⟨by rfl, by intro w hSw; go_simp; try rfl⟩) (by assumption) ?_
  try simp only [Act.put, List.setIfInBounds_toArray, List.set_cons_zero, List.set_cons_succ]
  refine wpAnyH_take (i := 15) (oi := ⟨some 45, _, _, _, _, _⟩) (v := _) rfl (by kernel_rfl) (by kernel_rfl) (by kernel_rfl) (fun _ _ _ h => h) (yieldsIf_ldP rfl _ rfl rfl lb A5 n5 c5 (fun W h => KA.out.below h KA.out.lt)) (by assumption) ?_
  try simp only [Act.put, List.setIfInBounds_toArray, List.set_cons_zero, List.set_cons_succ]
  refine wpAnyH_take (i := 16) (oi := ⟨some 46, _, _, _, _, _⟩) (v := _) rfl (by kernel_rfl) (by kernel_rfl) (by kernel_rfl) (fun _ _ _ h => h) (yieldsIf_ldP rfl _ rfl rfl lb A8 n8 c8 (fun W h => KC.out.below h KC.out.lt)) (by assumption) ?_
  try simp only [Act.put, List.setIfInBounds_toArray, List.set_cons_zero, List.set_cons_succ]
  refine wpAnyH_ready (rs := [17]) (by kernel_rfl) (by simp) ?_
  refine AllReadyH.cons (o := ⟨some 47, _, _, _, _, _⟩) rfl (fun K hK => ?_) AllReadyH.nil
  go_simp
  refine (refsame_any lb lb A5 A8 n5 c5 n8 c8 _ _ w105 _ _ (S5.out.next hHeld (Nat.le_refl _)) (S8.out.next hHeld (Nat.le_refl _)) (Nat.le_refl _) (Nat.le_refl _)).mono ?_
  rintro e w106 ⟨rfl, hb'⟩
  rw [same_self]
  refine hK.out _ _ (hHeld.trans (hb'.mono hHeld.size)) (fun hHeld2 => ?_)
  clear hb'
  clear hK K hHeld
  have hHeld := hHeld2
  clear hHeld2
  try simp only [Act.put, List.setIfInBounds_toArray, List.set_cons_zero, List.set_cons_succ]
  refine wpAnyH_take (i := 18) (oi := ⟨some 48, _, _, _, _, _⟩) (v := ?_) rfl (by kernel_rfl) (by kernel_rfl) (by kernel_rfl) (fun _ _ _ h => h) (Or.inl ⟨by rfl, by intro w hSw; go_simp; try rfl⟩) (by assumption) ?_
  try simp only [Act.put, List.setIfInBounds_toArray, List.set_cons_zero, List.set_cons_succ]
  refine wpAnyH_take (i := 19) (oi := ⟨some 49, _, _, _, _, _⟩) (v := ?_) rfl (by kernel_rfl) (by kernel_rfl) (by kernel_rfl) (fun _ _ _ h => h) (Or.inl ⟨by rfl, by intro w hSw; go_simp; try rfl⟩) (by assumption) ?_
  try simp only [Act.put, List.setIfInBounds_toArray, List.set_cons_zero, List.set_cons_succ]
  refine wpAnyH_take (i := 20) (oi := ⟨some 50, _, _, _, _, _⟩) (v := ?_) rfl (by kernel_rfl) (by kernel_rfl) (by kernel_rfl) (fun _ _ _ h => h) (Or.inl ⟨by rfl, by intro w hSw; go_simp; try rfl⟩) (by assumption) ?_
  try simp only [Act.put, List.setIfInBounds_toArray, List.set_cons_zero, List.set_cons_succ]
  refine wpAnyH_take (i := 21) (oi := ⟨some 51, _, _, _, _, _⟩) (v := ?_) rfl (by kernel_rfl) (by kernel_rfl) (by kernel_rfl) (fun _ _ _ h => h) (Or.inl ⟨by rfl, by intro w hSw; go_simp; try rfl⟩) (by assumption) ?_
  try simp only [Act.put, List.setIfInBounds_toArray, List.set_cons_zero, List.set_cons_succ]
  refine wpAnyH_take (i := 22) (oi := ⟨some 52, _, _, _, _, _⟩) (v := ?_) rfl (by kernel_rfl) (by kernel_rfl) (by kernel_rfl) (fun _ _ _ h => h) (Or.inl ⟨by rfl, by intro w hSw; go_simp; try rfl⟩) (by assumption) ?_
  try simp only [Act.put, List.setIfInBounds_toArray, List.set_cons_zero, List.set_cons_succ]
  refine wpAnyH_take (i := 23) (oi := ⟨some 53, _, _, _, _, _⟩) (v := ?_) rfl (by kernel_rfl) (by kernel_rfl) (by kernel_rfl) (fun _ _ _ h => h) (Or.inl ⟨by rfl, by intro w hSw; go_simp; try rfl⟩) (by assumption) ?_
  try simp only [Act.put, List.setIfInBounds_toArray, List.set_cons_zero, List.set_cons_succ]
  refine wpAnyH_take (i := 24) (oi := ⟨some 54, _, _, _, _, _⟩) (v := ?_) rfl (by kernel_rfl) (by kernel_rfl) (by kernel_rfl) (fun _ _ _ h => h) (Or.inl ⟨by rfl, by intro w hSw; go_simp; try rfl⟩) (by assumption) ?_
  try simp only [Act.put, List.setIfInBounds_toArray, List.set_cons_zero, List.set_cons_succ]
  refine wpAnyH_take (i := 25) (oi := ⟨some 55, _, _, _, _, _⟩) (v := ?_) rfl (by kernel_rfl) (by kernel_rfl) (by kernel_rfl) (fun _ _ _ h => h) (Or.inl ⟨by rfl, by intro w hSw; go_simp; try rfl⟩) (by assumption) ?_
  try simp only [Act.put, List.setIfInBounds_toArray, List.set_cons_zero, List.set_cons_succ]
  refine wpAnyH_take (i := 26) (oi := ⟨some 56, _, _, _, _, _⟩) (v := ?_) rfl (by kernel_rfl) (by kernel_rfl) (by kernel_rfl) (fun _ _ _ h => h) (Or.inl ⟨by rfl, by intro w hSw; go_simp; try rfl⟩) (by assumption) ?_
  try simp only [Act.put, List.setIfInBounds_toArray, List.set_cons_zero, List.set_cons_succ]
  refine wpAnyH_take (i := 27) (oi := ⟨some 57, _, _, _, _, _⟩) (v := ?_) rfl (by kernel_rfl) (by kernel_rfl) (by kernel_rfl) (fun _ _ _ h => h) (Or.inl ⟨by rfl, by intro w hSw; go_simp; try rfl⟩) (by assumption) ?_
  try simp only [Act.put, List.setIfInBounds_toArray, List.set_cons_zero, List.set_cons_succ]
  refine wpAnyH_take (i := 28) (oi := ⟨some 58, _, _, _, _, _⟩) (v := ?_) rfl (by kernel_rfl) (by kernel_rfl) (by kernel_rfl) (fun _ _ _ h => h) (Or.inl ⟨by rfl, by intro w hSw; go_simp; try rfl⟩) (by assumption) ?_
  try simp only [Act.put, List.setIfInBounds_toArray, List.set_cons_zero, List.set_cons_succ]
  refine wpAnyH_take (i := 29) (oi := ⟨some 59, _, _, _, _, _⟩) (v := ?_) rfl (by kernel_rfl) (by kernel_rfl) (by kernel_rfl) (fun _ _ _ h => h) (Or.inl ⟨by rfl, by intro w hSw; go_simp; try rfl⟩) (by assumption) ?_
  try simp only [Act.put, List.setIfInBounds_toArray, List.set_cons_zero, List.set_cons_succ]
  refine wpAnyH_take (i := 30) (oi := ⟨some 60, _, _, _, _, _⟩) (v := _) rfl (by kernel_rfl) (by kernel_rfl) (by kernel_rfl) (fun _ _ _ h => h) (yieldsIf_ldP rfl _ rfl rfl b1 A1 n1 c1 (fun W h => KP.out.below h KP.out.lt)) (by assumption) ?_
  try simp only [Act.put, List.setIfInBounds_toArray, List.set_cons_zero, List.set_cons_succ]
  refine wpAnyH_take (i := 31) (oi := ⟨some 61, _, _, _, _, _⟩) (v := _) rfl (by kernel_rfl) (by kernel_rfl) (by kernel_rfl) (fun _ _ _ h => h) (yieldsIf_ldP rfl _ rfl rfl b2 A2 n2 c2 (fun W h => KQ.out.below h KQ.out.lt)) (by assumption) ?_
  try simp only [Act.put, List.setIfInBounds_toArray, List.set_cons_zero, List.set_cons_succ]
  refine wpAnyH_take (i := 33) (oi := ⟨some 63, _, _, _, _, _⟩) (v := _) rfl (by kernel_rfl) (by kernel_rfl) (by kernel_rfl) (fun _ _ _ h => h) (yieldsIf_ldP rfl _ rfl rfl b1 A1 n1 c1 (fun W h => KP.out.below h KP.out.lt)) (by assumption) ?_
  try simp only [Act.put, List.setIfInBounds_toArray, List.set_cons_zero, List.set_cons_succ]
  refine wpAnyH_take (i := 34) (oi := ⟨some 64, _, _, _, _, _⟩) (v := _) rfl (by kernel_rfl) (by kernel_rfl) (by kernel_rfl) (fun _ _ _ h => h) (yieldsIf_ldP rfl _ rfl rfl b2 A2 n2 c2 (fun W h => KQ.out.below h KQ.out.lt)) (by assumption) ?_
  try simp only [Act.put, List.setIfInBounds_toArray, List.set_cons_zero, List.set_cons_succ]
  refine wpAnyH_ready (rs := [32]) (by kernel_rfl) (by simp) ?_
  refine AllReadyH.cons (o := ⟨some 62, _, _, _, _, _⟩) rfl (fun K hK => ?_) AllReadyH.nil
  go_simp
  refine (samePt_any b1 b2 A1 A2 n1 c1 n2 c2 l1 l2 w106 _ _ (S1.out.next hHeld (Nat.le_refl _)) (S2.out.next hHeld (Nat.le_refl _)) (Nat.le_refl _) (Nat.le_refl _)).mono ?_
  rintro e w107 ⟨rfl, hb'⟩
  rw [HRr.out]
  refine hK.out _ _ (hHeld.trans (hb'.mono hHeld.size)) (fun hHeld2 => ?_)
  clear hb'
  clear hK K hHeld
  have hHeld := hHeld2
  clear hHeld2
  try simp only [Act.put, List.setIfInBounds_toArray, List.set_cons_zero, List.set_cons_succ]
  refine wpAnyH_ready (rs := [35]) (by kernel_rfl) (by simp) ?_
  refine AllReadyH.cons (o := ⟨some 65, _, _, _, _, _⟩) rfl (fun K hK => ?_) AllReadyH.nil
  go_simp
  refine (refsame_any b1 b2 A1 A2 n1 c1 n2 c2 l1 l2 w107 _ _ (S1.out.next hHeld (Nat.le_refl _)) (S2.out.next hHeld (Nat.le_refl _)) (Nat.le_refl _) (Nat.le_refl _)).mono ?_
  rintro e w108 ⟨rfl, hb'⟩
  rw [HRr.out]
  refine hK.out _ _ (hHeld.trans (hb'.mono hHeld.size)) (fun hHeld2 => ?_)
  clear hb'
  clear hK K hHeld
  have hHeld := hHeld2
  clear hHeld2
  try simp only [Act.put, List.setIfInBounds_toArray, List.set_cons_zero, List.set_cons_succ]
  refine wpAnyH_take (i := 36) (oi := ⟨some 66, _, _, _, _, _⟩) (v := ?_) rfl (by kernel_rfl) (by kernel_rfl) (by kernel_rfl) (fun _ _ _ h => h) (Or.inl ⟨by rfl, by intro w hSw; go_simp; try rfl⟩) (by assumption) ?_
  try simp only [Act.put, List.setIfInBounds_toArray, List.set_cons_zero, List.set_cons_succ]
  refine wpAnyH_take (i := 37) (oi := ⟨some 67, _, _, _, _, _⟩) (v := ?_) rfl (by kernel_rfl) (by kernel_rfl) (by kernel_rfl) (fun _ _ _ h => h) (Or.inl ⟨by rfl, by intro w hSw; go_simp; try rfl⟩) (by assumption) ?_
  try simp only [Act.put, List.setIfInBounds_toArray, List.set_cons_zero, List.set_cons_succ]
  refine wpAnyH_take (i := 38) (oi := ⟨some 68, _, _, _, _, _⟩) (v := ?_) rfl (by kernel_rfl) (by kernel_rfl) (by kernel_rfl) (fun _ _ _ h => h) (Or.inl ⟨by rfl, by intro w hSw; go_simp; try rfl⟩) (by assumption) ?_
  try simp only [Act.put, List.setIfInBounds_toArray, List.set_cons_zero, List.set_cons_succ]
  refine wpAnyH_take (i := 39) (oi := ⟨some 69, _, _, _, _, _⟩) (v := _) rfl (by kernel_rfl) (by kernel_rfl) (by kernel_rfl) (fun _ _ _ h => h) (yieldsIf_ldP rfl _ rfl rfl b1 A1 n1 c1 (fun W h => KP.out.below h KP.out.lt)) (by assumption) ?_
  try simp only [Act.put, List.setIfInBounds_toArray, List.set_cons_zero, List.set_cons_succ]
  refine wpAnyH_take (i := 40) (oi := ⟨some 70, _, _, _, _, _⟩) (v := _) rfl (by kernel_rfl) (by kernel_rfl) (by kernel_rfl) (fun _ _ _ h => h) (yieldsIf_ldP rfl _ rfl rfl b1 A1 n1 c1 (fun W h => KP.out.below h KP.out.lt)) (by assumption) ?_
  try simp only [Act.put, List.setIfInBounds_toArray, List.set_cons_zero, List.set_cons_succ]
  refine wpAnyH_ready (rs := [41]) (by kernel_rfl) (by simp) ?_
  refine AllReadyH.cons (o := ⟨some 71, _, _, _, _, _⟩) rfl (fun K hK => ?_) AllReadyH.nil
  go_simp
  refine (samePt_any b1 b1 A1 A1 n1 c1 n1 c1 l1 l1 w108 _ _ (S1.out.next hHeld (Nat.le_refl _)) (S1.out.next hHeld (Nat.le_refl _)) (Nat.le_refl _) (Nat.le_refl _)).mono ?_
  rintro e w109 ⟨rfl, hb'⟩
  rw [same_self]
  refine hK.out _ _ (hHeld.trans (hb'.mono hHeld.size)) (fun hHeld2 => ?_)
  clear hb'
  clear hK K hHeld
  have hHeld := hHeld2
  clear hHeld2
  try simp only [Act.put, List.setIfInBounds_toArray, List.set_cons_zero, List.set_cons_succ]
  refine wpAnyH_take (i := 42) (oi := ⟨some 72, _, _, _, _, _⟩) (v := ?_) rfl (by kernel_rfl) (by kernel_rfl) (by kernel_rfl) (fun _ _ _ h => h) (Or.inl ⟨by rfl, by intro w hSw; go_simp; try rfl⟩) (by assumption) ?_
  try simp only [Act.put, List.setIfInBounds_toArray, List.set_cons_zero, List.set_cons_succ]
  refine wpAnyH_take (i := 43) (oi := ⟨some 73, _, _, _, _, _⟩) (v := ?_) rfl (by kernel_rfl) (by kernel_rfl) (by kernel_rfl) (fun _ _ _ h => h) (Or.inl ⟨by rfl, by intro w hSw; go_simp; try rfl⟩) (by assumption) ?_
  try simp only [Act.put, List.setIfInBounds_toArray, List.set_cons_zero, List.set_cons_succ]
  refine wpAnyH_ready (rs := [44]) (by kernel_rfl) (by simp) ?_
  refine AllReadyH.cons (o := ⟨some 74, _, _, _, _, _⟩) rfl (fun K hK => ?_) AllReadyH.nil
  go_simp
  refine (known15_any w109).mono ?_
  rintro e w110 ⟨rfl, hb'⟩
  refine hK.out _ _ (hHeld.trans (hb'.mono hHeld.size)) (fun hHeld2 => ?_)
  clear hb'
  clear hK K hHeld
  have hHeld := hHeld2
  clear hHeld2
  try simp only [Act.put, List.setIfInBounds_toArray, List.set_cons_zero, List.set_cons_succ]
  refine wpAnyH_take (i := 45) (oi := ⟨some 75, _, _, _, _, _⟩) (v := ?_) rfl (by kernel_rfl) (by kernel_rfl) (by kernel_rfl) (fun _ _ _ h => h) (Or.inl ⟨by rfl, by intro w hSw; go_simp; try rfl⟩) (by assumption) ?_
  try simp only [Act.put, List.setIfInBounds_toArray, List.set_cons_zero, List.set_cons_succ]
  refine wpAnyH_take (i := 46) (oi := ⟨some 4, _, _, _, _, _⟩) (v := ?_) rfl (by kernel_rfl) (by kernel_rfl) (by kernel_rfl) (fun _ _ _ h => h) (Or.inl ⟨by rfl, by intro w hSw; go_simp; try rfl⟩) (by assumption) ?_
  try simp only [Act.put, List.setIfInBounds_toArray, List.set_cons_zero, List.set_cons_succ]
  refine wpAnyH_done (by kernel_rfl) ?_ _
  go_wp2
  go_ret
  exact ⟨rfl, HW.out.trans (hHeld.mono HW.out.size)⟩
end
end Go.Proofs.YtaedlaeflliibaaDoor
