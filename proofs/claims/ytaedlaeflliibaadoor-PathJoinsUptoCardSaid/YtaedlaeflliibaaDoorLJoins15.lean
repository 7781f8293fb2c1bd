/- The law PathJoins. -/
import Derived.Test.YtaedlaeflliibaaDoorLLast15
import Derived.Test.YtaedlaeflliibaaDoorPtY
import Derived.Test.YtaedlaeflliibaaDoorPtJ
import Derived.Deep.CutRange
namespace Go.Proofs.YtaedlaeflliibaaDoor
open Go.RowKit Go.Shelf Go.Deep

section
set_option maxRecDepth 100000
set_option maxHeartbeats 4000000
theorem law_pathJoins (b1 : Bool) (A1 : Option Addr) (n1 c1 : Nat) (l1 : List Nm) (b2 : Bool) (A2 : Option Addr) (n2 c2 : Nat) (l2 : List Nm) (b3 : Bool) (A3 : Option Addr) (n3 c3 : Nat) (l3 : List Nm) (w : World) (h1 : Ss w w.heap.size A1 n1 c1 l1) (k1 : longN l1 ≤ 1048576) (h2 : Ss w w.heap.size A2 n2 c2 l2) (k2 : longN l2 ≤ 1048576) (h3 : Ss w w.heap.size A3 n3 c3 l3) (k3 : longN l3 ≤ 1048576) :
    Calls Tryd.prog 7 #[.agg #[.bool b1, .slice A1 n1 c1], .agg #[.bool b2, .slice A2 n2 c2], .agg #[.bool b3, .slice A3 n3 c3]] w fun e w' => e = .returned (.bool true) ∧ Below w.heap.size w w' := by
  have hx3 := box_three w [.bool b1, .slice A1 n1 c1] [.bool b2, .slice A2 n2 c2] [.bool b3, .slice A3 n3 c3]
  obtain ⟨w1, hw1⟩ : ∃ w1, w1 = ((w.alloc (.cells #[.bool b1, .slice A1 n1 c1] 25)).alloc (.cells #[.bool b2, .slice A2 n2 c2] 25)).alloc (.cells #[.bool b3, .slice A3 n3 c3] 25) := ⟨_, rfl⟩
  have HX : Kp _ := ⟨hx3⟩
  rw [← hw1] at HX
  obtain ⟨GP, hGP⟩ : ∃ g, g = w.heap.size := ⟨_, rfl⟩
  obtain ⟨GQ, hGQ⟩ : ∃ g, g = w.heap.size + 1 := ⟨_, rfl⟩
  obtain ⟨GR, hGR⟩ : ∃ g, g = w.heap.size + 1 + 1 := ⟨_, rfl⟩
  have KP : Kp (Blk w1 GP 25 [.bool b1, .slice A1 n1 c1]) := ⟨by rw [hGP]; exact HX.out.1.1⟩
  have KQ : Kp (Blk w1 GQ 25 [.bool b2, .slice A2 n2 c2]) := ⟨by rw [hGQ]; exact HX.out.1.2⟩
  have KR : Kp (Blk w1 GR 25 [.bool b3, .slice A3 n3 c3]) := ⟨by rw [hGR]; exact HX.out.2.1⟩
  have HW : Kp (Below w.heap.size w w1) := ⟨HX.out.2.2⟩
  have S1 : Kp _ := ⟨h1.next HX.out.2.2 (Nat.le_refl _)⟩
  have S2 : Kp _ := ⟨h2.next HX.out.2.2 (Nat.le_refl _)⟩
  have S3 : Kp _ := ⟨h3.next HX.out.2.2 (Nat.le_refl _)⟩
  obtain ⟨N1, hN1⟩ : ∃ x, x = longN l1 := ⟨_, rfl⟩
  obtain ⟨N2, hN2⟩ : ∃ x, x = longN l2 := ⟨_, rfl⟩
  obtain ⟨N3, hN3⟩ : ∃ x, x = longN l3 := ⟨_, rfl⟩
  obtain ⟨N12, hN12'⟩ : ∃ x, x = N1 + N2 := ⟨_, rfl⟩
  obtain ⟨NS, hNS'⟩ : ∃ x, x = N12 + N3 := ⟨_, rfl⟩
  have HN1 : Kp (longN l1 = N1) := ⟨hN1.symm⟩
  have HN2 : Kp (longN l2 = N2) := ⟨hN2.symm⟩
  have HN3 : Kp (longN l3 = N3) := ⟨hN3.symm⟩
  have hN12 : (N1 : Int) + (N2 : Int) = (N12 : Int) := by omega
  have hN12w : IntKind.i64.wrap ((N1 : Int) + (N2 : Int)) = (N12 : Int) := by rw [hN12, IntKind.wrap_i64]; omega
  have hN12w2 : IntKind.i64.wrap (N12 : Int) = (N12 : Int) := by rw [IntKind.wrap_i64]; omega
  have hNS : (N12 : Int) + (N3 : Int) = (NS : Int) := by omega
  have hNSw : IntKind.i64.wrap ((N12 : Int) + (N3 : Int)) = (NS : Int) := by rw [hNS, IntKind.wrap_i64]; omega
  have hNSw2 : IntKind.i64.wrap (NS : Int) = (NS : Int) := by rw [IntKind.wrap_i64]; omega
  obtain ⟨FA, hFA⟩ : ∃ x, x = (b3 || (b2 || b1)) := ⟨_, rfl⟩
  have HFA : Kp ((b3 || (b2 || b1)) = FA) := ⟨hFA.symm⟩
  have HFB : Kp (((b3 || b2) || b1) = FA) := ⟨by rw [hFA, Bool.or_assoc]⟩
  obtain ⟨LA, hLA⟩ : ∃ x, x = joinL b3 (joinL b2 l1 l2) l3 := ⟨_, rfl⟩
  have HLA : Kp (joinL b3 (joinL b2 l1 l2) l3 = LA) := ⟨hLA.symm⟩
  have HLB : Kp (joinL (b3 || b2) l1 (joinL b3 l2 l3) = LA) := ⟨by rw [hLA, joinL_all]⟩
  clear hx3 HX h1 h2 h3 hN1 hN2 hN3 hNS' hN12' hFA hLA
  go_enter Tryd.func7, Tryd.ntmps7
  go_upto_region 1 with fail
  rw [← hw1, ← hGR, ← hGQ, show w.heap.size = GP from hGP.symm]
  clear hw1 hGR hGQ hGP
  have hN1 : ((longN l1 : Nat) : Int) = (N1 : Int) := by rw [HN1.out]
  have hN2 : ((longN l2 : Nat) : Int) = (N2 : Int) := by rw [HN2.out]
  have hN3 : ((longN l3 : Nat) : Int) = (N3 : Int) := by rw [HN3.out]
  have hSz : w1.heap.size ≤ w1.heap.size := Nat.le_refl _
  refine wp_region_held_drew (S := fun WW => Below w1.heap.size w1 WW) (by kernel_rfl) ((Below.refl _ _).drew) (fun hHeld => ?_)
  generalize w1.drew = wS at *
  refine wpAnyH_take (i := 0) (oi := ⟨some 11, _, _, _, _, _⟩) (v := _) rfl (by kernel_rfl) (by kernel_rfl) (by kernel_rfl) (fun _ _ _ h => h) (yieldsIf_ldP rfl _ rfl rfl b1 A1 n1 c1 (fun W h => KP.out.below h KP.out.lt)) (by assumption) ?_
  try simp only [Act.put, List.setIfInBounds_toArray, List.set_cons_zero, List.set_cons_succ]
  refine wpAnyH_take (i := 2) (oi := ⟨some 13, _, _, _, _, _⟩) (v := _) rfl (by kernel_rfl) (by kernel_rfl) (by kernel_rfl) (fun _ _ _ h => h) (yieldsIf_ldP rfl _ rfl rfl b2 A2 n2 c2 (fun W h => KQ.out.below h KQ.out.lt)) (by assumption) ?_
  try simp only [Act.put, List.setIfInBounds_toArray, List.set_cons_zero, List.set_cons_succ]
  refine wpAnyH_take (i := 5) (oi := ⟨some 16, _, _, _, _, _⟩) (v := _) rfl (by kernel_rfl) (by kernel_rfl) (by kernel_rfl) (fun _ _ _ h => h) (yieldsIf_ldP rfl _ rfl rfl b3 A3 n3 c3 (fun W h => KR.out.below h KR.out.lt)) (by assumption) ?_
  try simp only [Act.put, List.setIfInBounds_toArray, List.set_cons_zero, List.set_cons_succ]
  refine wpAnyH_ready (rs := [1]) (by kernel_rfl) (by simp) ?_
  refine AllReadyH.cons (o := ⟨some 12, _, _, _, _, _⟩) rfl (fun K hK => ?_) AllReadyH.nil
  go_simp
  refine (reflong_any b1 A1 n1 c1 l1 wS _ (S1.out.next hHeld (Nat.le_refl _)) (Nat.le_refl _) (by omega)).mono ?_
  rintro e w101 ⟨rfl, hb'⟩
  rw [hN1]
  refine hK.out _ _ (hHeld.trans (hb'.mono hHeld.size)) (fun hHeld2 => ?_)
  clear hb'
  clear hK K hHeld
  have hHeld := hHeld2
  clear hHeld2
  try simp only [Act.put, List.setIfInBounds_toArray, List.set_cons_zero, List.set_cons_succ]
  refine wpAnyH_ready (rs := [3]) (by kernel_rfl) (by simp) ?_
  refine AllReadyH.cons (o := ⟨some 14, _, _, _, _, _⟩) rfl (fun K hK => ?_) AllReadyH.nil
  go_simp
  refine (reflong_any b2 A2 n2 c2 l2 w101 _ (S2.out.next hHeld (Nat.le_refl _)) (Nat.le_refl _) (by omega)).mono ?_
  rintro e w102 ⟨rfl, hb'⟩
  rw [hN2]
  refine hK.out _ _ (hHeld.trans (hb'.mono hHeld.size)) (fun hHeld2 => ?_)
  clear hb'
  clear hK K hHeld
  have hHeld := hHeld2
  clear hHeld2
  try simp only [Act.put, List.setIfInBounds_toArray, List.set_cons_zero, List.set_cons_succ]
  refine wpAnyH_take (i := 4) (oi := ⟨some 15, _, _, _, _, _⟩) (v := ?_) rfl (by kernel_rfl) (by kernel_rfl) (by kernel_rfl) (fun _ _ _ h => h) (Or.inl ⟨by rfl, by intro w hSw; go_simp; try rfl⟩) (by assumption) ?_
  try simp only [Act.put, List.setIfInBounds_toArray, List.set_cons_zero, List.set_cons_succ]
  refine wpAnyH_ready (rs := [6]) (by kernel_rfl) (by simp) ?_
  refine AllReadyH.cons (o := ⟨some 17, _, _, _, _, _⟩) rfl (fun K hK => ?_) AllReadyH.nil
  go_simp
  refine (reflong_any b3 A3 n3 c3 l3 w102 _ (S3.out.next hHeld (Nat.le_refl _)) (Nat.le_refl _) (by omega)).mono ?_
  rintro e w103 ⟨rfl, hb'⟩
  rw [hN3]
  refine hK.out _ _ (hHeld.trans (hb'.mono hHeld.size)) (fun hHeld2 => ?_)
  clear hb'
  clear hK K hHeld
  have hHeld := hHeld2
  clear hHeld2
  try simp only [Act.put, List.setIfInBounds_toArray, List.set_cons_zero, List.set_cons_succ]
  refine wpAnyH_take (i := 7) (oi := ⟨some 18, _, _, _, _, _⟩) (v := ?_) rfl (by kernel_rfl) (by kernel_rfl) (by kernel_rfl) (fun _ _ _ h => h) (Or.inl ⟨by rfl, by intro w hSw; go_simp; try rfl⟩) (by assumption) ?_
  try simp only [Act.put, List.setIfInBounds_toArray, List.set_cons_zero, List.set_cons_succ]
  refine wpAnyH_take (i := 8) (oi := ⟨some 19, _, _, _, _, _⟩) (v := ?_) rfl (by kernel_rfl) (by kernel_rfl) (by kernel_rfl) (fun _ _ _ h => h) (Or.inl ⟨by rfl, by intro w hSw; go_simp; try rfl⟩) (by assumption) ?_
  try simp only [Act.put, List.setIfInBounds_toArray, List.set_cons_zero, List.set_cons_succ]
  refine wpAnyH_done (by kernel_rfl) ?_ _
  obtain ⟨w2, hEW⟩ : ∃ x, x = w103 := ⟨_, rfl⟩
  rw [← hEW] at hHeld ⊢
  clear hN1 hN2 hN3
  replace KP : Kp _ := ⟨KP.out.below hHeld KP.out.lt⟩
  replace KQ : Kp _ := ⟨KQ.out.below hHeld KQ.out.lt⟩
  replace KR : Kp _ := ⟨KR.out.below hHeld KR.out.lt⟩
  replace S1 : Kp _ := ⟨S1.out.next hHeld (Nat.le_refl _)⟩
  replace S2 : Kp _ := ⟨S2.out.next hHeld (Nat.le_refl _)⟩
  replace S3 : Kp _ := ⟨S3.out.next hHeld (Nat.le_refl _)⟩
  replace HW : Kp _ := ⟨HW.out.trans (hHeld.mono HW.out.size)⟩
  clear hHeld hEW
  by_cases hbig : 1000 < NS
  · have hb1 : (1000 : Int) < (NS : Int) := by omega
    go_wp2_with fail
    refine (known15_any _).mono ?_
    rintro e w3 ⟨rfl, hb'⟩
    replace HW : Kp _ := ⟨HW.out.trans (hb'.mono HW.out.size)⟩
    clear hb'
    go_wp2
    go_ret
    exact ⟨rfl, HW.out⟩
  have hb1 : ¬ (1000 : Int) < (NS : Int) := by omega
  have HC : Kp (l1.length + l2.length + l3.length ≤ 1000) := ⟨by have h1 := longN_count l1; have h2 := longN_count l2; have h3 := longN_count l3; have e1 := HN1.out; have e2 := HN2.out; have e3 := HN3.out; omega⟩
  have HL12 : Kp ((joinL b2 l1 l2).length ≤ 1000) := ⟨by have h := joinL_long b2 l1 l2; have := HC.out; omega⟩
  have HL23 : Kp ((joinL b3 l2 l3).length ≤ 1000) := ⟨by have h := joinL_long b3 l2 l3; have := HC.out; omega⟩
  clear hbig
  go_upto_region 3 with fail
  go_cut [7] from 19 to 25 (fun v7 wx => ∃ g A n c, v7 = .pointer (some ⟨g, 0, none⟩) ∧ Kp (Blk wx g 25 [.bool FA, .slice A n c]) ∧ Kp (Ss wx wx.heap.size A n c LA) ∧ Kp (Below w2.heap.size w2 wx))
  case first =>
    have hSz : w2.heap.size ≤ w2.heap.size := Nat.le_refl _
    refine wp_region_held_drew (S := fun WW => Below w2.heap.size w2 WW) (by kernel_rfl) ((Below.refl _ _).drew) (fun hHeld => ?_)
    generalize w2.drew = wS at *
    refine wpAnyH_take (i := 0) (oi := ⟨some 21, _, _, _, _, _⟩) (v := _) rfl (by kernel_rfl) (by kernel_rfl) (by kernel_rfl) (fun _ _ _ h => h) (yieldsIf_ldP rfl _ rfl rfl b1 A1 n1 c1 (fun W h => KP.out.below h KP.out.lt)) (by assumption) ?_
    try simp only [Act.put, List.setIfInBounds_toArray, List.set_cons_zero, List.set_cons_succ]
    refine wpAnyH_take (i := 1) (oi := ⟨some 22, _, _, _, _, _⟩) (v := _) rfl (by kernel_rfl) (by kernel_rfl) (by kernel_rfl) (fun _ _ _ h => h) (yieldsIf_ldP rfl _ rfl rfl b2 A2 n2 c2 (fun W h => KQ.out.below h KQ.out.lt)) (by assumption) ?_
    try simp only [Act.put, List.setIfInBounds_toArray, List.set_cons_zero, List.set_cons_succ]
    refine wpAnyH_take (i := 3) (oi := ⟨some 24, _, _, _, _, _⟩) (v := _) rfl (by kernel_rfl) (by kernel_rfl) (by kernel_rfl) (fun _ _ _ h => h) (yieldsIf_ldP rfl _ rfl rfl b3 A3 n3 c3 (fun W h => KR.out.below h KR.out.lt)) (by assumption) ?_
    try simp only [Act.put, List.setIfInBounds_toArray, List.set_cons_zero, List.set_cons_succ]
    refine wpAnyH_ready (rs := [2, 5]) (by kernel_rfl) (by simp) ?_
    refine AllReadyH.cons (o := ⟨some 23, _, _, _, _, _⟩) rfl (fun K hK => ?_) (AllReadyH.cons (o := ⟨some 7, _, _, _, _, _⟩) rfl (fun K hK => ?_) AllReadyH.nil)
    · go_simp
      refine (joinPt_any b1 b2 A1 A2 n1 c1 n2 c2 l1 l2 wS _ _ (S1.out.next hHeld (Nat.le_refl _)) (S2.out.next hHeld (Nat.le_refl _)) (Nat.le_refl _) (Nat.le_refl _) (by have := HC.out; have := S1.out.len; have := S2.out.len; omega)).mono ?_
      rintro e w101 ⟨A7, n7, c7, rfl, hs7, hb'⟩
      try replace SI : Kp _ := ⟨SI.out.next hb' (Nat.le_refl _)⟩
      try replace SO : Kp _ := ⟨SO.out.next hb' (Nat.le_refl _)⟩
      try replace KA : Kp _ := ⟨KA.out.below hb' KA.out.lt⟩
      have SI : Kp _ := ⟨hs7⟩
      clear hs7
      refine hK.out _ _ (hHeld.trans (hb'.mono hHeld.size)) (fun hHeld2 => ?_)
      clear hb'
      clear hK K hHeld
      have hHeld := hHeld2
      clear hHeld2
      try simp only [Act.put, List.setIfInBounds_toArray, List.set_cons_zero, List.set_cons_succ]
      refine wpAnyH_ready (rs := [4, 5]) (by kernel_rfl) (by simp) ?_
      refine AllReadyH.cons (o := ⟨some 25, _, _, _, _, _⟩) rfl (fun K hK => ?_) (AllReadyH.cons (o := ⟨some 7, _, _, _, _, _⟩) rfl (fun K hK => ?_) AllReadyH.nil)
      · go_simp
        refine (joinPt_as _ b3 _ A3 _ _ n3 c3 _ l3 w101 _ _ SI.out (S3.out.next hHeld (Nat.le_refl _)) (Nat.le_refl _) (Nat.le_refl _) (by have := HC.out; have := HL12.out; omega) FA HFA.out LA HLA.out).mono ?_
        rintro e w102 ⟨A8, n8, c8, rfl, hs8, hb'⟩
        try replace SI : Kp _ := ⟨SI.out.next hb' (Nat.le_refl _)⟩
        try replace SO : Kp _ := ⟨SO.out.next hb' (Nat.le_refl _)⟩
        try replace KA : Kp _ := ⟨KA.out.below hb' KA.out.lt⟩
        have SO : Kp _ := ⟨hs8⟩
        clear hs8
        refine hK.out _ _ (hHeld.trans (hb'.mono hHeld.size)) (fun hHeld2 => ?_)
        clear hb'
        clear hK K hHeld
        have hHeld := hHeld2
        clear hHeld2
        try simp only [Act.put, List.setIfInBounds_toArray, List.set_cons_zero, List.set_cons_succ]
        refine wpAnyH_ready (rs := [5]) (by kernel_rfl) (by simp) ?_
        refine AllReadyH.cons (o := ⟨some 7, _, _, _, _, _⟩) rfl (fun K hK => ?_) AllReadyH.nil
        refine step_alloc tyPt rfl rfl ?_
        intro w103 hk hb'
        obtain ⟨GA, hGA⟩ : ∃ g, g = w102.heap.size := ⟨_, rfl⟩
        have HGA : Kp (w2.heap.size ≤ GA) := ⟨by rw [hGA]; exact hHeld.size⟩
        try replace SI : Kp _ := ⟨SI.out.next hb' (Nat.le_refl _)⟩
        try replace SO : Kp _ := ⟨SO.out.next hb' (Nat.le_refl _)⟩
        have KA : Kp _ := ⟨hk⟩
        rw [← hGA] at KA ⊢
        refine hK.out _ _ (hHeld.trans (hb'.mono hHeld.size)) (fun hHeld2 => ?_)
        clear hb' hk hGA
        clear hK K hHeld
        have hHeld := hHeld2
        clear hHeld2
        try simp only [Act.put, List.setIfInBounds_toArray, List.set_cons_zero, List.set_cons_succ]
        refine wpAnyH_ready (rs := [6]) (by kernel_rfl) (by simp) ?_
        refine AllReadyH.cons (o := ⟨none, _, _, _, _, _⟩) rfl (fun K hK => ?_) AllReadyH.nil
        refine step_store rwPt rfl (.tmp 7) (.tmp 25) rfl rfl rfl KA.out rfl (Nat.le_refl 2) (one_pt _ _ _ _) ?_
        intro w104 hk9 ho9
        have KA9 : Kp (Blk w104 GA 25 [.bool FA, .slice A8 n8 c8]) := ⟨hk9⟩
        have SO9 : Kp (Ss w104 w104.heap.size A8 n8 c8 LA) := ⟨by rw [ho9.size]; exact SO.out.apart KA.out ho9⟩
        refine hK.out _ _ (hHeld.trans (ho9.below HGA.out)) (fun hHeld2 => ?_)
        clear hk9 ho9 KA SO
        clear hK K hHeld
        have hHeld := hHeld2
        clear hHeld2
        try simp only [Act.put]
        refine wpAnyH_done (by kernel_rfl) ?_ _
        go_wp2_with fail
        go_meet
        case rel => exact ⟨_, _, _, _, rfl, KA9, SO9, ⟨hHeld⟩⟩
      · refine step_alloc tyPt rfl rfl ?_
        intro w105 hk hb'
        obtain ⟨GA, hGA⟩ : ∃ g, g = w101.heap.size := ⟨_, rfl⟩
        have HGA : Kp (w2.heap.size ≤ GA) := ⟨by rw [hGA]; exact hHeld.size⟩
        try replace SI : Kp _ := ⟨SI.out.next hb' (Nat.le_refl _)⟩
        try replace SO : Kp _ := ⟨SO.out.next hb' (Nat.le_refl _)⟩
        have KA : Kp _ := ⟨hk⟩
        rw [← hGA] at KA ⊢
        refine hK.out _ _ (hHeld.trans (hb'.mono hHeld.size)) (fun hHeld2 => ?_)
        clear hb' hk hGA
        clear hK K hHeld
        have hHeld := hHeld2
        clear hHeld2
        try simp only [Act.put, List.setIfInBounds_toArray, List.set_cons_zero, List.set_cons_succ]
        refine wpAnyH_ready (rs := [4]) (by kernel_rfl) (by simp) ?_
        refine AllReadyH.cons (o := ⟨some 25, _, _, _, _, _⟩) rfl (fun K hK => ?_) AllReadyH.nil
        go_simp
        refine (joinPt_as _ b3 _ A3 _ _ n3 c3 _ l3 w105 _ _ SI.out (S3.out.next hHeld (Nat.le_refl _)) (Nat.le_refl _) (Nat.le_refl _) (by have := HC.out; have := HL12.out; omega) FA HFA.out LA HLA.out).mono ?_
        rintro e w106 ⟨A8, n8, c8, rfl, hs8, hb'⟩
        try replace SI : Kp _ := ⟨SI.out.next hb' (Nat.le_refl _)⟩
        try replace SO : Kp _ := ⟨SO.out.next hb' (Nat.le_refl _)⟩
        try replace KA : Kp _ := ⟨KA.out.below hb' KA.out.lt⟩
        have SO : Kp _ := ⟨hs8⟩
        clear hs8
        refine hK.out _ _ (hHeld.trans (hb'.mono hHeld.size)) (fun hHeld2 => ?_)
        clear hb'
        clear hK K hHeld
        have hHeld := hHeld2
        clear hHeld2
        try simp only [Act.put, List.setIfInBounds_toArray, List.set_cons_zero, List.set_cons_succ]
        refine wpAnyH_ready (rs := [6]) (by kernel_rfl) (by simp) ?_
        refine AllReadyH.cons (o := ⟨none, _, _, _, _, _⟩) rfl (fun K hK => ?_) AllReadyH.nil
        refine step_store rwPt rfl (.tmp 7) (.tmp 25) rfl rfl rfl KA.out rfl (Nat.le_refl 2) (one_pt _ _ _ _) ?_
        intro w107 hk9 ho9
        have KA9 : Kp (Blk w107 GA 25 [.bool FA, .slice A8 n8 c8]) := ⟨hk9⟩
        have SO9 : Kp (Ss w107 w107.heap.size A8 n8 c8 LA) := ⟨by rw [ho9.size]; exact SO.out.apart KA.out ho9⟩
        refine hK.out _ _ (hHeld.trans (ho9.below HGA.out)) (fun hHeld2 => ?_)
        clear hk9 ho9 KA SO
        clear hK K hHeld
        have hHeld := hHeld2
        clear hHeld2
        try simp only [Act.put]
        refine wpAnyH_done (by kernel_rfl) ?_ _
        go_wp2_with fail
        go_meet
        case rel => exact ⟨_, _, _, _, rfl, KA9, SO9, ⟨hHeld⟩⟩
    · refine step_alloc tyPt rfl rfl ?_
      intro w108 hk hb'
      obtain ⟨GA, hGA⟩ : ∃ g, g = wS.heap.size := ⟨_, rfl⟩
      have HGA : Kp (w2.heap.size ≤ GA) := ⟨by rw [hGA]; exact hHeld.size⟩
      try replace SI : Kp _ := ⟨SI.out.next hb' (Nat.le_refl _)⟩
      try replace SO : Kp _ := ⟨SO.out.next hb' (Nat.le_refl _)⟩
      have KA : Kp _ := ⟨hk⟩
      rw [← hGA] at KA ⊢
      refine hK.out _ _ (hHeld.trans (hb'.mono hHeld.size)) (fun hHeld2 => ?_)
      clear hb' hk hGA
      clear hK K hHeld
      have hHeld := hHeld2
      clear hHeld2
      try simp only [Act.put, List.setIfInBounds_toArray, List.set_cons_zero, List.set_cons_succ]
      refine wpAnyH_ready (rs := [2]) (by kernel_rfl) (by simp) ?_
      refine AllReadyH.cons (o := ⟨some 23, _, _, _, _, _⟩) rfl (fun K hK => ?_) AllReadyH.nil
      go_simp
      refine (joinPt_any b1 b2 A1 A2 n1 c1 n2 c2 l1 l2 w108 _ _ (S1.out.next hHeld (Nat.le_refl _)) (S2.out.next hHeld (Nat.le_refl _)) (Nat.le_refl _) (Nat.le_refl _) (by have := HC.out; have := S1.out.len; have := S2.out.len; omega)).mono ?_
      rintro e w109 ⟨A7, n7, c7, rfl, hs7, hb'⟩
      try replace SI : Kp _ := ⟨SI.out.next hb' (Nat.le_refl _)⟩
      try replace SO : Kp _ := ⟨SO.out.next hb' (Nat.le_refl _)⟩
      try replace KA : Kp _ := ⟨KA.out.below hb' KA.out.lt⟩
      have SI : Kp _ := ⟨hs7⟩
      clear hs7
      refine hK.out _ _ (hHeld.trans (hb'.mono hHeld.size)) (fun hHeld2 => ?_)
      clear hb'
      clear hK K hHeld
      have hHeld := hHeld2
      clear hHeld2
      try simp only [Act.put, List.setIfInBounds_toArray, List.set_cons_zero, List.set_cons_succ]
      refine wpAnyH_ready (rs := [4]) (by kernel_rfl) (by simp) ?_
      refine AllReadyH.cons (o := ⟨some 25, _, _, _, _, _⟩) rfl (fun K hK => ?_) AllReadyH.nil
      go_simp
      refine (joinPt_as _ b3 _ A3 _ _ n3 c3 _ l3 w109 _ _ SI.out (S3.out.next hHeld (Nat.le_refl _)) (Nat.le_refl _) (Nat.le_refl _) (by have := HC.out; have := HL12.out; omega) FA HFA.out LA HLA.out).mono ?_
      rintro e w110 ⟨A8, n8, c8, rfl, hs8, hb'⟩
      try replace SI : Kp _ := ⟨SI.out.next hb' (Nat.le_refl _)⟩
      try replace SO : Kp _ := ⟨SO.out.next hb' (Nat.le_refl _)⟩
      try replace KA : Kp _ := ⟨KA.out.below hb' KA.out.lt⟩
      have SO : Kp _ := ⟨hs8⟩
      clear hs8
      refine hK.out _ _ (hHeld.trans (hb'.mono hHeld.size)) (fun hHeld2 => ?_)
      clear hb'
      clear hK K hHeld
      have hHeld := hHeld2
      clear hHeld2
      try simp only [Act.put, List.setIfInBounds_toArray, List.set_cons_zero, List.set_cons_succ]
      refine wpAnyH_ready (rs := [6]) (by kernel_rfl) (by simp) ?_
      refine AllReadyH.cons (o := ⟨none, _, _, _, _, _⟩) rfl (fun K hK => ?_) AllReadyH.nil
      refine step_store rwPt rfl (.tmp 7) (.tmp 25) rfl rfl rfl KA.out rfl (Nat.le_refl 2) (one_pt _ _ _ _) ?_
      intro w111 hk9 ho9
      have KA9 : Kp (Blk w111 GA 25 [.bool FA, .slice A8 n8 c8]) := ⟨hk9⟩
      have SO9 : Kp (Ss w111 w111.heap.size A8 n8 c8 LA) := ⟨by rw [ho9.size]; exact SO.out.apart KA.out ho9⟩
      refine hK.out _ _ (hHeld.trans (ho9.below HGA.out)) (fun hHeld2 => ?_)
      clear hk9 ho9 KA SO
      clear hK K hHeld
      have hHeld := hHeld2
      clear hHeld2
      try simp only [Act.put]
      refine wpAnyH_done (by kernel_rfl) ?_ _
      go_wp2_with fail
      go_meet
      case rel => exact ⟨_, _, _, _, rfl, KA9, SO9, ⟨hHeld⟩⟩
  case rest =>
    obtain ⟨GA, AA, nA, cA, rfl, KA, SA, hcB⟩ := hcut
    have hcB2 := hcB.out
    replace KP : Kp _ := ⟨KP.out.below hcB2 KP.out.lt⟩
    replace KQ : Kp _ := ⟨KQ.out.below hcB2 KQ.out.lt⟩
    replace KR : Kp _ := ⟨KR.out.below hcB2 KR.out.lt⟩
    replace S1 : Kp _ := ⟨S1.out.next hcB2 (Nat.le_refl _)⟩
    replace S2 : Kp _ := ⟨S2.out.next hcB2 (Nat.le_refl _)⟩
    replace S3 : Kp _ := ⟨S3.out.next hcB2 (Nat.le_refl _)⟩
    replace HW : Kp _ := ⟨HW.out.trans (hcB2.mono HW.out.size)⟩
    clear hcB hcB2
    generalize wc = w3 at *
    go_upto_region 4 with fail
    go_cut [8] from 26 to 30 (fun v8 wx => ∃ g A n c, v8 = .pointer (some ⟨g, 0, none⟩) ∧ Kp (Blk wx g 25 [.bool FA, .slice A n c]) ∧ Kp (Ss wx wx.heap.size A n c LA) ∧ Kp (Below w3.heap.size w3 wx))
    case first =>
      have hSz : w3.heap.size ≤ w3.heap.size := Nat.le_refl _
      refine wp_region_held_drew (S := fun WW => Below w3.heap.size w3 WW) (by kernel_rfl) ((Below.refl _ _).drew) (fun hHeld => ?_)
      generalize w3.drew = wS at *
      refine wpAnyH_take (i := 0) (oi := ⟨some 26, _, _, _, _, _⟩) (v := _) rfl (by kernel_rfl) (by kernel_rfl) (by kernel_rfl) (fun _ _ _ h => h) (yieldsIf_ldP rfl _ rfl rfl b1 A1 n1 c1 (fun W h => KP.out.below h KP.out.lt)) (by assumption) ?_
      try simp only [Act.put, List.setIfInBounds_toArray, List.set_cons_zero, List.set_cons_succ]
      refine wpAnyH_take (i := 1) (oi := ⟨some 27, _, _, _, _, _⟩) (v := _) rfl (by kernel_rfl) (by kernel_rfl) (by kernel_rfl) (fun _ _ _ h => h) (yieldsIf_ldP rfl _ rfl rfl b2 A2 n2 c2 (fun W h => KQ.out.below h KQ.out.lt)) (by assumption) ?_
      try simp only [Act.put, List.setIfInBounds_toArray, List.set_cons_zero, List.set_cons_succ]
      refine wpAnyH_take (i := 2) (oi := ⟨some 28, _, _, _, _, _⟩) (v := _) rfl (by kernel_rfl) (by kernel_rfl) (by kernel_rfl) (fun _ _ _ h => h) (yieldsIf_ldP rfl _ rfl rfl b3 A3 n3 c3 (fun W h => KR.out.below h KR.out.lt)) (by assumption) ?_
      try simp only [Act.put, List.setIfInBounds_toArray, List.set_cons_zero, List.set_cons_succ]
      refine wpAnyH_ready (rs := [3, 5]) (by kernel_rfl) (by simp) ?_
      refine AllReadyH.cons (o := ⟨some 29, _, _, _, _, _⟩) rfl (fun K hK => ?_) (AllReadyH.cons (o := ⟨some 8, _, _, _, _, _⟩) rfl (fun K hK => ?_) AllReadyH.nil)
      · go_simp
        refine (joinPt_any b2 b3 A2 A3 n2 c2 n3 c3 l2 l3 wS _ _ (S2.out.next hHeld (Nat.le_refl _)) (S3.out.next hHeld (Nat.le_refl _)) (Nat.le_refl _) (Nat.le_refl _) (by have := HC.out; have := S2.out.len; have := S3.out.len; omega)).mono ?_
        rintro e w101 ⟨A7, n7, c7, rfl, hs7, hb'⟩
        try replace SI : Kp _ := ⟨SI.out.next hb' (Nat.le_refl _)⟩
        try replace SO : Kp _ := ⟨SO.out.next hb' (Nat.le_refl _)⟩
        try replace KA : Kp _ := ⟨KA.out.below hb' KA.out.lt⟩
        have SI : Kp _ := ⟨hs7⟩
        clear hs7
        refine hK.out _ _ (hHeld.trans (hb'.mono hHeld.size)) (fun hHeld2 => ?_)
        clear hb'
        clear hK K hHeld
        have hHeld := hHeld2
        clear hHeld2
        try simp only [Act.put, List.setIfInBounds_toArray, List.set_cons_zero, List.set_cons_succ]
        refine wpAnyH_ready (rs := [4, 5]) (by kernel_rfl) (by simp) ?_
        refine AllReadyH.cons (o := ⟨some 30, _, _, _, _, _⟩) rfl (fun K hK => ?_) (AllReadyH.cons (o := ⟨some 8, _, _, _, _, _⟩) rfl (fun K hK => ?_) AllReadyH.nil)
        · go_simp
          refine (joinPt_as b1 _ A1 _ n1 c1 _ _ l1 _ w101 _ _ (S1.out.next hHeld (Nat.le_refl _)) SI.out (Nat.le_refl _) (Nat.le_refl _) (by have := HC.out; have := HL23.out; omega) FA HFB.out LA HLB.out).mono ?_
          rintro e w102 ⟨A8, n8, c8, rfl, hs8, hb'⟩
          try replace SI : Kp _ := ⟨SI.out.next hb' (Nat.le_refl _)⟩
          try replace SO : Kp _ := ⟨SO.out.next hb' (Nat.le_refl _)⟩
          try replace KA : Kp _ := ⟨KA.out.below hb' KA.out.lt⟩
          have SO : Kp _ := ⟨hs8⟩
          clear hs8
          refine hK.out _ _ (hHeld.trans (hb'.mono hHeld.size)) (fun hHeld2 => ?_)
          clear hb'
          clear hK K hHeld
          have hHeld := hHeld2
          clear hHeld2
          try simp only [Act.put, List.setIfInBounds_toArray, List.set_cons_zero, List.set_cons_succ]
          refine wpAnyH_ready (rs := [5]) (by kernel_rfl) (by simp) ?_
          refine AllReadyH.cons (o := ⟨some 8, _, _, _, _, _⟩) rfl (fun K hK => ?_) AllReadyH.nil
          refine step_alloc tyPt rfl rfl ?_
          intro w103 hk hb'
          obtain ⟨GA, hGA⟩ : ∃ g, g = w102.heap.size := ⟨_, rfl⟩
          have HGA : Kp (w3.heap.size ≤ GA) := ⟨by rw [hGA]; exact hHeld.size⟩
          try replace SI : Kp _ := ⟨SI.out.next hb' (Nat.le_refl _)⟩
          try replace SO : Kp _ := ⟨SO.out.next hb' (Nat.le_refl _)⟩
          have KA : Kp _ := ⟨hk⟩
          rw [← hGA] at KA ⊢
          refine hK.out _ _ (hHeld.trans (hb'.mono hHeld.size)) (fun hHeld2 => ?_)
          clear hb' hk hGA
          clear hK K hHeld
          have hHeld := hHeld2
          clear hHeld2
          try simp only [Act.put, List.setIfInBounds_toArray, List.set_cons_zero, List.set_cons_succ]
          refine wpAnyH_ready (rs := [6]) (by kernel_rfl) (by simp) ?_
          refine AllReadyH.cons (o := ⟨none, _, _, _, _, _⟩) rfl (fun K hK => ?_) AllReadyH.nil
          refine step_store rwPt rfl (.tmp 8) (.tmp 30) rfl rfl rfl KA.out rfl (Nat.le_refl 2) (one_pt _ _ _ _) ?_
          intro w104 hk9 ho9
          have KA9 : Kp (Blk w104 GA 25 [.bool FA, .slice A8 n8 c8]) := ⟨hk9⟩
          have SO9 : Kp (Ss w104 w104.heap.size A8 n8 c8 LA) := ⟨by rw [ho9.size]; exact SO.out.apart KA.out ho9⟩
          refine hK.out _ _ (hHeld.trans (ho9.below HGA.out)) (fun hHeld2 => ?_)
          clear hk9 ho9 KA SO
          clear hK K hHeld
          have hHeld := hHeld2
          clear hHeld2
          try simp only [Act.put]
          refine wpAnyH_done (by kernel_rfl) ?_ _
          go_wp2_with fail
          go_meet
          case rel => exact ⟨_, _, _, _, rfl, KA9, SO9, ⟨hHeld⟩⟩
        · refine step_alloc tyPt rfl rfl ?_
          intro w105 hk hb'
          obtain ⟨GA, hGA⟩ : ∃ g, g = w101.heap.size := ⟨_, rfl⟩
          have HGA : Kp (w3.heap.size ≤ GA) := ⟨by rw [hGA]; exact hHeld.size⟩
          try replace SI : Kp _ := ⟨SI.out.next hb' (Nat.le_refl _)⟩
          try replace SO : Kp _ := ⟨SO.out.next hb' (Nat.le_refl _)⟩
          have KA : Kp _ := ⟨hk⟩
          rw [← hGA] at KA ⊢
          refine hK.out _ _ (hHeld.trans (hb'.mono hHeld.size)) (fun hHeld2 => ?_)
          clear hb' hk hGA
          clear hK K hHeld
          have hHeld := hHeld2
          clear hHeld2
          try simp only [Act.put, List.setIfInBounds_toArray, List.set_cons_zero, List.set_cons_succ]
          refine wpAnyH_ready (rs := [4]) (by kernel_rfl) (by simp) ?_
          refine AllReadyH.cons (o := ⟨some 30, _, _, _, _, _⟩) rfl (fun K hK => ?_) AllReadyH.nil
          go_simp
          refine (joinPt_as b1 _ A1 _ n1 c1 _ _ l1 _ w105 _ _ (S1.out.next hHeld (Nat.le_refl _)) SI.out (Nat.le_refl _) (Nat.le_refl _) (by have := HC.out; have := HL23.out; omega) FA HFB.out LA HLB.out).mono ?_
          rintro e w106 ⟨A8, n8, c8, rfl, hs8, hb'⟩
          try replace SI : Kp _ := ⟨SI.out.next hb' (Nat.le_refl _)⟩
          try replace SO : Kp _ := ⟨SO.out.next hb' (Nat.le_refl _)⟩
          try replace KA : Kp _ := ⟨KA.out.below hb' KA.out.lt⟩
          have SO : Kp _ := ⟨hs8⟩
          clear hs8
          refine hK.out _ _ (hHeld.trans (hb'.mono hHeld.size)) (fun hHeld2 => ?_)
          clear hb'
          clear hK K hHeld
          have hHeld := hHeld2
          clear hHeld2
          try simp only [Act.put, List.setIfInBounds_toArray, List.set_cons_zero, List.set_cons_succ]
          refine wpAnyH_ready (rs := [6]) (by kernel_rfl) (by simp) ?_
          refine AllReadyH.cons (o := ⟨none, _, _, _, _, _⟩) rfl (fun K hK => ?_) AllReadyH.nil
          refine step_store rwPt rfl (.tmp 8) (.tmp 30) rfl rfl rfl KA.out rfl (Nat.le_refl 2) (one_pt _ _ _ _) ?_
          intro w107 hk9 ho9
          have KA9 : Kp (Blk w107 GA 25 [.bool FA, .slice A8 n8 c8]) := ⟨hk9⟩
          have SO9 : Kp (Ss w107 w107.heap.size A8 n8 c8 LA) := ⟨by rw [ho9.size]; exact SO.out.apart KA.out ho9⟩
          refine hK.out _ _ (hHeld.trans (ho9.below HGA.out)) (fun hHeld2 => ?_)
          clear hk9 ho9 KA SO
          clear hK K hHeld
          have hHeld := hHeld2
          clear hHeld2
          try simp only [Act.put]
          refine wpAnyH_done (by kernel_rfl) ?_ _
          go_wp2_with fail
          go_meet
          case rel => exact ⟨_, _, _, _, rfl, KA9, SO9, ⟨hHeld⟩⟩
      · refine step_alloc tyPt rfl rfl ?_
        intro w108 hk hb'
        obtain ⟨GA, hGA⟩ : ∃ g, g = wS.heap.size := ⟨_, rfl⟩
        have HGA : Kp (w3.heap.size ≤ GA) := ⟨by rw [hGA]; exact hHeld.size⟩
        try replace SI : Kp _ := ⟨SI.out.next hb' (Nat.le_refl _)⟩
        try replace SO : Kp _ := ⟨SO.out.next hb' (Nat.le_refl _)⟩
        have KA : Kp _ := ⟨hk⟩
        rw [← hGA] at KA ⊢
        refine hK.out _ _ (hHeld.trans (hb'.mono hHeld.size)) (fun hHeld2 => ?_)
        clear hb' hk hGA
        clear hK K hHeld
        have hHeld := hHeld2
        clear hHeld2
        try simp only [Act.put, List.setIfInBounds_toArray, List.set_cons_zero, List.set_cons_succ]
        refine wpAnyH_ready (rs := [3]) (by kernel_rfl) (by simp) ?_
        refine AllReadyH.cons (o := ⟨some 29, _, _, _, _, _⟩) rfl (fun K hK => ?_) AllReadyH.nil
        go_simp
        refine (joinPt_any b2 b3 A2 A3 n2 c2 n3 c3 l2 l3 w108 _ _ (S2.out.next hHeld (Nat.le_refl _)) (S3.out.next hHeld (Nat.le_refl _)) (Nat.le_refl _) (Nat.le_refl _) (by have := HC.out; have := S2.out.len; have := S3.out.len; omega)).mono ?_
        rintro e w109 ⟨A7, n7, c7, rfl, hs7, hb'⟩
        try replace SI : Kp _ := ⟨SI.out.next hb' (Nat.le_refl _)⟩
        try replace SO : Kp _ := ⟨SO.out.next hb' (Nat.le_refl _)⟩
        try replace KA : Kp _ := ⟨KA.out.below hb' KA.out.lt⟩
        have SI : Kp _ := ⟨hs7⟩
        clear hs7
        refine hK.out _ _ (hHeld.trans (hb'.mono hHeld.size)) (fun hHeld2 => ?_)
        clear hb'
        clear hK K hHeld
        have hHeld := hHeld2
        clear hHeld2
        try simp only [Act.put, List.setIfInBounds_toArray, List.set_cons_zero, List.set_cons_succ]
        refine wpAnyH_ready (rs := [4]) (by kernel_rfl) (by simp) ?_
        refine AllReadyH.cons (o := ⟨some 30, _, _, _, _, _⟩) rfl (fun K hK => ?_) AllReadyH.nil
        go_simp
        refine (joinPt_as b1 _ A1 _ n1 c1 _ _ l1 _ w109 _ _ (S1.out.next hHeld (Nat.le_refl _)) SI.out (Nat.le_refl _) (Nat.le_refl _) (by have := HC.out; have := HL23.out; omega) FA HFB.out LA HLB.out).mono ?_
        rintro e w110 ⟨A8, n8, c8, rfl, hs8, hb'⟩
        try replace SI : Kp _ := ⟨SI.out.next hb' (Nat.le_refl _)⟩
        try replace SO : Kp _ := ⟨SO.out.next hb' (Nat.le_refl _)⟩
        try replace KA : Kp _ := ⟨KA.out.below hb' KA.out.lt⟩
        have SO : Kp _ := ⟨hs8⟩
        clear hs8
        refine hK.out _ _ (hHeld.trans (hb'.mono hHeld.size)) (fun hHeld2 => ?_)
        clear hb'
        clear hK K hHeld
        have hHeld := hHeld2
        clear hHeld2
        try simp only [Act.put, List.setIfInBounds_toArray, List.set_cons_zero, List.set_cons_succ]
        refine wpAnyH_ready (rs := [6]) (by kernel_rfl) (by simp) ?_
        refine AllReadyH.cons (o := ⟨none, _, _, _, _, _⟩) rfl (fun K hK => ?_) AllReadyH.nil
        refine step_store rwPt rfl (.tmp 8) (.tmp 30) rfl rfl rfl KA.out rfl (Nat.le_refl 2) (one_pt _ _ _ _) ?_
        intro w111 hk9 ho9
        have KA9 : Kp (Blk w111 GA 25 [.bool FA, .slice A8 n8 c8]) := ⟨hk9⟩
        have SO9 : Kp (Ss w111 w111.heap.size A8 n8 c8 LA) := ⟨by rw [ho9.size]; exact SO.out.apart KA.out ho9⟩
        refine hK.out _ _ (hHeld.trans (ho9.below HGA.out)) (fun hHeld2 => ?_)
        clear hk9 ho9 KA SO
        clear hK K hHeld
        have hHeld := hHeld2
        clear hHeld2
        try simp only [Act.put]
        refine wpAnyH_done (by kernel_rfl) ?_ _
        go_wp2_with fail
        go_meet
        case rel => exact ⟨_, _, _, _, rfl, KA9, SO9, ⟨hHeld⟩⟩
    case rest =>
      obtain ⟨GB, AB, nB, cB, rfl, KB, SB, hcB⟩ := hcut
      have hcB2 := hcB.out
      replace KP : Kp _ := ⟨KP.out.below hcB2 KP.out.lt⟩
      replace KQ : Kp _ := ⟨KQ.out.below hcB2 KQ.out.lt⟩
      replace KR : Kp _ := ⟨KR.out.below hcB2 KR.out.lt⟩
      replace KA : Kp _ := ⟨KA.out.below hcB2 KA.out.lt⟩
      replace S1 : Kp _ := ⟨S1.out.next hcB2 (Nat.le_refl _)⟩
      replace S2 : Kp _ := ⟨S2.out.next hcB2 (Nat.le_refl _)⟩
      replace S3 : Kp _ := ⟨S3.out.next hcB2 (Nat.le_refl _)⟩
      replace SA : Kp _ := ⟨SA.out.next hcB2 (Nat.le_refl _)⟩
      replace HW : Kp _ := ⟨HW.out.trans (hcB2.mono HW.out.size)⟩
      clear hcB hcB2
      generalize wc = w4 at *
      have cKP0 : w4.cell? ⟨GP, 0, none⟩ = some (.bool b1) := KP.out.cell? 0
      have cKP1 : w4.cell? ⟨GP, 1, none⟩ = some (.slice A1 n1 c1) := KP.out.cell? 1
      go_wp2_with fail
      refine (joinPt_as b1 false A1 none n1 c1 0 0 l1 [] _ _ 0 S1.out (Ss.zero _ _) (Nat.le_refl _) (Nat.zero_le _) (by have := HC.out; simp; omega) b1 rfl l1 (joinL_nil _)).mono ?_
      rintro e w5 ⟨AC, nC, cC, rfl, hsC, hb'⟩
      replace KP : Kp _ := ⟨KP.out.below hb' KP.out.lt⟩
      replace KQ : Kp _ := ⟨KQ.out.below hb' KQ.out.lt⟩
      replace KR : Kp _ := ⟨KR.out.below hb' KR.out.lt⟩
      replace KA : Kp _ := ⟨KA.out.below hb' KA.out.lt⟩
      replace KB : Kp _ := ⟨KB.out.below hb' KB.out.lt⟩
      replace S1 : Kp _ := ⟨S1.out.next hb' (Nat.le_refl _)⟩
      replace S2 : Kp _ := ⟨S2.out.next hb' (Nat.le_refl _)⟩
      replace S3 : Kp _ := ⟨S3.out.next hb' (Nat.le_refl _)⟩
      replace SA : Kp _ := ⟨SA.out.next hb' (Nat.le_refl _)⟩
      replace SB : Kp _ := ⟨SB.out.next hb' (Nat.le_refl _)⟩
      replace HW : Kp _ := ⟨HW.out.trans (hb'.mono HW.out.size)⟩
      have SC : Kp _ := ⟨hsC⟩
      clear hsC
      clear hb'
      clear cKP0 cKP1
      have cKP0 : w5.cell? ⟨GP, 0, none⟩ = some (.bool b1) := KP.out.cell? 0
      have cKP1 : w5.cell? ⟨GP, 1, none⟩ = some (.slice A1 n1 c1) := KP.out.cell? 1
      go_upto_region 6 with fail
      have hbx : Below w5.heap.size w5 (w5.alloc (.cells #[.bool b1, .slice AC nC cC] 25)) := (Below.refl _ _).alloc (Nat.le_refl _) _
      have KC : Kp _ := ⟨Blk.new w5 25 [.bool b1, .slice AC nC cC]⟩
      obtain ⟨w6, hw6⟩ : ∃ x, x = w5.alloc (.cells #[.bool b1, .slice AC nC cC] 25) := ⟨_, rfl⟩
      rw [← hw6] at hbx KC ⊢
      replace KP : Kp _ := ⟨KP.out.below hbx KP.out.lt⟩
      replace KQ : Kp _ := ⟨KQ.out.below hbx KQ.out.lt⟩
      replace KR : Kp _ := ⟨KR.out.below hbx KR.out.lt⟩
      replace KA : Kp _ := ⟨KA.out.below hbx KA.out.lt⟩
      replace KB : Kp _ := ⟨KB.out.below hbx KB.out.lt⟩
      replace S1 : Kp _ := ⟨S1.out.next hbx (Nat.le_refl _)⟩
      replace S2 : Kp _ := ⟨S2.out.next hbx (Nat.le_refl _)⟩
      replace S3 : Kp _ := ⟨S3.out.next hbx (Nat.le_refl _)⟩
      replace SA : Kp _ := ⟨SA.out.next hbx (Nat.le_refl _)⟩
      replace SB : Kp _ := ⟨SB.out.next hbx (Nat.le_refl _)⟩
      replace SC : Kp _ := ⟨SC.out.next hbx (Nat.le_refl _)⟩
      replace HW : Kp _ := ⟨HW.out.trans (hbx.mono HW.out.size)⟩
      obtain ⟨GC, hG⟩ : ∃ g, g = w5.heap.size := ⟨_, rfl⟩
      rw [← hG] at KC ⊢
      clear hG hbx hw6
      clear cKP0 cKP1
      have cKP0 : w6.cell? ⟨GP, 0, none⟩ = some (.bool b1) := KP.out.cell? 0
      have cKP1 : w6.cell? ⟨GP, 1, none⟩ = some (.slice A1 n1 c1) := KP.out.cell? 1
      go_wp2_with fail
      refine (joinPt_as false b1 none A1 0 0 n1 c1 [] l1 _ 0 _ (Ss.zero _ _) S1.out (Nat.zero_le _) (Nat.le_refl _) (by have := HC.out; simp; omega) b1 (Bool.or_false _) l1 (joinL_top _ _)).mono ?_
      rintro e w7 ⟨AD, nD, cD, rfl, hsD, hb'⟩
      replace KP : Kp _ := ⟨KP.out.below hb' KP.out.lt⟩
      replace KQ : Kp _ := ⟨KQ.out.below hb' KQ.out.lt⟩
      replace KR : Kp _ := ⟨KR.out.below hb' KR.out.lt⟩
      replace KA : Kp _ := ⟨KA.out.below hb' KA.out.lt⟩
      replace KB : Kp _ := ⟨KB.out.below hb' KB.out.lt⟩
      replace KC : Kp _ := ⟨KC.out.below hb' KC.out.lt⟩
      replace S1 : Kp _ := ⟨S1.out.next hb' (Nat.le_refl _)⟩
      replace S2 : Kp _ := ⟨S2.out.next hb' (Nat.le_refl _)⟩
      replace S3 : Kp _ := ⟨S3.out.next hb' (Nat.le_refl _)⟩
      replace SA : Kp _ := ⟨SA.out.next hb' (Nat.le_refl _)⟩
      replace SB : Kp _ := ⟨SB.out.next hb' (Nat.le_refl _)⟩
      replace SC : Kp _ := ⟨SC.out.next hb' (Nat.le_refl _)⟩
      replace HW : Kp _ := ⟨HW.out.trans (hb'.mono HW.out.size)⟩
      have SD : Kp _ := ⟨hsD⟩
      clear hsD
      clear hb'
      clear cKP0 cKP1
      have cKP0 : w7.cell? ⟨GP, 0, none⟩ = some (.bool b1) := KP.out.cell? 0
      have cKP1 : w7.cell? ⟨GP, 1, none⟩ = some (.slice A1 n1 c1) := KP.out.cell? 1
      go_upto_region 7 with fail
      have hbx : Below w7.heap.size w7 (w7.alloc (.cells #[.bool b1, .slice AD nD cD] 25)) := (Below.refl _ _).alloc (Nat.le_refl _) _
      have KD : Kp _ := ⟨Blk.new w7 25 [.bool b1, .slice AD nD cD]⟩
      obtain ⟨w8, hw8⟩ : ∃ x, x = w7.alloc (.cells #[.bool b1, .slice AD nD cD] 25) := ⟨_, rfl⟩
      rw [← hw8] at hbx KD ⊢
      replace KP : Kp _ := ⟨KP.out.below hbx KP.out.lt⟩
      replace KQ : Kp _ := ⟨KQ.out.below hbx KQ.out.lt⟩
      replace KR : Kp _ := ⟨KR.out.below hbx KR.out.lt⟩
      replace KA : Kp _ := ⟨KA.out.below hbx KA.out.lt⟩
      replace KB : Kp _ := ⟨KB.out.below hbx KB.out.lt⟩
      replace KC : Kp _ := ⟨KC.out.below hbx KC.out.lt⟩
      replace S1 : Kp _ := ⟨S1.out.next hbx (Nat.le_refl _)⟩
      replace S2 : Kp _ := ⟨S2.out.next hbx (Nat.le_refl _)⟩
      replace S3 : Kp _ := ⟨S3.out.next hbx (Nat.le_refl _)⟩
      replace SA : Kp _ := ⟨SA.out.next hbx (Nat.le_refl _)⟩
      replace SB : Kp _ := ⟨SB.out.next hbx (Nat.le_refl _)⟩
      replace SC : Kp _ := ⟨SC.out.next hbx (Nat.le_refl _)⟩
      replace SD : Kp _ := ⟨SD.out.next hbx (Nat.le_refl _)⟩
      replace HW : Kp _ := ⟨HW.out.trans (hbx.mono HW.out.size)⟩
      obtain ⟨GD, hG⟩ : ∃ g, g = w7.heap.size := ⟨_, rfl⟩
      rw [← hG] at KD ⊢
      clear hG hbx hw8
      clear cKP0 cKP1
      have hSz : w8.heap.size ≤ w8.heap.size := Nat.le_refl _
      refine wp_region_held_drew (S := fun WW => Below w8.heap.size w8 WW) (by kernel_rfl) ((Below.refl _ _).drew) (fun hHeld => ?_)
      generalize w8.drew = wS at *
      refine wpAnyH_take (i := 0) (oi := ⟨some 37, _, _, _, _, _⟩) (v := _) rfl (by kernel_rfl) (by kernel_rfl) (by kernel_rfl) (fun _ _ _ h => h) (yieldsIf_ldP rfl _ rfl rfl FA AA nA cA (fun W h => KA.out.below h KA.out.lt)) (by assumption) ?_
      try simp only [Act.put, List.setIfInBounds_toArray, List.set_cons_zero, List.set_cons_succ]
      refine wpAnyH_take (i := 1) (oi := ⟨some 38, _, _, _, _, _⟩) (v := _) rfl (by kernel_rfl) (by kernel_rfl) (by kernel_rfl) (fun _ _ _ h => h) (yieldsIf_ldP rfl _ rfl rfl FA AB nB cB (fun W h => KB.out.below h KB.out.lt)) (by assumption) ?_
      try simp only [Act.put, List.setIfInBounds_toArray, List.set_cons_zero, List.set_cons_succ]
      refine wpAnyH_ready (rs := [2]) (by kernel_rfl) (by simp) ?_
      refine AllReadyH.cons (o := ⟨some 39, _, _, _, _, _⟩) rfl (fun K hK => ?_) AllReadyH.nil
      go_simp
      refine (samePt_yes FA AA AB nA cA nB cB LA wS _ _ (SA.out.next hHeld (Nat.le_refl _)) (SB.out.next hHeld (Nat.le_refl _)) (Nat.le_refl _) (Nat.le_refl _)).mono ?_
      rintro e w101 ⟨rfl, hb'⟩
      refine hK.out _ _ (hHeld.trans (hb'.mono hHeld.size)) (fun hHeld2 => ?_)
      clear hb'
      clear hK K hHeld
      have hHeld := hHeld2
      clear hHeld2
      try simp only [Act.put, List.setIfInBounds_toArray, List.set_cons_zero, List.set_cons_succ]
      refine wpAnyH_take (i := 3) (oi := ⟨some 40, _, _, _, _, _⟩) (v := ?_) rfl (by kernel_rfl) (by kernel_rfl) (by kernel_rfl) (fun _ _ _ h => h) (Or.inl ⟨by rfl, by intro w hSw; go_simp; try rfl⟩) (by assumption) ?_
      try simp only [Act.put, List.setIfInBounds_toArray, List.set_cons_zero, List.set_cons_succ]
      refine wpAnyH_take (i := 4) (oi := ⟨some 41, _, _, _, _, _⟩) (v := _) rfl (by kernel_rfl) (by kernel_rfl) (by kernel_rfl) (fun _ _ _ h => h) (yieldsIf_ldP rfl _ rfl rfl b1 AC nC cC (fun W h => KC.out.below h KC.out.lt)) (by assumption) ?_
      try simp only [Act.put, List.setIfInBounds_toArray, List.set_cons_zero, List.set_cons_succ]
      refine wpAnyH_take (i := 5) (oi := ⟨some 42, _, _, _, _, _⟩) (v := _) rfl (by kernel_rfl) (by kernel_rfl) (by kernel_rfl) (fun _ _ _ h => h) (yieldsIf_ldP rfl _ rfl rfl b1 A1 n1 c1 (fun W h => KP.out.below h KP.out.lt)) (by assumption) ?_
      try simp only [Act.put, List.setIfInBounds_toArray, List.set_cons_zero, List.set_cons_succ]
      refine wpAnyH_ready (rs := [6]) (by kernel_rfl) (by simp) ?_
      refine AllReadyH.cons (o := ⟨some 43, _, _, _, _, _⟩) rfl (fun K hK => ?_) AllReadyH.nil
      go_simp
      refine (samePt_yes b1 AC A1 nC cC n1 c1 l1 w101 _ _ (SC.out.next hHeld (Nat.le_refl _)) (S1.out.next hHeld (Nat.le_refl _)) (Nat.le_refl _) (Nat.le_refl _)).mono ?_
      rintro e w102 ⟨rfl, hb'⟩
      refine hK.out _ _ (hHeld.trans (hb'.mono hHeld.size)) (fun hHeld2 => ?_)
      clear hb'
      clear hK K hHeld
      have hHeld := hHeld2
      clear hHeld2
      try simp only [Act.put, List.setIfInBounds_toArray, List.set_cons_zero, List.set_cons_succ]
      refine wpAnyH_take (i := 7) (oi := ⟨some 44, _, _, _, _, _⟩) (v := ?_) rfl (by kernel_rfl) (by kernel_rfl) (by kernel_rfl) (fun _ _ _ h => h) (Or.inl ⟨by rfl, by intro w hSw; go_simp; try rfl⟩) (by assumption) ?_
      try simp only [Act.put, List.setIfInBounds_toArray, List.set_cons_zero, List.set_cons_succ]
      refine wpAnyH_take (i := 8) (oi := ⟨some 45, _, _, _, _, _⟩) (v := ?_) rfl (by kernel_rfl) (by kernel_rfl) (by kernel_rfl) (fun _ _ _ h => h) (Or.inl ⟨by rfl, by intro w hSw; go_simp; try rfl⟩) (by assumption) ?_
      try simp only [Act.put, List.setIfInBounds_toArray, List.set_cons_zero, List.set_cons_succ]
      refine wpAnyH_take (i := 9) (oi := ⟨some 46, _, _, _, _, _⟩) (v := _) rfl (by kernel_rfl) (by kernel_rfl) (by kernel_rfl) (fun _ _ _ h => h) (yieldsIf_ldP rfl _ rfl rfl b1 AD nD cD (fun W h => KD.out.below h KD.out.lt)) (by assumption) ?_
      try simp only [Act.put, List.setIfInBounds_toArray, List.set_cons_zero, List.set_cons_succ]
      refine wpAnyH_take (i := 10) (oi := ⟨some 47, _, _, _, _, _⟩) (v := _) rfl (by kernel_rfl) (by kernel_rfl) (by kernel_rfl) (fun _ _ _ h => h) (yieldsIf_ldP rfl _ rfl rfl b1 A1 n1 c1 (fun W h => KP.out.below h KP.out.lt)) (by assumption) ?_
      try simp only [Act.put, List.setIfInBounds_toArray, List.set_cons_zero, List.set_cons_succ]
      refine wpAnyH_ready (rs := [11]) (by kernel_rfl) (by simp) ?_
      refine AllReadyH.cons (o := ⟨some 48, _, _, _, _, _⟩) rfl (fun K hK => ?_) AllReadyH.nil
      go_simp
      refine (samePt_yes b1 AD A1 nD cD n1 c1 l1 w102 _ _ (SD.out.next hHeld (Nat.le_refl _)) (S1.out.next hHeld (Nat.le_refl _)) (Nat.le_refl _) (Nat.le_refl _)).mono ?_
      rintro e w103 ⟨rfl, hb'⟩
      refine hK.out _ _ (hHeld.trans (hb'.mono hHeld.size)) (fun hHeld2 => ?_)
      clear hb'
      clear hK K hHeld
      have hHeld := hHeld2
      clear hHeld2
      try simp only [Act.put, List.setIfInBounds_toArray, List.set_cons_zero, List.set_cons_succ]
      refine wpAnyH_take (i := 12) (oi := ⟨some 49, _, _, _, _, _⟩) (v := ?_) rfl (by kernel_rfl) (by kernel_rfl) (by kernel_rfl) (fun _ _ _ h => h) (Or.inl ⟨by rfl, by intro w hSw; go_simp; try rfl⟩) (by assumption) ?_
      try simp only [Act.put, List.setIfInBounds_toArray, List.set_cons_zero, List.set_cons_succ]
      refine wpAnyH_take (i := 13) (oi := ⟨some 50, _, _, _, _, _⟩) (v := ?_) rfl (by kernel_rfl) (by kernel_rfl) (by kernel_rfl) (fun _ _ _ h => h) (Or.inl ⟨by rfl, by intro w hSw; go_simp; try rfl⟩) (by assumption) ?_
      try simp only [Act.put, List.setIfInBounds_toArray, List.set_cons_zero, List.set_cons_succ]
      refine wpAnyH_take (i := 14) (oi := ⟨some 51, _, _, _, _, _⟩) (v := _) rfl (by kernel_rfl) (by kernel_rfl) (by kernel_rfl) (fun _ _ _ h => h) (yieldsIf_ldP rfl _ rfl rfl b2 A2 n2 c2 (fun W h => KQ.out.below h KQ.out.lt)) (by assumption) ?_
      try simp only [Act.put, List.setIfInBounds_toArray, List.set_cons_zero, List.set_cons_succ]
      refine wpAnyH_take (i := 15) (oi := ⟨some 52, _, _, _, _, _⟩) (v := ?_) rfl (by kernel_rfl) (by kernel_rfl) (by kernel_rfl) (fun _ _ _ h => h) (Or.inl ⟨by rfl, by intro w hSw; go_simp; try rfl⟩) (by assumption) ?_
      try simp only [Act.put, List.setIfInBounds_toArray, List.set_cons_zero, List.set_cons_succ]
      refine wpAnyH_take (i := 16) (oi := ⟨some 53, _, _, _, _, _⟩) (v := _) rfl (by kernel_rfl) (by kernel_rfl) (by kernel_rfl) (fun _ _ _ h => h) (yieldsIf_ldL rfl _ rfl rfl A1 n1 c1 (fun W h => (KP.out.below h KP.out.lt).cell? 1)) (by assumption) ?_
      try simp only [Act.put, List.setIfInBounds_toArray, List.set_cons_zero, List.set_cons_succ]
      refine wpAnyH_take (i := 17) (oi := ⟨some 54, _, _, _, _, _⟩) (v := _) rfl (by kernel_rfl) (by kernel_rfl) (by kernel_rfl) (fun _ _ _ h => h) (yieldsIf_build2 rfl 0 1 _ _ rfl rfl rfl (cs := [.bool true, .slice A1 n1 c1]) (built_pt2 true A1 n1 c1)) (by assumption) ?_
      try simp only [Act.put, List.setIfInBounds_toArray, List.set_cons_zero, List.set_cons_succ]
      refine wpAnyH_take (i := 19) (oi := ⟨some 56, _, _, _, _, _⟩) (v := ?_) rfl (by kernel_rfl) (by kernel_rfl) (by kernel_rfl) (fun _ _ _ h => h) (Or.inl ⟨by rfl, by intro w hSw; go_simp; try rfl⟩) (by assumption) ?_
      try simp only [Act.put, List.setIfInBounds_toArray, List.set_cons_zero, List.set_cons_succ]
      refine wpAnyH_take (i := 20) (oi := ⟨some 57, _, _, _, _, _⟩) (v := _) rfl (by kernel_rfl) (by kernel_rfl) (by kernel_rfl) (fun _ _ _ h => h) (yieldsIf_ldL rfl _ rfl rfl A1 n1 c1 (fun W h => (KP.out.below h KP.out.lt).cell? 1)) (by assumption) ?_
      try simp only [Act.put, List.setIfInBounds_toArray, List.set_cons_zero, List.set_cons_succ]
      refine wpAnyH_take (i := 21) (oi := ⟨some 58, _, _, _, _, _⟩) (v := _) rfl (by kernel_rfl) (by kernel_rfl) (by kernel_rfl) (fun _ _ _ h => h) (yieldsIf_build2 rfl 0 1 _ _ rfl rfl rfl (cs := [.bool true, .slice A1 n1 c1]) (built_pt2 true A1 n1 c1)) (by assumption) ?_
      try simp only [Act.put, List.setIfInBounds_toArray, List.set_cons_zero, List.set_cons_succ]
      refine wpAnyH_ready (rs := [18]) (by kernel_rfl) (by simp) ?_
      refine AllReadyH.cons (o := ⟨some 55, _, _, _, _, _⟩) rfl (fun K hK => ?_) AllReadyH.nil
      go_simp
      refine (joinPt_as b2 true A2 A1 n2 c2 n1 c1 l2 l1 w103 _ _ (S2.out.next hHeld (Nat.le_refl _)) (S1.out.next hHeld (Nat.le_refl _)) (Nat.le_refl _) (Nat.le_refl _) (by have := HC.out; omega) true rfl l1 (joinL_yes _ _)).mono ?_
      rintro e w104 ⟨AE, nE, cE, rfl, hsE, hb'⟩
      have SE : Kp _ := ⟨hsE⟩
      clear hsE
      refine hK.out _ _ (hHeld.trans (hb'.mono hHeld.size)) (fun hHeld2 => ?_)
      clear hb'
      clear hK K hHeld
      have hHeld := hHeld2
      clear hHeld2
      try simp only [Act.put, List.setIfInBounds_toArray, List.set_cons_zero, List.set_cons_succ]
      refine wpAnyH_ready (rs := [22]) (by kernel_rfl) (by simp) ?_
      refine AllReadyH.cons (o := ⟨some 59, _, _, _, _, _⟩) rfl (fun K hK => ?_) AllReadyH.nil
      go_simp
      refine (samePt_yes true AE A1 nE cE n1 c1 l1 w104 _ _ SE.out (S1.out.next hHeld (Nat.le_refl _)) (Nat.le_refl _) (Nat.le_refl _)).mono ?_
      rintro e w105 ⟨rfl, hb'⟩
      refine hK.out _ _ (hHeld.trans (hb'.mono hHeld.size)) (fun hHeld2 => ?_)
      clear hb'
      clear hK K hHeld
      have hHeld := hHeld2
      clear hHeld2
      try simp only [Act.put, List.setIfInBounds_toArray, List.set_cons_zero, List.set_cons_succ]
      refine wpAnyH_take (i := 23) (oi := ⟨some 60, _, _, _, _, _⟩) (v := ?_) rfl (by kernel_rfl) (by kernel_rfl) (by kernel_rfl) (fun _ _ _ h => h) (Or.inl ⟨by rfl, by intro w hSw; go_simp; try rfl⟩) (by assumption) ?_
      try simp only [Act.put, List.setIfInBounds_toArray, List.set_cons_zero, List.set_cons_succ]
      refine wpAnyH_take (i := 24) (oi := ⟨some 61, _, _, _, _, _⟩) (v := ?_) rfl (by kernel_rfl) (by kernel_rfl) (by kernel_rfl) (fun _ _ _ h => h) (Or.inl ⟨by rfl, by intro w hSw; go_simp; try rfl⟩) (by assumption) ?_
      try simp only [Act.put, List.setIfInBounds_toArray, List.set_cons_zero, List.set_cons_succ]
      refine wpAnyH_ready (rs := [25]) (by kernel_rfl) (by simp) ?_
      refine AllReadyH.cons (o := ⟨some 62, _, _, _, _, _⟩) rfl (fun K hK => ?_) AllReadyH.nil
      go_simp
      refine (known15_any w105).mono ?_
      rintro e w106 ⟨rfl, hb'⟩
      refine hK.out _ _ (hHeld.trans (hb'.mono hHeld.size)) (fun hHeld2 => ?_)
      clear hb'
      clear hK K hHeld
      have hHeld := hHeld2
      clear hHeld2
      try simp only [Act.put, List.setIfInBounds_toArray, List.set_cons_zero, List.set_cons_succ]
      refine wpAnyH_take (i := 26) (oi := ⟨some 63, _, _, _, _, _⟩) (v := ?_) rfl (by kernel_rfl) (by kernel_rfl) (by kernel_rfl) (fun _ _ _ h => h) (Or.inl ⟨by rfl, by intro w hSw; go_simp; try rfl⟩) (by assumption) ?_
      try simp only [Act.put, List.setIfInBounds_toArray, List.set_cons_zero, List.set_cons_succ]
      refine wpAnyH_take (i := 27) (oi := ⟨some 6, _, _, _, _, _⟩) (v := ?_) rfl (by kernel_rfl) (by kernel_rfl) (by kernel_rfl) (fun _ _ _ h => h) (Or.inl ⟨by rfl, by intro w hSw; go_simp; try rfl⟩) (by assumption) ?_
      try simp only [Act.put, List.setIfInBounds_toArray, List.set_cons_zero, List.set_cons_succ]
      refine wpAnyH_done (by kernel_rfl) ?_ _
      go_wp2
      go_ret
      exact ⟨rfl, HW.out.trans (hHeld.mono HW.out.size)⟩
end
end Go.Proofs.YtaedlaeflliibaaDoor
