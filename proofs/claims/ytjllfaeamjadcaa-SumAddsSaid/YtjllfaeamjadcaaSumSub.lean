/- The contract of package sum's Sub. -/
import Derived.Test.YtjllfaeamjadcaaSumOps
namespace Go.Proofs.Ytjllfaeamjadcaa
open Go.RowKit

set_option maxRecDepth 100000 in
set_option maxHeartbeats 4000000 in
theorem ssub_any (a b : List UInt8) (w : World) (ha : a.length = 32) (hb : b.length = 32) : Calls Try.prog 12 #[.agg (cells8 a).toArray, .agg (cells8 b).toArray] w fun e w' => e = .returned (.agg (cells8 (subL a b)).toArray) ∧ Below w.heap.size w w' := by
  have HA32 : Kp _ := ⟨ha⟩
  have HB32 : Kp _ := ⟨hb⟩
  have HLa : Kp ((cells8 a).length = 32) := ⟨by rw [cells8_length]; exact ha⟩
  have HLb : Kp ((cells8 b).length = 32) := ⟨by rw [cells8_length]; exact hb⟩
  have HGa : Kp _ := ⟨getN_lt32 ha⟩
  have HGb : Kp _ := ⟨getN_lt32 hb⟩
  have huD : (Try.prog).underlying 23 = some (.array 32 5) := rwDig.ty
  have hia : ((Try.prog).info? 23).map (·.size) = some (cells8 a).length := by rw [HLa.out]; exact rwDig.size
  have hib : ((Try.prog).info? 23).map (·.size) = some (cells8 b).length := by rw [HLb.out]; exact rwDig.size
  clear ha hb
  obtain ⟨L, hL⟩ : ∃ L, L = subL a b := ⟨_, rfl⟩
  have HDg : Kp (∀ W, Calls Try.prog 24 #[.agg (numCells (W4 (subN (getN a) (getN b)))).toArray] W fun e w' => e = .returned (.agg (cells8 L).toArray) ∧ Below W.heap.size W w') := ⟨fun W => by rw [hL]; exact sdigest_any _ W⟩
  have HLr : Kp ((cells8 L).length = 32) := ⟨by rw [hL, cells8_length, subL_length]⟩
  rw [← hL]
  clear hL
  go_enter Try.func12, Try.ntmps12
  go_wp2_with (with_reducible refine wpList_box (o := ⟨some 2, _, _, _, _, _⟩) rfl (.tmp 0) rfl rfl ?_)
  intro w1 hk1 hb1 hs1
  have HK1 : Kp _ := ⟨hk1⟩
  clear hk1 hs1
  go_wp2_with (with_reducible refine wpList_box (o := ⟨some 3, _, _, _, _, _⟩) rfl (.tmp 1) rfl rfl ?_)
  intro w2 hk2 hb2 hs2
  have hT2 : Two w w.heap.size w1.heap.size 23 (cells8 a) (cells8 b) w2 := ⟨HK1.out.below hb2 HK1.out.lt, hk2, hb1.trans (hb2.mono hb1.size)⟩
  have n1 : w.heap.size < w1.heap.size := HK1.out.lt
  have n2 : w1.heap.size < w2.heap.size := hk2.lt
  obtain ⟨gb, hgb⟩ : ∃ g, g = w1.heap.size := ⟨_, rfl⟩
  rw [← hgb] at hT2 n1 n2 ⊢
  clear hk2 hb1 hb2 hs2 HK1 hgb
  go_wp2_with (with_reducible refine wpList_alloc (o := ⟨some 4, _, _, _, _, _⟩) tyDig rfl rfl ?_)
  intro w3 hk3 hb3 hs3
  have HR : Kp _ := ⟨hk3⟩
  have hT3 := hT2.next hb3
  obtain ⟨gr, hgr⟩ : ∃ g, g = w2.heap.size := ⟨_, rfl⟩
  have n3 : gr < w3.heap.size := by rw [hgr]; exact HR.out.lt
  rw [← hgr] at HR n2 ⊢
  clear hk3 hb3 hs3 hT2 hgr
  have HRd : Kp _ := ⟨HR.out.drew⟩
  clear HR
  go_wp2_with fail
  refine wp_region_held_drew (S := Two w w.heap.size gb 23 (cells8 a) (cells8 b)) (by kernel_rfl) (hT3.drew) (fun hHeld => ?_)
  generalize w3.drew = wS at *
  have HR := HRd
  clear HRd
  refine wpAnyH_take (i := 0) (oi := ⟨some 8, _, _, _, _, _⟩) (v := _) rfl (by kernel_rfl) (by kernel_rfl) (by kernel_rfl) (fun _ _ _ h => h) (yieldsIf_load_mid (by rfl) _ (.tmp 2) rfl _ _ rfl (cells8 a) _ (fun W hW => hW.a.range (take_all32 HLa.out)) huD rfl hia) (by assumption) ?_
  try simp only [Act.put, List.setIfInBounds_toArray, List.set_cons_zero, List.set_cons_succ]
  refine wpAnyH_take (i := 2) (oi := ⟨some 10, _, _, _, _, _⟩) (v := _) rfl (by kernel_rfl) (by kernel_rfl) (by kernel_rfl) (fun _ _ _ h => h) (yieldsIf_load_mid (by rfl) _ (.tmp 3) rfl _ _ rfl (cells8 b) _ (fun W hW => hW.b.range (take_all32 HLb.out)) huD rfl hib) (by assumption) ?_
  try simp only [Act.put, List.setIfInBounds_toArray, List.set_cons_zero, List.set_cons_succ]
  refine wpAnyH_ready (rs := [1, 8]) (by kernel_rfl) (by simp) ?_
  refine AllReadyH.cons (o := ⟨some 9, _, _, _, _, _⟩) rfl (fun K hK => ?_) (AllReadyH.cons (o := ⟨some 5, _, _, _, _, _⟩) rfl (fun K hK => ?_) AllReadyH.nil)
  · go_simp
    refine (split_any a _ HA32.out).mono ?_
    rintro e w51 ⟨rfl, hb'⟩
    try replace HR : Kp _ := ⟨HR.out.below hb' HR.out.lt⟩
    try replace HW : Kp _ := ⟨HW.out.below hb' HW.out.lt⟩
    refine hK.out _ _ (hHeld.next hb') (fun hHeld2 => ?_)
    clear hb'
    clear hK K hHeld
    have hHeld := hHeld2
    clear hHeld2
    try simp only [Act.put, List.setIfInBounds_toArray, List.set_cons_zero, List.set_cons_succ]
    refine wpAnyH_ready (rs := [3, 8]) (by kernel_rfl) (by simp) ?_
    refine AllReadyH.cons (o := ⟨some 11, _, _, _, _, _⟩) rfl (fun K hK => ?_) (AllReadyH.cons (o := ⟨some 5, _, _, _, _, _⟩) rfl (fun K hK => ?_) AllReadyH.nil)
    · go_simp
      refine (split_any b _ HB32.out).mono ?_
      rintro e w52 ⟨rfl, hb'⟩
      try replace HR : Kp _ := ⟨HR.out.below hb' HR.out.lt⟩
      try replace HW : Kp _ := ⟨HW.out.below hb' HW.out.lt⟩
      refine hK.out _ _ (hHeld.next hb') (fun hHeld2 => ?_)
      clear hb'
      clear hK K hHeld
      have hHeld := hHeld2
      clear hHeld2
      try simp only [Act.put, List.setIfInBounds_toArray, List.set_cons_zero, List.set_cons_succ]
      refine wpAnyH_ready (rs := [4, 8]) (by kernel_rfl) (by simp) ?_
      refine AllReadyH.cons (o := ⟨some 12, _, _, _, _, _⟩) rfl (fun K hK => ?_) (AllReadyH.cons (o := ⟨some 5, _, _, _, _, _⟩) rfl (fun K hK => ?_) AllReadyH.nil)
      · go_simp
        refine (minus_any (getN a) (getN b) _ HGa.out HGb.out).mono ?_
        rintro e w53 ⟨rfl, hb'⟩
        try replace HR : Kp _ := ⟨HR.out.below hb' HR.out.lt⟩
        try replace HW : Kp _ := ⟨HW.out.below hb' HW.out.lt⟩
        refine hK.out _ _ (hHeld.next hb') (fun hHeld2 => ?_)
        clear hb'
        clear hK K hHeld
        have hHeld := hHeld2
        clear hHeld2
        try simp only [Act.put, List.setIfInBounds_toArray, List.set_cons_zero, List.set_cons_succ]
        refine wpAnyH_take (i := 5) (oi := ⟨some 7, _, _, _, _, _⟩) (v := ?_) rfl (by kernel_rfl) (by kernel_rfl) (by kernel_rfl) (fun _ _ _ h => h) (Or.inl ⟨by rfl, by intro w hSw; go_simp; try rfl⟩) (by assumption) ?_
        try simp only [Act.put, List.setIfInBounds_toArray, List.set_cons_zero, List.set_cons_succ]
        refine wpAnyH_take (i := 6) (oi := ⟨some 13, _, _, _, _, _⟩) (v := ?_) rfl (by kernel_rfl) (by kernel_rfl) (by kernel_rfl) (fun _ _ _ h => h) (Or.inl ⟨by rfl, by intro w hSw; go_simp; try rfl⟩) (by assumption) ?_
        try simp only [Act.put, List.setIfInBounds_toArray, List.set_cons_zero, List.set_cons_succ]
        refine wpAnyH_take (i := 7) (oi := ⟨some 14, _, _, _, _, _⟩) (v := ?_) rfl (by kernel_rfl) (by kernel_rfl) (by kernel_rfl) (fun _ _ _ h => h) (Or.inl ⟨by rfl, by intro w hSw; go_simp; try rfl⟩) (by assumption) ?_
        try simp only [Act.put, List.setIfInBounds_toArray, List.set_cons_zero, List.set_cons_succ]
        refine wpAnyH_ready (rs := [8]) (by kernel_rfl) (by simp) ?_
        refine AllReadyH.cons (o := ⟨some 5, _, _, _, _, _⟩) rfl (fun K hK => ?_) AllReadyH.nil
        refine step_alloc tyWords rfl rfl ?_
        intro w54 hk5 hb'
        try have m4 := HR.out.lt
        try replace HR : Kp _ := ⟨HR.out.below hb' HR.out.lt⟩
        have HW : Kp _ := ⟨hk5⟩
        have m1 := hHeld.a.lt
        have m2 := hHeld.b.lt
        have m3 : w.heap.size ≤ w53.heap.size := hHeld.below.size
        obtain ⟨g5, hg5⟩ : ∃ g, g = w53.heap.size := ⟨_, rfl⟩
        rw [← hg5] at HW m1 m2 m3 ⊢
        try rw [← hg5] at m4
        refine hK.out _ _ (hHeld.next hb') (fun hHeld2 => ?_)
        clear hk5 hb' hg5
        clear hK K hHeld
        have hHeld := hHeld2
        clear hHeld2
        try simp only [Act.put, List.setIfInBounds_toArray, List.set_cons_zero, List.set_cons_succ]
        refine wpAnyH_ready (rs := [9]) (by kernel_rfl) (by simp) ?_
        refine AllReadyH.cons (o := ⟨none, _, _, _, _, _⟩) rfl (fun K hK => ?_) AllReadyH.nil
        have HL3 : Kp ((numCells (W4 (subN (getN a) (getN b)))).length = 4) := ⟨by rw [numCells_length, W4_length]⟩
        refine step_store rwWords rfl (.tmp 5) (.tmp 13) rfl rfl rfl HW.out HL3.out (fit_all32 (l := zeroW4) rfl) (numCells_one _) ?_
        intro w55 hk ho
        try replace HR : Kp _ := ⟨HR.out.only ho (by omega)⟩
        refine hK.out _ _ (hHeld.only ho m1 m2 m3) (fun hHeld2 => ?_)
        have HV : Kp (Blk w55 g5 41 (numCells (W4 (subN (getN a) (getN b))))) := ⟨by have h := hk; rw [store_all32 (n := 4) rfl] at h; exact h⟩
        clear hk ho HW
        clear hK K hHeld
        have hHeld := hHeld2
        clear hHeld2
        try simp only [Act.put]
        refine wpAnyH_take (i := 10) (oi := ⟨some 6, _, _, _, _, _⟩) (v := ?_) rfl (by kernel_rfl) (by kernel_rfl) (by kernel_rfl) (fun _ _ _ h => h) (Or.inl ⟨by rfl, by intro w hSw; go_simp; try rfl⟩) (by assumption) ?_
        try simp only [Act.put, List.setIfInBounds_toArray, List.set_cons_zero, List.set_cons_succ]
        refine wpAnyH_done (by kernel_rfl) ?_ _
        have HLv : Kp ((numCells (W4 (subN (getN a) (getN b)))).length = 4) := ⟨by rw [numCells_length, W4_length]⟩
        clear m1 m2 m3 m4
        go_wp2_with (with_reducible refine wpList_loadAll (o := ⟨some 15, _, _, _, _, _⟩) rwWords rfl (.tmp 5) rfl rfl HV.out HLv.out ?_)
        go_wp2_with fail
        refine (HDg.out _).mono ?_
        rintro e wz ⟨rfl, hb'⟩
        replace HR : Kp _ := ⟨HR.out.below hb' HR.out.lt⟩
        have hB := hHeld.below.trans (hb'.mono hHeld.below.size)
        have HZ : Kp (zero32.length = 32) := ⟨rfl⟩
        clear HV hb'
        go_wp2_with (refine wpList_storeAll (o := ⟨none, _, _, _, _, _⟩) (vs := cells8 L) rwDig rfl (.tmp 4) (.tmp 16) rfl rfl HR.out HZ.out HLr.out (cells8_one _) rfl ?_)
        intro wy hk ho
        have HKf : Kp _ := ⟨hk⟩
        clear hk
        go_wp2
        exact ret_arr rfl rwDig rfl HKf.out HLr.out rfl ⟨rfl, hB.trans (ho.below (by omega))⟩
      · refine step_alloc tyWords rfl rfl ?_
        intro w56 hk5 hb'
        try have m4 := HR.out.lt
        try replace HR : Kp _ := ⟨HR.out.below hb' HR.out.lt⟩
        have HW : Kp _ := ⟨hk5⟩
        have m1 := hHeld.a.lt
        have m2 := hHeld.b.lt
        have m3 : w.heap.size ≤ w52.heap.size := hHeld.below.size
        obtain ⟨g5, hg5⟩ : ∃ g, g = w52.heap.size := ⟨_, rfl⟩
        rw [← hg5] at HW m1 m2 m3 ⊢
        try rw [← hg5] at m4
        refine hK.out _ _ (hHeld.next hb') (fun hHeld2 => ?_)
        clear hk5 hb' hg5
        clear hK K hHeld
        have hHeld := hHeld2
        clear hHeld2
        try simp only [Act.put, List.setIfInBounds_toArray, List.set_cons_zero, List.set_cons_succ]
        refine wpAnyH_ready (rs := [4]) (by kernel_rfl) (by simp) ?_
        refine AllReadyH.cons (o := ⟨some 12, _, _, _, _, _⟩) rfl (fun K hK => ?_) AllReadyH.nil
        go_simp
        refine (minus_any (getN a) (getN b) _ HGa.out HGb.out).mono ?_
        rintro e w57 ⟨rfl, hb'⟩
        try replace HR : Kp _ := ⟨HR.out.below hb' HR.out.lt⟩
        try replace HW : Kp _ := ⟨HW.out.below hb' HW.out.lt⟩
        refine hK.out _ _ (hHeld.next hb') (fun hHeld2 => ?_)
        clear hb'
        clear hK K hHeld
        have hHeld := hHeld2
        clear hHeld2
        try simp only [Act.put, List.setIfInBounds_toArray, List.set_cons_zero, List.set_cons_succ]
        refine wpAnyH_take (i := 5) (oi := ⟨some 7, _, _, _, _, _⟩) (v := ?_) rfl (by kernel_rfl) (by kernel_rfl) (by kernel_rfl) (fun _ _ _ h => h) (Or.inl ⟨by rfl, by intro w hSw; go_simp; try rfl⟩) (by assumption) ?_
        try simp only [Act.put, List.setIfInBounds_toArray, List.set_cons_zero, List.set_cons_succ]
        refine wpAnyH_take (i := 6) (oi := ⟨some 13, _, _, _, _, _⟩) (v := ?_) rfl (by kernel_rfl) (by kernel_rfl) (by kernel_rfl) (fun _ _ _ h => h) (Or.inl ⟨by rfl, by intro w hSw; go_simp; try rfl⟩) (by assumption) ?_
        try simp only [Act.put, List.setIfInBounds_toArray, List.set_cons_zero, List.set_cons_succ]
        refine wpAnyH_take (i := 7) (oi := ⟨some 14, _, _, _, _, _⟩) (v := ?_) rfl (by kernel_rfl) (by kernel_rfl) (by kernel_rfl) (fun _ _ _ h => h) (Or.inl ⟨by rfl, by intro w hSw; go_simp; try rfl⟩) (by assumption) ?_
        try simp only [Act.put, List.setIfInBounds_toArray, List.set_cons_zero, List.set_cons_succ]
        refine wpAnyH_ready (rs := [9]) (by kernel_rfl) (by simp) ?_
        refine AllReadyH.cons (o := ⟨none, _, _, _, _, _⟩) rfl (fun K hK => ?_) AllReadyH.nil
        have HL3 : Kp ((numCells (W4 (subN (getN a) (getN b)))).length = 4) := ⟨by rw [numCells_length, W4_length]⟩
        refine step_store rwWords rfl (.tmp 5) (.tmp 13) rfl rfl rfl HW.out HL3.out (fit_all32 (l := zeroW4) rfl) (numCells_one _) ?_
        intro w58 hk ho
        try replace HR : Kp _ := ⟨HR.out.only ho (by omega)⟩
        refine hK.out _ _ (hHeld.only ho m1 m2 m3) (fun hHeld2 => ?_)
        have HV : Kp (Blk w58 g5 41 (numCells (W4 (subN (getN a) (getN b))))) := ⟨by have h := hk; rw [store_all32 (n := 4) rfl] at h; exact h⟩
        clear hk ho HW
        clear hK K hHeld
        have hHeld := hHeld2
        clear hHeld2
        try simp only [Act.put]
        refine wpAnyH_take (i := 10) (oi := ⟨some 6, _, _, _, _, _⟩) (v := ?_) rfl (by kernel_rfl) (by kernel_rfl) (by kernel_rfl) (fun _ _ _ h => h) (Or.inl ⟨by rfl, by intro w hSw; go_simp; try rfl⟩) (by assumption) ?_
        try simp only [Act.put, List.setIfInBounds_toArray, List.set_cons_zero, List.set_cons_succ]
        refine wpAnyH_done (by kernel_rfl) ?_ _
        have HLv : Kp ((numCells (W4 (subN (getN a) (getN b)))).length = 4) := ⟨by rw [numCells_length, W4_length]⟩
        clear m1 m2 m3 m4
        go_wp2_with (with_reducible refine wpList_loadAll (o := ⟨some 15, _, _, _, _, _⟩) rwWords rfl (.tmp 5) rfl rfl HV.out HLv.out ?_)
        go_wp2_with fail
        refine (HDg.out _).mono ?_
        rintro e wz ⟨rfl, hb'⟩
        replace HR : Kp _ := ⟨HR.out.below hb' HR.out.lt⟩
        have hB := hHeld.below.trans (hb'.mono hHeld.below.size)
        have HZ : Kp (zero32.length = 32) := ⟨rfl⟩
        clear HV hb'
        go_wp2_with (refine wpList_storeAll (o := ⟨none, _, _, _, _, _⟩) (vs := cells8 L) rwDig rfl (.tmp 4) (.tmp 16) rfl rfl HR.out HZ.out HLr.out (cells8_one _) rfl ?_)
        intro wy hk ho
        have HKf : Kp _ := ⟨hk⟩
        clear hk
        go_wp2
        exact ret_arr rfl rwDig rfl HKf.out HLr.out rfl ⟨rfl, hB.trans (ho.below (by omega))⟩
    · refine step_alloc tyWords rfl rfl ?_
      intro w59 hk5 hb'
      try have m4 := HR.out.lt
      try replace HR : Kp _ := ⟨HR.out.below hb' HR.out.lt⟩
      have HW : Kp _ := ⟨hk5⟩
      have m1 := hHeld.a.lt
      have m2 := hHeld.b.lt
      have m3 : w.heap.size ≤ w51.heap.size := hHeld.below.size
      obtain ⟨g5, hg5⟩ : ∃ g, g = w51.heap.size := ⟨_, rfl⟩
      rw [← hg5] at HW m1 m2 m3 ⊢
      try rw [← hg5] at m4
      refine hK.out _ _ (hHeld.next hb') (fun hHeld2 => ?_)
      clear hk5 hb' hg5
      clear hK K hHeld
      have hHeld := hHeld2
      clear hHeld2
      try simp only [Act.put, List.setIfInBounds_toArray, List.set_cons_zero, List.set_cons_succ]
      refine wpAnyH_ready (rs := [3]) (by kernel_rfl) (by simp) ?_
      refine AllReadyH.cons (o := ⟨some 11, _, _, _, _, _⟩) rfl (fun K hK => ?_) AllReadyH.nil
      go_simp
      refine (split_any b _ HB32.out).mono ?_
      rintro e w60 ⟨rfl, hb'⟩
      try replace HR : Kp _ := ⟨HR.out.below hb' HR.out.lt⟩
      try replace HW : Kp _ := ⟨HW.out.below hb' HW.out.lt⟩
      refine hK.out _ _ (hHeld.next hb') (fun hHeld2 => ?_)
      clear hb'
      clear hK K hHeld
      have hHeld := hHeld2
      clear hHeld2
      try simp only [Act.put, List.setIfInBounds_toArray, List.set_cons_zero, List.set_cons_succ]
      refine wpAnyH_ready (rs := [4]) (by kernel_rfl) (by simp) ?_
      refine AllReadyH.cons (o := ⟨some 12, _, _, _, _, _⟩) rfl (fun K hK => ?_) AllReadyH.nil
      go_simp
      refine (minus_any (getN a) (getN b) _ HGa.out HGb.out).mono ?_
      rintro e w61 ⟨rfl, hb'⟩
      try replace HR : Kp _ := ⟨HR.out.below hb' HR.out.lt⟩
      try replace HW : Kp _ := ⟨HW.out.below hb' HW.out.lt⟩
      refine hK.out _ _ (hHeld.next hb') (fun hHeld2 => ?_)
      clear hb'
      clear hK K hHeld
      have hHeld := hHeld2
      clear hHeld2
      try simp only [Act.put, List.setIfInBounds_toArray, List.set_cons_zero, List.set_cons_succ]
      refine wpAnyH_take (i := 5) (oi := ⟨some 7, _, _, _, _, _⟩) (v := ?_) rfl (by kernel_rfl) (by kernel_rfl) (by kernel_rfl) (fun _ _ _ h => h) (Or.inl ⟨by rfl, by intro w hSw; go_simp; try rfl⟩) (by assumption) ?_
      try simp only [Act.put, List.setIfInBounds_toArray, List.set_cons_zero, List.set_cons_succ]
      refine wpAnyH_take (i := 6) (oi := ⟨some 13, _, _, _, _, _⟩) (v := ?_) rfl (by kernel_rfl) (by kernel_rfl) (by kernel_rfl) (fun _ _ _ h => h) (Or.inl ⟨by rfl, by intro w hSw; go_simp; try rfl⟩) (by assumption) ?_
      try simp only [Act.put, List.setIfInBounds_toArray, List.set_cons_zero, List.set_cons_succ]
      refine wpAnyH_take (i := 7) (oi := ⟨some 14, _, _, _, _, _⟩) (v := ?_) rfl (by kernel_rfl) (by kernel_rfl) (by kernel_rfl) (fun _ _ _ h => h) (Or.inl ⟨by rfl, by intro w hSw; go_simp; try rfl⟩) (by assumption) ?_
      try simp only [Act.put, List.setIfInBounds_toArray, List.set_cons_zero, List.set_cons_succ]
      refine wpAnyH_ready (rs := [9]) (by kernel_rfl) (by simp) ?_
      refine AllReadyH.cons (o := ⟨none, _, _, _, _, _⟩) rfl (fun K hK => ?_) AllReadyH.nil
      have HL3 : Kp ((numCells (W4 (subN (getN a) (getN b)))).length = 4) := ⟨by rw [numCells_length, W4_length]⟩
      refine step_store rwWords rfl (.tmp 5) (.tmp 13) rfl rfl rfl HW.out HL3.out (fit_all32 (l := zeroW4) rfl) (numCells_one _) ?_
      intro w62 hk ho
      try replace HR : Kp _ := ⟨HR.out.only ho (by omega)⟩
      refine hK.out _ _ (hHeld.only ho m1 m2 m3) (fun hHeld2 => ?_)
      have HV : Kp (Blk w62 g5 41 (numCells (W4 (subN (getN a) (getN b))))) := ⟨by have h := hk; rw [store_all32 (n := 4) rfl] at h; exact h⟩
      clear hk ho HW
      clear hK K hHeld
      have hHeld := hHeld2
      clear hHeld2
      try simp only [Act.put]
      refine wpAnyH_take (i := 10) (oi := ⟨some 6, _, _, _, _, _⟩) (v := ?_) rfl (by kernel_rfl) (by kernel_rfl) (by kernel_rfl) (fun _ _ _ h => h) (Or.inl ⟨by rfl, by intro w hSw; go_simp; try rfl⟩) (by assumption) ?_
      try simp only [Act.put, List.setIfInBounds_toArray, List.set_cons_zero, List.set_cons_succ]
      refine wpAnyH_done (by kernel_rfl) ?_ _
      have HLv : Kp ((numCells (W4 (subN (getN a) (getN b)))).length = 4) := ⟨by rw [numCells_length, W4_length]⟩
      clear m1 m2 m3 m4
      go_wp2_with (with_reducible refine wpList_loadAll (o := ⟨some 15, _, _, _, _, _⟩) rwWords rfl (.tmp 5) rfl rfl HV.out HLv.out ?_)
      go_wp2_with fail
      refine (HDg.out _).mono ?_
      rintro e wz ⟨rfl, hb'⟩
      replace HR : Kp _ := ⟨HR.out.below hb' HR.out.lt⟩
      have hB := hHeld.below.trans (hb'.mono hHeld.below.size)
      have HZ : Kp (zero32.length = 32) := ⟨rfl⟩
      clear HV hb'
      go_wp2_with (refine wpList_storeAll (o := ⟨none, _, _, _, _, _⟩) (vs := cells8 L) rwDig rfl (.tmp 4) (.tmp 16) rfl rfl HR.out HZ.out HLr.out (cells8_one _) rfl ?_)
      intro wy hk ho
      have HKf : Kp _ := ⟨hk⟩
      clear hk
      go_wp2
      exact ret_arr rfl rwDig rfl HKf.out HLr.out rfl ⟨rfl, hB.trans (ho.below (by omega))⟩
  · refine step_alloc tyWords rfl rfl ?_
    intro w63 hk5 hb'
    try have m4 := HR.out.lt
    try replace HR : Kp _ := ⟨HR.out.below hb' HR.out.lt⟩
    have HW : Kp _ := ⟨hk5⟩
    have m1 := hHeld.a.lt
    have m2 := hHeld.b.lt
    have m3 : w.heap.size ≤ wS.heap.size := hHeld.below.size
    obtain ⟨g5, hg5⟩ : ∃ g, g = wS.heap.size := ⟨_, rfl⟩
    rw [← hg5] at HW m1 m2 m3 ⊢
    try rw [← hg5] at m4
    refine hK.out _ _ (hHeld.next hb') (fun hHeld2 => ?_)
    clear hk5 hb' hg5
    clear hK K hHeld
    have hHeld := hHeld2
    clear hHeld2
    try simp only [Act.put, List.setIfInBounds_toArray, List.set_cons_zero, List.set_cons_succ]
    refine wpAnyH_ready (rs := [1]) (by kernel_rfl) (by simp) ?_
    refine AllReadyH.cons (o := ⟨some 9, _, _, _, _, _⟩) rfl (fun K hK => ?_) AllReadyH.nil
    go_simp
    refine (split_any a _ HA32.out).mono ?_
    rintro e w64 ⟨rfl, hb'⟩
    try replace HR : Kp _ := ⟨HR.out.below hb' HR.out.lt⟩
    try replace HW : Kp _ := ⟨HW.out.below hb' HW.out.lt⟩
    refine hK.out _ _ (hHeld.next hb') (fun hHeld2 => ?_)
    clear hb'
    clear hK K hHeld
    have hHeld := hHeld2
    clear hHeld2
    try simp only [Act.put, List.setIfInBounds_toArray, List.set_cons_zero, List.set_cons_succ]
    refine wpAnyH_ready (rs := [3]) (by kernel_rfl) (by simp) ?_
    refine AllReadyH.cons (o := ⟨some 11, _, _, _, _, _⟩) rfl (fun K hK => ?_) AllReadyH.nil
    go_simp
    refine (split_any b _ HB32.out).mono ?_
    rintro e w65 ⟨rfl, hb'⟩
    try replace HR : Kp _ := ⟨HR.out.below hb' HR.out.lt⟩
    try replace HW : Kp _ := ⟨HW.out.below hb' HW.out.lt⟩
    refine hK.out _ _ (hHeld.next hb') (fun hHeld2 => ?_)
    clear hb'
    clear hK K hHeld
    have hHeld := hHeld2
    clear hHeld2
    try simp only [Act.put, List.setIfInBounds_toArray, List.set_cons_zero, List.set_cons_succ]
    refine wpAnyH_ready (rs := [4]) (by kernel_rfl) (by simp) ?_
    refine AllReadyH.cons (o := ⟨some 12, _, _, _, _, _⟩) rfl (fun K hK => ?_) AllReadyH.nil
    go_simp
    refine (minus_any (getN a) (getN b) _ HGa.out HGb.out).mono ?_
    rintro e w66 ⟨rfl, hb'⟩
    try replace HR : Kp _ := ⟨HR.out.below hb' HR.out.lt⟩
    try replace HW : Kp _ := ⟨HW.out.below hb' HW.out.lt⟩
    refine hK.out _ _ (hHeld.next hb') (fun hHeld2 => ?_)
    clear hb'
    clear hK K hHeld
    have hHeld := hHeld2
    clear hHeld2
    try simp only [Act.put, List.setIfInBounds_toArray, List.set_cons_zero, List.set_cons_succ]
    refine wpAnyH_take (i := 5) (oi := ⟨some 7, _, _, _, _, _⟩) (v := ?_) rfl (by kernel_rfl) (by kernel_rfl) (by kernel_rfl) (fun _ _ _ h => h) (Or.inl ⟨by rfl, by intro w hSw; go_simp; try rfl⟩) (by assumption) ?_
    try simp only [Act.put, List.setIfInBounds_toArray, List.set_cons_zero, List.set_cons_succ]
    refine wpAnyH_take (i := 6) (oi := ⟨some 13, _, _, _, _, _⟩) (v := ?_) rfl (by kernel_rfl) (by kernel_rfl) (by kernel_rfl) (fun _ _ _ h => h) (Or.inl ⟨by rfl, by intro w hSw; go_simp; try rfl⟩) (by assumption) ?_
    try simp only [Act.put, List.setIfInBounds_toArray, List.set_cons_zero, List.set_cons_succ]
    refine wpAnyH_take (i := 7) (oi := ⟨some 14, _, _, _, _, _⟩) (v := ?_) rfl (by kernel_rfl) (by kernel_rfl) (by kernel_rfl) (fun _ _ _ h => h) (Or.inl ⟨by rfl, by intro w hSw; go_simp; try rfl⟩) (by assumption) ?_
    try simp only [Act.put, List.setIfInBounds_toArray, List.set_cons_zero, List.set_cons_succ]
    refine wpAnyH_ready (rs := [9]) (by kernel_rfl) (by simp) ?_
    refine AllReadyH.cons (o := ⟨none, _, _, _, _, _⟩) rfl (fun K hK => ?_) AllReadyH.nil
    have HL3 : Kp ((numCells (W4 (subN (getN a) (getN b)))).length = 4) := ⟨by rw [numCells_length, W4_length]⟩
    refine step_store rwWords rfl (.tmp 5) (.tmp 13) rfl rfl rfl HW.out HL3.out (fit_all32 (l := zeroW4) rfl) (numCells_one _) ?_
    intro w67 hk ho
    try replace HR : Kp _ := ⟨HR.out.only ho (by omega)⟩
    refine hK.out _ _ (hHeld.only ho m1 m2 m3) (fun hHeld2 => ?_)
    have HV : Kp (Blk w67 g5 41 (numCells (W4 (subN (getN a) (getN b))))) := ⟨by have h := hk; rw [store_all32 (n := 4) rfl] at h; exact h⟩
    clear hk ho HW
    clear hK K hHeld
    have hHeld := hHeld2
    clear hHeld2
    try simp only [Act.put]
    refine wpAnyH_take (i := 10) (oi := ⟨some 6, _, _, _, _, _⟩) (v := ?_) rfl (by kernel_rfl) (by kernel_rfl) (by kernel_rfl) (fun _ _ _ h => h) (Or.inl ⟨by rfl, by intro w hSw; go_simp; try rfl⟩) (by assumption) ?_
    try simp only [Act.put, List.setIfInBounds_toArray, List.set_cons_zero, List.set_cons_succ]
    refine wpAnyH_done (by kernel_rfl) ?_ _
    have HLv : Kp ((numCells (W4 (subN (getN a) (getN b)))).length = 4) := ⟨by rw [numCells_length, W4_length]⟩
    clear m1 m2 m3 m4
    go_wp2_with (with_reducible refine wpList_loadAll (o := ⟨some 15, _, _, _, _, _⟩) rwWords rfl (.tmp 5) rfl rfl HV.out HLv.out ?_)
    go_wp2_with fail
    refine (HDg.out _).mono ?_
    rintro e wz ⟨rfl, hb'⟩
    replace HR : Kp _ := ⟨HR.out.below hb' HR.out.lt⟩
    have hB := hHeld.below.trans (hb'.mono hHeld.below.size)
    have HZ : Kp (zero32.length = 32) := ⟨rfl⟩
    clear HV hb'
    go_wp2_with (refine wpList_storeAll (o := ⟨none, _, _, _, _, _⟩) (vs := cells8 L) rwDig rfl (.tmp 4) (.tmp 16) rfl rfl HR.out HZ.out HLr.out (cells8_one _) rfl ?_)
    intro wy hk ho
    have HKf : Kp _ := ⟨hk⟩
    clear hk
    go_wp2
    exact ret_arr rfl rwDig rfl HKf.out HLr.out rfl ⟨rfl, hB.trans (ho.below (by omega))⟩
end Go.Proofs.Ytjllfaeamjadcaa
