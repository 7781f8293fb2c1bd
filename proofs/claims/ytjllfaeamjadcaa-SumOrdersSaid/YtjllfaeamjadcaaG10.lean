/- The contract of package sum's Sub.
   The contract of the law package's known; laws for arrays built of nothing.
   The document's Add, Sub and Less of the fifth chapter. -/
import Derived.Test.YtjllfaeamjadcaaG08
import Derived.Test.YtjllfaeamjadcaaG09
import Derived.Test.YtjllfaeamjadcaaG07
import Derived.Test.YtjllfaeamjadcaaG06
namespace Go.Proofs.Ytjllfaeamjadcaa
open Go.RowKit

set_option maxRecDepth 100000 in
set_option maxHeartbeats 4000000 in
theorem ssub_any (a b : List UInt8) (w : World) (ha : a.length = 32) (hb : b.length = 32) : Calls Try.prog 12 #[.agg (cells8 a).toArray, .agg (cells8 b).toArray] w fun e w' => e = .returned (.agg (cells8 (subL a b)).toArray) ∧ Below w.heap.size w w' := by
  have HA32 : Kp _ := ⟨ha⟩
  have HB32 : Kp _ := ⟨hb⟩
  have HLa : Kp ((cells8 a).length = 32) := ⟨by rw [cells8_length]; exact ha⟩
  have HLb : Kp ((cells8 b).length = 32) := ⟨by rw [cells8_length]; exact hb⟩
  have HGa : Kp _ := ⟨getN_lt32 ha⟩
  have HGb : Kp _ := ⟨getN_lt32 hb⟩
  have huD : (Try.prog).underlying 23 = some (.array 32 5) := rwDig.ty
  have hia : ((Try.prog).info? 23).map (·.size) = some (cells8 a).length := by rw [HLa.out]; exact rwDig.size
  have hib : ((Try.prog).info? 23).map (·.size) = some (cells8 b).length := by rw [HLb.out]; exact rwDig.size
  clear ha hb
  obtain ⟨L, hL⟩ : ∃ L, L = subL a b := ⟨_, rfl⟩
  have HDg : Kp (∀ W, Calls Try.prog 24 #[.agg (numCells (W4 (subN (getN a) (getN b)))).toArray] W fun e w' => e = .returned (.agg (cells8 L).toArray) ∧ Below W.heap.size W w') := ⟨fun W => by rw [hL]; exact sdigest_any _ W⟩
  have HLr : Kp ((cells8 L).length = 32) := ⟨by rw [hL, cells8_length, subL_length]⟩
  rw [← hL]
  clear hL
  go_enter Try.func12, Try.ntmps12
  go_wp2_with (with_reducible refine wpList_box (o := ⟨some 2, _, _, _, _, _⟩) rfl (.tmp 0) rfl rfl ?_)
  intro w1 hk1 hb1 hs1
  have HK1 : Kp _ := ⟨hk1⟩
  clear hk1 hs1
  go_wp2_with (with_reducible refine wpList_box (o := ⟨some 3, _, _, _, _, _⟩) rfl (.tmp 1) rfl rfl ?_)
  intro w2 hk2 hb2 hs2
  have hT2 : Two w w.heap.size w1.heap.size 23 (cells8 a) (cells8 b) w2 := ⟨HK1.out.below hb2 HK1.out.lt, hk2, hb1.trans (hb2.mono hb1.size)⟩
  have n1 : w.heap.size < w1.heap.size := HK1.out.lt
  have n2 : w1.heap.size < w2.heap.size := hk2.lt
  obtain ⟨gb, hgb⟩ : ∃ g, g = w1.heap.size := ⟨_, rfl⟩
  rw [← hgb] at hT2 n1 n2 ⊢
  clear hk2 hb1 hb2 hs2 HK1 hgb
  go_wp2_with (with_reducible refine wpList_alloc (o := ⟨some 4, _, _, _, _, _⟩) tyDig rfl rfl ?_)
  intro w3 hk3 hb3 hs3
  have HR : Kp _ := ⟨hk3⟩
  have hT3 := hT2.next hb3
  obtain ⟨gr, hgr⟩ : ∃ g, g = w2.heap.size := ⟨_, rfl⟩
  have n3 : gr < w3.heap.size := by rw [hgr]; exact HR.out.lt
  rw [← hgr] at HR n2 ⊢
  clear hk3 hb3 hs3 hT2 hgr
  have HRd : Kp _ := ⟨HR.out.drew⟩
  clear HR
  go_wp2_with fail
  refine wp_region_held_drew (S := Two w w.heap.size gb 23 (cells8 a) (cells8 b)) (by kernel_rfl) (hT3.drew) (fun hHeld => ?_)
  generalize w3.drew = wS at *
  have HR := HRd
  clear HRd
  refine wpAnyH_take (i := 0) (oi := ⟨some 8, _, _, _, _, _⟩) (v := _) rfl (by kernel_rfl) (by kernel_rfl) (by kernel_rfl) (fun _ _ _ h => h) (yieldsIf_load_mid (by rfl) _ (.tmp 2) rfl _ _ rfl (cells8 a) _ (fun W hW => hW.a.range (take_all32 HLa.out)) huD rfl hia) (by assumption) ?_
  try simp only [Act.put, List.setIfInBounds_toArray, List.set_cons_zero, List.set_cons_succ]
  refine wpAnyH_take (i := 2) (oi := ⟨some 10, _, _, _, _, _⟩) (v := _) rfl (by kernel_rfl) (by kernel_rfl) (by kernel_rfl) (fun _ _ _ h => h) (yieldsIf_load_mid (by rfl) _ (.tmp 3) rfl _ _ rfl (cells8 b) _ (fun W hW => hW.b.range (take_all32 HLb.out)) huD rfl hib) (by assumption) ?_
  try simp only [Act.put, List.setIfInBounds_toArray, List.set_cons_zero, List.set_cons_succ]
  refine wpAnyH_ready (rs := [1, 8]) (by kernel_rfl) (by simp) ?_
  refine AllReadyH.cons (o := ⟨some 9, _, _, _, _, _⟩) rfl (fun K hK => ?_) (AllReadyH.cons (o := ⟨some 5, _, _, _, _, _⟩) rfl (fun K hK => ?_) AllReadyH.nil)
  · go_simp
    refine (split_any a _ HA32.out).mono ?_
    rintro e w51 ⟨rfl, hb'⟩
    try replace HR : Kp _ := ⟨HR.out.below hb' HR.out.lt⟩
    try replace HW : Kp _ := ⟨HW.out.below hb' HW.out.lt⟩
    refine hK.out _ _ (hHeld.next hb') (fun hHeld2 => ?_)
    clear hb'
    clear hK K hHeld
    have hHeld := hHeld2
    clear hHeld2
    try simp only [Act.put, List.setIfInBounds_toArray, List.set_cons_zero, List.set_cons_succ]
    refine wpAnyH_ready (rs := [3, 8]) (by kernel_rfl) (by simp) ?_
    refine AllReadyH.cons (o := ⟨some 11, _, _, _, _, _⟩) rfl (fun K hK => ?_) (AllReadyH.cons (o := ⟨some 5, _, _, _, _, _⟩) rfl (fun K hK => ?_) AllReadyH.nil)
    · go_simp
      refine (split_any b _ HB32.out).mono ?_
      rintro e w52 ⟨rfl, hb'⟩
      try replace HR : Kp _ := ⟨HR.out.below hb' HR.out.lt⟩
      try replace HW : Kp _ := ⟨HW.out.below hb' HW.out.lt⟩
      refine hK.out _ _ (hHeld.next hb') (fun hHeld2 => ?_)
      clear hb'
      clear hK K hHeld
      have hHeld := hHeld2
      clear hHeld2
      try simp only [Act.put, List.setIfInBounds_toArray, List.set_cons_zero, List.set_cons_succ]
      refine wpAnyH_ready (rs := [4, 8]) (by kernel_rfl) (by simp) ?_
      refine AllReadyH.cons (o := ⟨some 12, _, _, _, _, _⟩) rfl (fun K hK => ?_) (AllReadyH.cons (o := ⟨some 5, _, _, _, _, _⟩) rfl (fun K hK => ?_) AllReadyH.nil)
      · go_simp
        refine (minus_any (getN a) (getN b) _ HGa.out HGb.out).mono ?_
        rintro e w53 ⟨rfl, hb'⟩
        try replace HR : Kp _ := ⟨HR.out.below hb' HR.out.lt⟩
        try replace HW : Kp _ := ⟨HW.out.below hb' HW.out.lt⟩
        refine hK.out _ _ (hHeld.next hb') (fun hHeld2 => ?_)
        clear hb'
        clear hK K hHeld
        have hHeld := hHeld2
        clear hHeld2
        try simp only [Act.put, List.setIfInBounds_toArray, List.set_cons_zero, List.set_cons_succ]
        refine wpAnyH_take (i := 5) (oi := ⟨some 7, _, _, _, _, _⟩) (v := ?_) rfl (by kernel_rfl) (by kernel_rfl) (by kernel_rfl) (fun _ _ _ h => h) (Or.inl ⟨by rfl, by intro w hSw; go_simp; try rfl⟩) (by assumption) ?_
        try simp only [Act.put, List.setIfInBounds_toArray, List.set_cons_zero, List.set_cons_succ]
        refine wpAnyH_take (i := 6) (oi := ⟨some 13, _, _, _, _, _⟩) (v := ?_) rfl (by kernel_rfl) (by kernel_rfl) (by kernel_rfl) (fun _ _ _ h => h) (Or.inl ⟨by rfl, by intro w hSw; go_simp; try rfl⟩) (by assumption) ?_
        try simp only [Act.put, List.setIfInBounds_toArray, List.set_cons_zero, List.set_cons_succ]
        refine wpAnyH_take (i := 7) (oi := ⟨some 14, _, _, _, _, _⟩) (v := ?_) rfl (by kernel_rfl) (by kernel_rfl) (by kernel_rfl) (fun _ _ _ h => h) (Or.inl ⟨by rfl, by intro w hSw; go_simp; try rfl⟩) (by assumption) ?_
        try simp only [Act.put, List.setIfInBounds_toArray, List.set_cons_zero, List.set_cons_succ]
        refine wpAnyH_ready (rs := [8]) (by kernel_rfl) (by simp) ?_
        refine AllReadyH.cons (o := ⟨some 5, _, _, _, _, _⟩) rfl (fun K hK => ?_) AllReadyH.nil
        refine step_alloc tyWords rfl rfl ?_
        intro w54 hk5 hb'
        try have m4 := HR.out.lt
        try replace HR : Kp _ := ⟨HR.out.below hb' HR.out.lt⟩
        have HW : Kp _ := ⟨hk5⟩
        have m1 := hHeld.a.lt
        have m2 := hHeld.b.lt
        have m3 : w.heap.size ≤ w53.heap.size := hHeld.below.size
        obtain ⟨g5, hg5⟩ : ∃ g, g = w53.heap.size := ⟨_, rfl⟩
        rw [← hg5] at HW m1 m2 m3 ⊢
        try rw [← hg5] at m4
        refine hK.out _ _ (hHeld.next hb') (fun hHeld2 => ?_)
        clear hk5 hb' hg5
        clear hK K hHeld
        have hHeld := hHeld2
        clear hHeld2
        try simp only [Act.put, List.setIfInBounds_toArray, List.set_cons_zero, List.set_cons_succ]
        refine wpAnyH_ready (rs := [9]) (by kernel_rfl) (by simp) ?_
        refine AllReadyH.cons (o := ⟨none, _, _, _, _, _⟩) rfl (fun K hK => ?_) AllReadyH.nil
        have HL3 : Kp ((numCells (W4 (subN (getN a) (getN b)))).length = 4) := ⟨by rw [numCells_length, W4_length]⟩
        refine step_store rwWords rfl (.tmp 5) (.tmp 13) rfl rfl rfl HW.out HL3.out (fit_all32 (l := zeroW4) rfl) (numCells_one _) ?_
        intro w55 hk ho
        try replace HR : Kp _ := ⟨HR.out.only ho (by omega)⟩
        refine hK.out _ _ (hHeld.only ho m1 m2 m3) (fun hHeld2 => ?_)
        have HV : Kp (Blk w55 g5 41 (numCells (W4 (subN (getN a) (getN b))))) := ⟨by have h := hk; rw [store_all32 (n := 4) rfl] at h; exact h⟩
        clear hk ho HW
        clear hK K hHeld
        have hHeld := hHeld2
        clear hHeld2
        try simp only [Act.put]
        refine wpAnyH_take (i := 10) (oi := ⟨some 6, _, _, _, _, _⟩) (v := ?_) rfl (by kernel_rfl) (by kernel_rfl) (by kernel_rfl) (fun _ _ _ h => h) (Or.inl ⟨by rfl, by intro w hSw; go_simp; try rfl⟩) (by assumption) ?_
        try simp only [Act.put, List.setIfInBounds_toArray, List.set_cons_zero, List.set_cons_succ]
        refine wpAnyH_done (by kernel_rfl) ?_ _
        have HLv : Kp ((numCells (W4 (subN (getN a) (getN b)))).length = 4) := ⟨by rw [numCells_length, W4_length]⟩
        clear m1 m2 m3 m4
        go_wp2_with (with_reducible refine wpList_loadAll (o := ⟨some 15, _, _, _, _, _⟩) rwWords rfl (.tmp 5) rfl rfl HV.out HLv.out ?_)
        go_wp2_with fail
        refine (HDg.out _).mono ?_
        rintro e wz ⟨rfl, hb'⟩
        replace HR : Kp _ := ⟨HR.out.below hb' HR.out.lt⟩
        have hB := hHeld.below.trans (hb'.mono hHeld.below.size)
        have HZ : Kp (zero32.length = 32) := ⟨rfl⟩
        clear HV hb'
        go_wp2_with (refine wpList_storeAll (o := ⟨none, _, _, _, _, _⟩) (vs := cells8 L) rwDig rfl (.tmp 4) (.tmp 16) rfl rfl HR.out HZ.out HLr.out (cells8_one _) rfl ?_)
        intro wy hk ho
        have HKf : Kp _ := ⟨hk⟩
        clear hk
        go_wp2
        exact ret_arr rfl rwDig rfl HKf.out HLr.out rfl ⟨rfl, hB.trans (ho.below (by omega))⟩
      · refine step_alloc tyWords rfl rfl ?_
        intro w56 hk5 hb'
        try have m4 := HR.out.lt
        try replace HR : Kp _ := ⟨HR.out.below hb' HR.out.lt⟩
        have HW : Kp _ := ⟨hk5⟩
        have m1 := hHeld.a.lt
        have m2 := hHeld.b.lt
        have m3 : w.heap.size ≤ w52.heap.size := hHeld.below.size
        obtain ⟨g5, hg5⟩ : ∃ g, g = w52.heap.size := ⟨_, rfl⟩
        rw [← hg5] at HW m1 m2 m3 ⊢
        try rw [← hg5] at m4
        refine hK.out _ _ (hHeld.next hb') (fun hHeld2 => ?_)
        clear hk5 hb' hg5
        clear hK K hHeld
        have hHeld := hHeld2
        clear hHeld2
        try simp only [Act.put, List.setIfInBounds_toArray, List.set_cons_zero, List.set_cons_succ]
        refine wpAnyH_ready (rs := [4]) (by kernel_rfl) (by simp) ?_
        refine AllReadyH.cons (o := ⟨some 12, _, _, _, _, _⟩) rfl (fun K hK => ?_) AllReadyH.nil
        go_simp
        refine (minus_any (getN a) (getN b) _ HGa.out HGb.out).mono ?_
        rintro e w57 ⟨rfl, hb'⟩
        try replace HR : Kp _ := ⟨HR.out.below hb' HR.out.lt⟩
        try replace HW : Kp _ := ⟨HW.out.below hb' HW.out.lt⟩
        refine hK.out _ _ (hHeld.next hb') (fun hHeld2 => ?_)
        clear hb'
        clear hK K hHeld
        have hHeld := hHeld2
        clear hHeld2
        try simp only [Act.put, List.setIfInBounds_toArray, List.set_cons_zero, List.set_cons_succ]
        refine wpAnyH_take (i := 5) (oi := ⟨some 7, _, _, _, _, _⟩) (v := ?_) rfl (by kernel_rfl) (by kernel_rfl) (by kernel_rfl) (fun _ _ _ h => h) (Or.inl ⟨by rfl, by intro w hSw; go_simp; try rfl⟩) (by assumption) ?_
        try simp only [Act.put, List.setIfInBounds_toArray, List.set_cons_zero, List.set_cons_succ]
        refine wpAnyH_take (i := 6) (oi := ⟨some 13, _, _, _, _, _⟩) (v := ?_) rfl (by kernel_rfl) (by kernel_rfl) (by kernel_rfl) (fun _ _ _ h => h) (Or.inl ⟨by rfl, by intro w hSw; go_simp; try rfl⟩) (by assumption) ?_
        try simp only [Act.put, List.setIfInBounds_toArray, List.set_cons_zero, List.set_cons_succ]
        refine wpAnyH_take (i := 7) (oi := ⟨some 14, _, _, _, _, _⟩) (v := ?_) rfl (by kernel_rfl) (by kernel_rfl) (by kernel_rfl) (fun _ _ _ h => h) (Or.inl ⟨by rfl, by intro w hSw; go_simp; try rfl⟩) (by assumption) ?_
        try simp only [Act.put, List.setIfInBounds_toArray, List.set_cons_zero, List.set_cons_succ]
        refine wpAnyH_ready (rs := [9]) (by kernel_rfl) (by simp) ?_
        refine AllReadyH.cons (o := ⟨none, _, _, _, _, _⟩) rfl (fun K hK => ?_) AllReadyH.nil
        have HL3 : Kp ((numCells (W4 (subN (getN a) (getN b)))).length = 4) := ⟨by rw [numCells_length, W4_length]⟩
        refine step_store rwWords rfl (.tmp 5) (.tmp 13) rfl rfl rfl HW.out HL3.out (fit_all32 (l := zeroW4) rfl) (numCells_one _) ?_
        intro w58 hk ho
        try replace HR : Kp _ := ⟨HR.out.only ho (by omega)⟩
        refine hK.out _ _ (hHeld.only ho m1 m2 m3) (fun hHeld2 => ?_)
        have HV : Kp (Blk w58 g5 41 (numCells (W4 (subN (getN a) (getN b))))) := ⟨by have h := hk; rw [store_all32 (n := 4) rfl] at h; exact h⟩
        clear hk ho HW
        clear hK K hHeld
        have hHeld := hHeld2
        clear hHeld2
        try simp only [Act.put]
        refine wpAnyH_take (i := 10) (oi := ⟨some 6, _, _, _, _, _⟩) (v := ?_) rfl (by kernel_rfl) (by kernel_rfl) (by kernel_rfl) (fun _ _ _ h => h) (Or.inl ⟨by rfl, by intro w hSw; go_simp; try rfl⟩) (by assumption) ?_
        try simp only [Act.put, List.setIfInBounds_toArray, List.set_cons_zero, List.set_cons_succ]
        refine wpAnyH_done (by kernel_rfl) ?_ _
        have HLv : Kp ((numCells (W4 (subN (getN a) (getN b)))).length = 4) := ⟨by rw [numCells_length, W4_length]⟩
        clear m1 m2 m3 m4
        go_wp2_with (with_reducible refine wpList_loadAll (o := ⟨some 15, _, _, _, _, _⟩) rwWords rfl (.tmp 5) rfl rfl HV.out HLv.out ?_)
        go_wp2_with fail
        refine (HDg.out _).mono ?_
        rintro e wz ⟨rfl, hb'⟩
        replace HR : Kp _ := ⟨HR.out.below hb' HR.out.lt⟩
        have hB := hHeld.below.trans (hb'.mono hHeld.below.size)
        have HZ : Kp (zero32.length = 32) := ⟨rfl⟩
        clear HV hb'
        go_wp2_with (refine wpList_storeAll (o := ⟨none, _, _, _, _, _⟩) (vs := cells8 L) rwDig rfl (.tmp 4) (.tmp 16) rfl rfl HR.out HZ.out HLr.out (cells8_one _) rfl ?_)
        intro wy hk ho
        have HKf : Kp _ := ⟨hk⟩
        clear hk
        go_wp2
        exact ret_arr rfl rwDig rfl HKf.out HLr.out rfl ⟨rfl, hB.trans (ho.below (by omega))⟩
    · refine step_alloc tyWords rfl rfl ?_
      intro w59 hk5 hb'
      try have m4 := HR.out.lt
      try replace HR : Kp _ := ⟨HR.out.below hb' HR.out.lt⟩
      have HW : Kp _ := ⟨hk5⟩
      have m1 := hHeld.a.lt
      have m2 := hHeld.b.lt
      have m3 : w.heap.size ≤ w51.heap.size := hHeld.below.size
      obtain ⟨g5, hg5⟩ : ∃ g, g = w51.heap.size := ⟨_, rfl⟩
      rw [← hg5] at HW m1 m2 m3 ⊢
      try rw [← hg5] at m4
      refine hK.out _ _ (hHeld.next hb') (fun hHeld2 => ?_)
      clear hk5 hb' hg5
      clear hK K hHeld
      have hHeld := hHeld2
      clear hHeld2
      try simp only [Act.put, List.setIfInBounds_toArray, List.set_cons_zero, List.set_cons_succ]
      refine wpAnyH_ready (rs := [3]) (by kernel_rfl) (by simp) ?_
      refine AllReadyH.cons (o := ⟨some 11, _, _, _, _, _⟩) rfl (fun K hK => ?_) AllReadyH.nil
      go_simp
      refine (split_any b _ HB32.out).mono ?_
      rintro e w60 ⟨rfl, hb'⟩
      try replace HR : Kp _ := ⟨HR.out.below hb' HR.out.lt⟩
      try replace HW : Kp _ := ⟨HW.out.below hb' HW.out.lt⟩
      refine hK.out _ _ (hHeld.next hb') (fun hHeld2 => ?_)
      clear hb'
      clear hK K hHeld
      have hHeld := hHeld2
      clear hHeld2
      try simp only [Act.put, List.setIfInBounds_toArray, List.set_cons_zero, List.set_cons_succ]
      refine wpAnyH_ready (rs := [4]) (by kernel_rfl) (by simp) ?_
      refine AllReadyH.cons (o := ⟨some 12, _, _, _, _, _⟩) rfl (fun K hK => ?_) AllReadyH.nil
      go_simp
      refine (minus_any (getN a) (getN b) _ HGa.out HGb.out).mono ?_
      rintro e w61 ⟨rfl, hb'⟩
      try replace HR : Kp _ := ⟨HR.out.below hb' HR.out.lt⟩
      try replace HW : Kp _ := ⟨HW.out.below hb' HW.out.lt⟩
      refine hK.out _ _ (hHeld.next hb') (fun hHeld2 => ?_)
      clear hb'
      clear hK K hHeld
      have hHeld := hHeld2
      clear hHeld2
      try simp only [Act.put, List.setIfInBounds_toArray, List.set_cons_zero, List.set_cons_succ]
      refine wpAnyH_take (i := 5) (oi := ⟨some 7, _, _, _, _, _⟩) (v := ?_) rfl (by kernel_rfl) (by kernel_rfl) (by kernel_rfl) (fun _ _ _ h => h) (Or.inl ⟨by rfl, by intro w hSw; go_simp; try rfl⟩) (by assumption) ?_
      try simp only [Act.put, List.setIfInBounds_toArray, List.set_cons_zero, List.set_cons_succ]
      refine wpAnyH_take (i := 6) (oi := ⟨some 13, _, _, _, _, _⟩) (v := ?_) rfl (by kernel_rfl) (by kernel_rfl) (by kernel_rfl) (fun _ _ _ h => h) (Or.inl ⟨by rfl, by intro w hSw; go_simp; try rfl⟩) (by assumption) ?_
      try simp only [Act.put, List.setIfInBounds_toArray, List.set_cons_zero, List.set_cons_succ]
      refine wpAnyH_take (i := 7) (oi := ⟨some 14, _, _, _, _, _⟩) (v := ?_) rfl (by kernel_rfl) (by kernel_rfl) (by kernel_rfl) (fun _ _ _ h => h) (Or.inl ⟨by rfl, by intro w hSw; go_simp; try rfl⟩) (by assumption) ?_
      try simp only [Act.put, List.setIfInBounds_toArray, List.set_cons_zero, List.set_cons_succ]
      refine wpAnyH_ready (rs := [9]) (by kernel_rfl) (by simp) ?_
      refine AllReadyH.cons (o := ⟨none, _, _, _, _, _⟩) rfl (fun K hK => ?_) AllReadyH.nil
      have HL3 : Kp ((numCells (W4 (subN (getN a) (getN b)))).length = 4) := ⟨by rw [numCells_length, W4_length]⟩
      refine step_store rwWords rfl (.tmp 5) (.tmp 13) rfl rfl rfl HW.out HL3.out (fit_all32 (l := zeroW4) rfl) (numCells_one _) ?_
      intro w62 hk ho
      try replace HR : Kp _ := ⟨HR.out.only ho (by omega)⟩
      refine hK.out _ _ (hHeld.only ho m1 m2 m3) (fun hHeld2 => ?_)
      have HV : Kp (Blk w62 g5 41 (numCells (W4 (subN (getN a) (getN b))))) := ⟨by have h := hk; rw [store_all32 (n := 4) rfl] at h; exact h⟩
      clear hk ho HW
      clear hK K hHeld
      have hHeld := hHeld2
      clear hHeld2
      try simp only [Act.put]
      refine wpAnyH_take (i := 10) (oi := ⟨some 6, _, _, _, _, _⟩) (v := ?_) rfl (by kernel_rfl) (by kernel_rfl) (by kernel_rfl) (fun _ _ _ h => h) (Or.inl ⟨by rfl, by intro w hSw; go_simp; try rfl⟩) (by assumption) ?_
      try simp only [Act.put, List.setIfInBounds_toArray, List.set_cons_zero, List.set_cons_succ]
      refine wpAnyH_done (by kernel_rfl) ?_ _
      have HLv : Kp ((numCells (W4 (subN (getN a) (getN b)))).length = 4) := ⟨by rw [numCells_length, W4_length]⟩
      clear m1 m2 m3 m4
      go_wp2_with (with_reducible refine wpList_loadAll (o := ⟨some 15, _, _, _, _, _⟩) rwWords rfl (.tmp 5) rfl rfl HV.out HLv.out ?_)
      go_wp2_with fail
      refine (HDg.out _).mono ?_
      rintro e wz ⟨rfl, hb'⟩
      replace HR : Kp _ := ⟨HR.out.below hb' HR.out.lt⟩
      have hB := hHeld.below.trans (hb'.mono hHeld.below.size)
      have HZ : Kp (zero32.length = 32) := ⟨rfl⟩
      clear HV hb'
      go_wp2_with (refine wpList_storeAll (o := ⟨none, _, _, _, _, _⟩) (vs := cells8 L) rwDig rfl (.tmp 4) (.tmp 16) rfl rfl HR.out HZ.out HLr.out (cells8_one _) rfl ?_)
      intro wy hk ho
      have HKf : Kp _ := ⟨hk⟩
      clear hk
      go_wp2
      exact ret_arr rfl rwDig rfl HKf.out HLr.out rfl ⟨rfl, hB.trans (ho.below (by omega))⟩
  · refine step_alloc tyWords rfl rfl ?_
    intro w63 hk5 hb'
    try have m4 := HR.out.lt
    try replace HR : Kp _ := ⟨HR.out.below hb' HR.out.lt⟩
    have HW : Kp _ := ⟨hk5⟩
    have m1 := hHeld.a.lt
    have m2 := hHeld.b.lt
    have m3 : w.heap.size ≤ wS.heap.size := hHeld.below.size
    obtain ⟨g5, hg5⟩ : ∃ g, g = wS.heap.size := ⟨_, rfl⟩
    rw [← hg5] at HW m1 m2 m3 ⊢
    try rw [← hg5] at m4
    refine hK.out _ _ (hHeld.next hb') (fun hHeld2 => ?_)
    clear hk5 hb' hg5
    clear hK K hHeld
    have hHeld := hHeld2
    clear hHeld2
    try simp only [Act.put, List.setIfInBounds_toArray, List.set_cons_zero, List.set_cons_succ]
    refine wpAnyH_ready (rs := [1]) (by kernel_rfl) (by simp) ?_
    refine AllReadyH.cons (o := ⟨some 9, _, _, _, _, _⟩) rfl (fun K hK => ?_) AllReadyH.nil
    go_simp
    refine (split_any a _ HA32.out).mono ?_
    rintro e w64 ⟨rfl, hb'⟩
    try replace HR : Kp _ := ⟨HR.out.below hb' HR.out.lt⟩
    try replace HW : Kp _ := ⟨HW.out.below hb' HW.out.lt⟩
    refine hK.out _ _ (hHeld.next hb') (fun hHeld2 => ?_)
    clear hb'
    clear hK K hHeld
    have hHeld := hHeld2
    clear hHeld2
    try simp only [Act.put, List.setIfInBounds_toArray, List.set_cons_zero, List.set_cons_succ]
    refine wpAnyH_ready (rs := [3]) (by kernel_rfl) (by simp) ?_
    refine AllReadyH.cons (o := ⟨some 11, _, _, _, _, _⟩) rfl (fun K hK => ?_) AllReadyH.nil
    go_simp
    refine (split_any b _ HB32.out).mono ?_
    rintro e w65 ⟨rfl, hb'⟩
    try replace HR : Kp _ := ⟨HR.out.below hb' HR.out.lt⟩
    try replace HW : Kp _ := ⟨HW.out.below hb' HW.out.lt⟩
    refine hK.out _ _ (hHeld.next hb') (fun hHeld2 => ?_)
    clear hb'
    clear hK K hHeld
    have hHeld := hHeld2
    clear hHeld2
    try simp only [Act.put, List.setIfInBounds_toArray, List.set_cons_zero, List.set_cons_succ]
    refine wpAnyH_ready (rs := [4]) (by kernel_rfl) (by simp) ?_
    refine AllReadyH.cons (o := ⟨some 12, _, _, _, _, _⟩) rfl (fun K hK => ?_) AllReadyH.nil
    go_simp
    refine (minus_any (getN a) (getN b) _ HGa.out HGb.out).mono ?_
    rintro e w66 ⟨rfl, hb'⟩
    try replace HR : Kp _ := ⟨HR.out.below hb' HR.out.lt⟩
    try replace HW : Kp _ := ⟨HW.out.below hb' HW.out.lt⟩
    refine hK.out _ _ (hHeld.next hb') (fun hHeld2 => ?_)
    clear hb'
    clear hK K hHeld
    have hHeld := hHeld2
    clear hHeld2
    try simp only [Act.put, List.setIfInBounds_toArray, List.set_cons_zero, List.set_cons_succ]
    refine wpAnyH_take (i := 5) (oi := ⟨some 7, _, _, _, _, _⟩) (v := ?_) rfl (by kernel_rfl) (by kernel_rfl) (by kernel_rfl) (fun _ _ _ h => h) (Or.inl ⟨by rfl, by intro w hSw; go_simp; try rfl⟩) (by assumption) ?_
    try simp only [Act.put, List.setIfInBounds_toArray, List.set_cons_zero, List.set_cons_succ]
    refine wpAnyH_take (i := 6) (oi := ⟨some 13, _, _, _, _, _⟩) (v := ?_) rfl (by kernel_rfl) (by kernel_rfl) (by kernel_rfl) (fun _ _ _ h => h) (Or.inl ⟨by rfl, by intro w hSw; go_simp; try rfl⟩) (by assumption) ?_
    try simp only [Act.put, List.setIfInBounds_toArray, List.set_cons_zero, List.set_cons_succ]
    refine wpAnyH_take (i := 7) (oi := ⟨some 14, _, _, _, _, _⟩) (v := ?_) rfl (by kernel_rfl) (by kernel_rfl) (by kernel_rfl) (fun _ _ _ h => h) (Or.inl ⟨by rfl, by intro w hSw; go_simp; try rfl⟩) (by assumption) ?_
    try simp only [Act.put, List.setIfInBounds_toArray, List.set_cons_zero, List.set_cons_succ]
    refine wpAnyH_ready (rs := [9]) (by kernel_rfl) (by simp) ?_
    refine AllReadyH.cons (o := ⟨none, _, _, _, _, _⟩) rfl (fun K hK => ?_) AllReadyH.nil
    have HL3 : Kp ((numCells (W4 (subN (getN a) (getN b)))).length = 4) := ⟨by rw [numCells_length, W4_length]⟩
    refine step_store rwWords rfl (.tmp 5) (.tmp 13) rfl rfl rfl HW.out HL3.out (fit_all32 (l := zeroW4) rfl) (numCells_one _) ?_
    intro w67 hk ho
    try replace HR : Kp _ := ⟨HR.out.only ho (by omega)⟩
    refine hK.out _ _ (hHeld.only ho m1 m2 m3) (fun hHeld2 => ?_)
    have HV : Kp (Blk w67 g5 41 (numCells (W4 (subN (getN a) (getN b))))) := ⟨by have h := hk; rw [store_all32 (n := 4) rfl] at h; exact h⟩
    clear hk ho HW
    clear hK K hHeld
    have hHeld := hHeld2
    clear hHeld2
    try simp only [Act.put]
    refine wpAnyH_take (i := 10) (oi := ⟨some 6, _, _, _, _, _⟩) (v := ?_) rfl (by kernel_rfl) (by kernel_rfl) (by kernel_rfl) (fun _ _ _ h => h) (Or.inl ⟨by rfl, by intro w hSw; go_simp; try rfl⟩) (by assumption) ?_
    try simp only [Act.put, List.setIfInBounds_toArray, List.set_cons_zero, List.set_cons_succ]
    refine wpAnyH_done (by kernel_rfl) ?_ _
    have HLv : Kp ((numCells (W4 (subN (getN a) (getN b)))).length = 4) := ⟨by rw [numCells_length, W4_length]⟩
    clear m1 m2 m3 m4
    go_wp2_with (with_reducible refine wpList_loadAll (o := ⟨some 15, _, _, _, _, _⟩) rwWords rfl (.tmp 5) rfl rfl HV.out HLv.out ?_)
    go_wp2_with fail
    refine (HDg.out _).mono ?_
    rintro e wz ⟨rfl, hb'⟩
    replace HR : Kp _ := ⟨HR.out.below hb' HR.out.lt⟩
    have hB := hHeld.below.trans (hb'.mono hHeld.below.size)
    have HZ : Kp (zero32.length = 32) := ⟨rfl⟩
    clear HV hb'
    go_wp2_with (refine wpList_storeAll (o := ⟨none, _, _, _, _, _⟩) (vs := cells8 L) rwDig rfl (.tmp 4) (.tmp 16) rfl rfl HR.out HZ.out HLr.out (cells8_one _) rfl ?_)
    intro wy hk ho
    have HKf : Kp _ := ⟨hk⟩
    clear hk
    go_wp2
    exact ret_arr rfl rwDig rfl HKf.out HLr.out rfl ⟨rfl, hB.trans (ho.below (by omega))⟩
end Go.Proofs.Ytjllfaeamjadcaa

namespace Go.Proofs.Ytjllfaeamjadcaa
open Go.RowKit

theorem dig_built0 : (Try.prog).built 23 [] = some (cells8 z32).toArray := by kernel_rfl
theorem hiD (l : List UInt8) (h : (cells8 l).length = 32) : ((Try.prog).info? 23).map (·.size) = some (cells8 l).length := by rw [h]; exact rwDig.size
section
variable {P : Program} {w : World} {ops : Array Oper} {rest : List Oper} {o : Oper} {a : Act} {Q : Exit → Act → World → Prop} {t : TypeId}
theorem wpList_build0 (hg : o.guard = none) (hop : o.op = .build t #[]) {cs : List Value} (hb : P.built t [] = some cs.toArray)
    (h : wpList P ops Q rest (a.put o.dst (.agg cs.toArray)) w) : wpList P ops Q (o :: rest) a w := by
  refine wpList_plain hg fun K hK => ?_
  unfold Oper.wp execOp
  have hr := run_build (P := P) w t #[] cs.toArray (by simpa using hb)
  simp only [hop, Sem.run_bind, List.map_toArray, List.map_nil, hr, Result.andThen_ok]
  exact hK _ _ h
theorem yieldsIf_build0 {S : World → Prop} (hw : Region.wanted o (yielded ops a.tmps) = true) (hop : o.op = .build t #[]) {cs : List Value} (hb : P.built t [] = some cs.toArray) : YieldsIf P ops S o (.agg cs.toArray) a :=
  .inl ⟨hw, fun w _ => by
    have hr := run_build (P := P) w t #[] cs.toArray (by simpa using hb)
    unfold execOp
    simp only [hop, Sem.run_bind, List.map_toArray, List.map_nil, hr, Result.andThen_ok, Sem.run_pure]⟩
end
def ffL (k : Nat) : List UInt8 := List.replicate k 255 ++ List.replicate (32 - k) 0
def oneL : List UInt8 := z32.set 31 1
theorem ff_set : ∀ k < 32, (ffL k).set k 255 = ffL (k + 1) := by decide
theorem ff_length : ∀ k < 33, (ffL k).length = 32 := by decide
theorem ff_none : ffL 0 = z32 := by decide
theorem known_add : addL (ffL 32) oneL = z32 := by decide +kernel
theorem known_sub : subL z32 oneL = ffL 32 := by decide +kernel
theorem known_less : lessL oneL (ffL 32) = true := by decide +kernel
theorem cells8_set' (l : List UInt8) (k : Nat) (b : UInt8) : (cells8 l).set k (.int .u8 (b.toNat : Int)) = cells8 (l.set k b) := by unfold cells8; rw [List.map_set]
theorem huD : (Try.prog).underlying 23 = some (.array 32 5) := rwDig.ty
set_option maxRecDepth 100000 in
set_option maxHeartbeats 4000000 in
theorem known5_any (w : World) : Calls Try.prog 16 #[] w fun e w' => e = .returned (.bool true) ∧ Below w.heap.size w w' := by
  obtain ⟨Z, hZ⟩ : ∃ Z, Z = z32 := ⟨_, rfl⟩
  have HB0 : Kp ((Try.prog).built 23 [] = some (cells8 Z).toArray) := ⟨by rw [hZ]; exact dig_built0⟩
  have HZl : Kp (Z.length = 32) := ⟨by rw [hZ]; rfl⟩
  have HLZ : Kp ((cells8 Z).length = 32) := ⟨by rw [cells8_length]; exact HZl.out⟩
  have HZz : Kp (zero32.length = 32) := ⟨rfl⟩
  obtain ⟨U, hU⟩ : ∃ U, U = oneL := ⟨_, rfl⟩
  have HUl : Kp (U.length = 32) := ⟨by rw [hU]; decide⟩
  have HLU : Kp ((cells8 U).length = 32) := ⟨by rw [cells8_length]; exact HUl.out⟩
  have HUs : Kp ((cells8 Z).set 31 (.int .u8 1) = cells8 U) := ⟨by rw [hU, hZ]; exact cells8_set' z32 31 1⟩
  have hc31 : (cells8 Z)[31]? = some (.int .u8 0) := by rw [hZ, cells8_at z32 31 (by decide)]; rfl
  obtain ⟨F, hF⟩ : ∃ F, F = ffL 32 := ⟨_, rfl⟩
  have HFl : Kp (F.length = 32) := ⟨by rw [hF]; decide⟩
  have HLF : Kp ((cells8 F).length = 32) := ⟨by rw [cells8_length]; exact HFl.out⟩
  have C1 : Kp (∀ W, Calls Try.prog 10 #[.agg (cells8 F).toArray, .agg (cells8 U).toArray] W fun e w' => e = .returned (.agg (cells8 Z).toArray) ∧ Below W.heap.size W w') := ⟨fun W => by
    have h := sadd_any F U W HFl.out HUl.out
    rw [show addL F U = Z by rw [hF, hU, hZ]; exact known_add] at h; exact h⟩
  have C2 : Kp (∀ W, Calls Try.prog 12 #[.agg (cells8 Z).toArray, .agg (cells8 U).toArray] W fun e w' => e = .returned (.agg (cells8 F).toArray) ∧ Below W.heap.size W w') := ⟨fun W => by
    have h := ssub_any Z U W HZl.out HUl.out
    rw [show subL Z U = F by rw [hF, hU, hZ]; exact known_sub] at h; exact h⟩
  have C3 : Kp (∀ W, Calls Try.prog 14 #[.agg (cells8 U).toArray, .agg (cells8 F).toArray] W fun e w' => e = .returned (.bool true) ∧ Below W.heap.size W w') := ⟨fun W => by
    have h := less_any U F W HUl.out HFl.out
    rw [show lessL U F = true by rw [hF, hU]; exact known_less] at h; exact h⟩
  have HF0 : Kp (cells8 (ffL 0) = cells8 Z) := ⟨by rw [hZ, ff_none]⟩
  have HF9 : Kp (cells8 (ffL 32) = cells8 F) := ⟨by rw [hF]⟩
  clear hZ hU hF
  go_enter Try.func16, Try.ntmps16
  go_wp2_with (first
    | (refine wpList_build0 (o := ⟨some 4, _, _, _, _, _⟩) rfl rfl HB0.out ?_)
    | (with_reducible refine wpList_alloc (o := ⟨some 1, _, _, _, _, _⟩) tyDig rfl rfl ?_))
  intro w1 hk1 hb1 hs1
  have HA1 : Kp _ := ⟨hk1⟩
  clear hk1 hs1
  go_wp2_with (refine wpList_storeAll (o := ⟨none, _, _, _, _, _⟩) (vs := cells8 Z) rwDig rfl (.tmp 1) (.tmp 4) rfl rfl HA1.out HZz.out HLZ.out (cells8_one _) rfl ?_)
  intro w2 hk2 ho2
  have HA2 : Kp _ := ⟨hk2⟩
  have hB2 : Below w.heap.size w w2 := hb1.trans (ho2.below (Nat.le_refl _))
  clear hk2 ho2 HA1 hb1
  go_wp2_with (first
    | (refine wpList_build0 (o := ⟨some 5, _, _, _, _, _⟩) rfl rfl HB0.out ?_)
    | (with_reducible refine wpList_alloc (o := ⟨some 2, _, _, _, _, _⟩) tyDig rfl rfl ?_))
  intro w3 hk3 hb3 hs3
  have HO3 : Kp _ := ⟨hk3⟩
  have HA3 : Kp _ := ⟨HA2.out.below hb3 HA2.out.lt⟩
  have hB3 := hB2.trans (hb3.mono hB2.size)
  have n1 : w.heap.size < w2.heap.size := HA2.out.lt
  obtain ⟨go, hgo⟩ : ∃ g, g = w2.heap.size := ⟨_, rfl⟩
  rw [← hgo] at HO3 n1 ⊢
  clear hk3 hb3 hs3 hB2 HA2 hgo
  go_wp2_with (refine wpList_storeAll (o := ⟨none, _, _, _, _, _⟩) (vs := cells8 Z) rwDig rfl (.tmp 2) (.tmp 5) rfl rfl HO3.out HZz.out HLZ.out (cells8_one _) rfl ?_)
  intro w4 hk4 ho4
  have HO4 : Kp _ := ⟨hk4⟩
  have HA4 : Kp _ := ⟨HA3.out.only ho4 (by omega)⟩
  have hB4 := hB3.trans (ho4.below (by omega))
  have hco : w4.cell? ⟨go, 31, none⟩ = some (.int .u8 0) := by rw [HO4.out.cell?]; exact hc31
  have hfo := HO4.out.frozen 31
  clear hk4 ho4 HO3 HA3 hB3
  go_wp2
  have HO5 : Kp (Blk (w4.setCell ⟨go, 31, none⟩ (.int .u8 1)) go 23 (cells8 U)) := ⟨by have h := HO4.out.set 31 (.int .u8 1); rw [HUs.out] at h; exact h⟩
  have HA5 : Kp (Blk (w4.setCell ⟨go, 31, none⟩ (.int .u8 1)) w.heap.size 23 (cells8 (ffL 0))) := ⟨by rw [HF0.out]; exact HA4.out.other (by show w.heap.size ≠ go; omega) _⟩
  have hB5 : Below w.heap.size w (w4.setCell ⟨go, 31, none⟩ (.int .u8 1)) := hB4.setCell (by show w.heap.size ≤ go; omega) _
  generalize w4.setCell ⟨go, 31, none⟩ (.int .u8 1) = w5 at *
  clear hB4 hco hfo HO4 HA4
  go_loopg [3] 32 (fun gk vi wr => ∃ k : Nat, k + gk = 32 ∧ vi = .int .i64 k ∧ Kp (Blk wr w.heap.size 23 (cells8 (ffL k))) ∧ Kp (Blk wr go 23 (cells8 U)) ∧ Below w.heap.size w wr)
  case atStart => exact ⟨0, by omega, rfl, HA5, HO5, hB5⟩
  case round =>
    clear HA5 HO5 hB5
    obtain ⟨k, hk, rfl, HA, HO, hB⟩ := hrel
    cases gk with
    | succ g2 =>
      have hkI : (k : Int) < 32 := by omega
      have hlt : k < (cells8 (ffL k)).length := by rw [cells8_length, ff_length k (by omega)]; omega
      have hco := HA.out.cell (i := k) hlt
      have hfo := HA.out.frozen k
      have HSet : Kp ((cells8 (ffL k)).set k (.int .u8 255) = cells8 (ffL (k + 1))) := ⟨by rw [← ff_set k (by omega)]; exact cells8_set' _ _ 255⟩
      generalize (cells8 (ffL k))[k]'_ = q at hco
      clear hlt
      go_wp2
      go_roundg g2
      case rel => exact ⟨k + 1, by omega, by go_num, ⟨by have h3 := HA.out.set k (.int .u8 255); rw [HSet.out] at h3; exact h3⟩, ⟨HO.out.other (by show go ≠ w.heap.size; omega) _⟩, hB.setCell (Nat.le_refl _) _⟩
      case measure => omega
    | zero =>
      obtain rfl : k = 32 := by omega
      have hT : Two w w.heap.size go 23 (cells8 F) (cells8 U) wr := ⟨by rw [← HF9.out]; exact HA.out, HO.out, hB⟩
      clear HA HO hB
      obtain ⟨wa, rfl⟩ : ∃ x, x = wr := ⟨wr, rfl⟩
      go_wp2_with fail
      refine wp_region_held_drew (S := Two w w.heap.size go 23 (cells8 F) (cells8 U)) (by kernel_rfl) (hT.drew) (fun hHeld => ?_)
      generalize wa.drew = wS at *
      refine wpAnyH_take (i := 0) (oi := ⟨some 13, _, _, _, _, _⟩) (v := _) rfl (by kernel_rfl) (by kernel_rfl) (by kernel_rfl) (fun _ _ _ h => h) (yieldsIf_load_mid (by rfl) _ (.tmp 1) rfl _ _ rfl (cells8 F) _ (fun W hW => hW.a.range (take_all32 HLF.out)) huD rfl (hiD F HLF.out)) (by assumption) ?_
      try simp only [Act.put, List.setIfInBounds_toArray, List.set_cons_zero, List.set_cons_succ]
      refine wpAnyH_take (i := 1) (oi := ⟨some 14, _, _, _, _, _⟩) (v := _) rfl (by kernel_rfl) (by kernel_rfl) (by kernel_rfl) (fun _ _ _ h => h) (yieldsIf_load_mid (by rfl) _ (.tmp 2) rfl _ _ rfl (cells8 U) _ (fun W hW => hW.b.range (take_all32 HLU.out)) huD rfl (hiD U HLU.out)) (by assumption) ?_
      try simp only [Act.put, List.setIfInBounds_toArray, List.set_cons_zero, List.set_cons_succ]
      refine wpAnyH_take (i := 3) (oi := ⟨some 16, _, _, _, _, _⟩) (v := _) rfl (by kernel_rfl) (by kernel_rfl) (by kernel_rfl) (fun _ _ _ h => h) (yieldsIf_build0 (by rfl) rfl HB0.out) (by assumption) ?_
      try simp only [Act.put, List.setIfInBounds_toArray, List.set_cons_zero, List.set_cons_succ]
      refine wpAnyH_ready (rs := [2]) (by kernel_rfl) (by simp) ?_
      refine AllReadyH.cons (o := ⟨some 15, _, _, _, _, _⟩) rfl (fun K hK => ?_) AllReadyH.nil
      go_simp
      refine (C1.out _).mono ?_
      rintro e w51 ⟨rfl, hb'⟩
      refine hK.out _ _ (hHeld.next hb') (fun hHeld2 => ?_)
      clear hb'
      clear hK K hHeld
      have hHeld := hHeld2
      clear hHeld2
      try simp only [Act.put, List.setIfInBounds_toArray, List.set_cons_zero, List.set_cons_succ]
      refine wpAnyH_take (i := 4) (oi := ⟨some 17, _, _, _, _, _⟩) (v := _) rfl (by kernel_rfl) (by kernel_rfl) (by kernel_rfl) (fun _ _ _ h => h) (yieldsIf_eql (by rfl) eqDig Try.eqGuardType23 (.tmp 15) (.tmp 16) rfl Z Z rfl rfl HZl.out HZl.out (beq_self_eq_true _)) (by assumption) ?_
      try simp only [Act.put, List.setIfInBounds_toArray, List.set_cons_zero, List.set_cons_succ]
      refine wpAnyH_take (i := 5) (oi := ⟨some 18, _, _, _, _, _⟩) (v := ?_) rfl (by kernel_rfl) (by kernel_rfl) (by kernel_rfl) (fun _ _ _ h => h) (Or.inl ⟨by rfl, by intro w hSw; go_simp; try rfl⟩) (by assumption) ?_
      try simp only [Act.put, List.setIfInBounds_toArray, List.set_cons_zero, List.set_cons_succ]
      refine wpAnyH_take (i := 6) (oi := ⟨some 19, _, _, _, _, _⟩) (v := _) rfl (by kernel_rfl) (by kernel_rfl) (by kernel_rfl) (fun _ _ _ h => h) (yieldsIf_build0 (by rfl) rfl HB0.out) (by assumption) ?_
      try simp only [Act.put, List.setIfInBounds_toArray, List.set_cons_zero, List.set_cons_succ]
      refine wpAnyH_take (i := 7) (oi := ⟨some 20, _, _, _, _, _⟩) (v := _) rfl (by kernel_rfl) (by kernel_rfl) (by kernel_rfl) (fun _ _ _ h => h) (yieldsIf_load_mid (by rfl) _ (.tmp 2) rfl _ _ rfl (cells8 U) _ (fun W hW => hW.b.range (take_all32 HLU.out)) huD rfl (hiD U HLU.out)) (by assumption) ?_
      try simp only [Act.put, List.setIfInBounds_toArray, List.set_cons_zero, List.set_cons_succ]
      refine wpAnyH_take (i := 9) (oi := ⟨some 22, _, _, _, _, _⟩) (v := _) rfl (by kernel_rfl) (by kernel_rfl) (by kernel_rfl) (fun _ _ _ h => h) (yieldsIf_load_mid (by rfl) _ (.tmp 1) rfl _ _ rfl (cells8 F) _ (fun W hW => hW.a.range (take_all32 HLF.out)) huD rfl (hiD F HLF.out)) (by assumption) ?_
      try simp only [Act.put, List.setIfInBounds_toArray, List.set_cons_zero, List.set_cons_succ]
      refine wpAnyH_ready (rs := [8]) (by kernel_rfl) (by simp) ?_
      refine AllReadyH.cons (o := ⟨some 21, _, _, _, _, _⟩) rfl (fun K hK => ?_) AllReadyH.nil
      go_simp
      refine (C2.out _).mono ?_
      rintro e w52 ⟨rfl, hb'⟩
      refine hK.out _ _ (hHeld.next hb') (fun hHeld2 => ?_)
      clear hb'
      clear hK K hHeld
      have hHeld := hHeld2
      clear hHeld2
      try simp only [Act.put, List.setIfInBounds_toArray, List.set_cons_zero, List.set_cons_succ]
      refine wpAnyH_take (i := 10) (oi := ⟨some 23, _, _, _, _, _⟩) (v := _) rfl (by kernel_rfl) (by kernel_rfl) (by kernel_rfl) (fun _ _ _ h => h) (yieldsIf_eql (by rfl) eqDig Try.eqGuardType23 (.tmp 21) (.tmp 22) rfl F F rfl rfl HFl.out HFl.out (beq_self_eq_true _)) (by assumption) ?_
      try simp only [Act.put, List.setIfInBounds_toArray, List.set_cons_zero, List.set_cons_succ]
      refine wpAnyH_take (i := 11) (oi := ⟨some 24, _, _, _, _, _⟩) (v := ?_) rfl (by kernel_rfl) (by kernel_rfl) (by kernel_rfl) (fun _ _ _ h => h) (Or.inl ⟨by rfl, by intro w hSw; go_simp; try rfl⟩) (by assumption) ?_
      try simp only [Act.put, List.setIfInBounds_toArray, List.set_cons_zero, List.set_cons_succ]
      refine wpAnyH_take (i := 12) (oi := ⟨some 25, _, _, _, _, _⟩) (v := ?_) rfl (by kernel_rfl) (by kernel_rfl) (by kernel_rfl) (fun _ _ _ h => h) (Or.inl ⟨by rfl, by intro w hSw; go_simp; try rfl⟩) (by assumption) ?_
      try simp only [Act.put, List.setIfInBounds_toArray, List.set_cons_zero, List.set_cons_succ]
      refine wpAnyH_take (i := 13) (oi := ⟨some 26, _, _, _, _, _⟩) (v := _) rfl (by kernel_rfl) (by kernel_rfl) (by kernel_rfl) (fun _ _ _ h => h) (yieldsIf_load_mid (by rfl) _ (.tmp 2) rfl _ _ rfl (cells8 U) _ (fun W hW => hW.b.range (take_all32 HLU.out)) huD rfl (hiD U HLU.out)) (by assumption) ?_
      try simp only [Act.put, List.setIfInBounds_toArray, List.set_cons_zero, List.set_cons_succ]
      refine wpAnyH_take (i := 14) (oi := ⟨some 27, _, _, _, _, _⟩) (v := _) rfl (by kernel_rfl) (by kernel_rfl) (by kernel_rfl) (fun _ _ _ h => h) (yieldsIf_load_mid (by rfl) _ (.tmp 1) rfl _ _ rfl (cells8 F) _ (fun W hW => hW.a.range (take_all32 HLF.out)) huD rfl (hiD F HLF.out)) (by assumption) ?_
      try simp only [Act.put, List.setIfInBounds_toArray, List.set_cons_zero, List.set_cons_succ]
      refine wpAnyH_ready (rs := [15]) (by kernel_rfl) (by simp) ?_
      refine AllReadyH.cons (o := ⟨some 28, _, _, _, _, _⟩) rfl (fun K hK => ?_) AllReadyH.nil
      go_simp
      refine (C3.out _).mono ?_
      rintro e w53 ⟨rfl, hb'⟩
      refine hK.out _ _ (hHeld.next hb') (fun hHeld2 => ?_)
      clear hb'
      clear hK K hHeld
      have hHeld := hHeld2
      clear hHeld2
      try simp only [Act.put, List.setIfInBounds_toArray, List.set_cons_zero, List.set_cons_succ]
      refine wpAnyH_take (i := 16) (oi := ⟨some 29, _, _, _, _, _⟩) (v := ?_) rfl (by kernel_rfl) (by kernel_rfl) (by kernel_rfl) (fun _ _ _ h => h) (Or.inl ⟨by rfl, by intro w hSw; go_simp; try rfl⟩) (by assumption) ?_
      try simp only [Act.put, List.setIfInBounds_toArray, List.set_cons_zero, List.set_cons_succ]
      refine wpAnyH_take (i := 17) (oi := ⟨some 0, _, _, _, _, _⟩) (v := ?_) rfl (by kernel_rfl) (by kernel_rfl) (by kernel_rfl) (fun _ _ _ h => h) (Or.inl ⟨by rfl, by intro w hSw; go_simp; try rfl⟩) (by assumption) ?_
      try simp only [Act.put, List.setIfInBounds_toArray, List.set_cons_zero]
      refine wpAnyH_done (by kernel_rfl) ?_ _
      go_wp2
      go_ret
      exact ⟨by rfl, hHeld.below⟩
end Go.Proofs.Ytjllfaeamjadcaa

namespace Go.Proofs.Ytjllfaeamjadcaa
open Go.RowKit

theorem add_parts_at (m n k : Nat) : ∃ c x y s d : Nat, c ≤ 1 ∧ x < 256 ∧ y < 256 ∧ s < 256 ∧ ((c : Int) + (x : Int) + (y : Int)) % 256 = (s : Int) ∧ ((c : Int) + (x : Int) + (y : Int)) / 256 = (d : Int) ∧ Kp (carryB m n k = c) ∧ Kp (byN m k = x) ∧ Kp (byN n k = y) ∧ Kp (byN (m + n) k = s) ∧ Kp (carryB m n (k + 1) = d) := by
  refine ⟨_, _, _, _, _, carryB_le m n k, byN_lt m k, byN_lt n k, byN_lt (m + n) k, ?_, ?_, ⟨rfl⟩, ⟨rfl⟩, ⟨rfl⟩, ⟨rfl⟩, ⟨rfl⟩⟩
  · rw [(add_byte m n k).1]; omega
  · rw [(add_byte m n k).2]; omega
set_option maxRecDepth 100000 in
set_option maxHeartbeats 4000000 in
theorem refadd_any (a b : List UInt8) (w : World) (ha : a.length = 32) (hb : b.length = 32) : Calls Try.prog 11 #[.agg (cells8 a).toArray, .agg (cells8 b).toArray] w fun e w' => e = .returned (.agg (cells8 (addL a b)).toArray) ∧ Below w.heap.size w w' := by
  have Hal : Kp _ := ⟨ha⟩
  have Hbl : Kp _ := ⟨hb⟩
  have HLa : Kp ((cells8 a).length = 32) := ⟨by rw [cells8_length]; exact ha⟩
  have HLb : Kp ((cells8 b).length = 32) := ⟨by rw [cells8_length]; exact hb⟩
  obtain ⟨L, hL⟩ : ∃ L, L = addL a b := ⟨_, rfl⟩
  have HTa : Kp (cells8 (tailB (getN a + getN b) 32) = cells8 L) := ⟨by rw [hL, tailB_all]; rfl⟩
  have HLL : Kp ((cells8 L).length = 32) := ⟨by rw [hL, cells8_length, addL_length]⟩
  rw [← hL]
  have HB0 : Kp ((Try.prog).built 23 [] = some (cells8 (tailB (getN a + getN b) 0)).toArray) := ⟨by rw [tailB_none]; exact dig_built0⟩
  have HLZ : Kp ((cells8 (tailB (getN a + getN b) 0)).length = 32) := ⟨by rw [cells8_length, tailB_length _ _ (by decide)]⟩
  have HZz : Kp (zero32.length = 32) := ⟨rfl⟩
  have HC0 : Kp _ := ⟨carryB_zero (getN a) (getN b)⟩
  clear hL ha hb
  go_enter Try.func11, Try.ntmps11
  go_wp2_with (with_reducible refine wpList_box (o := ⟨some 2, _, _, _, _, _⟩) rfl (.tmp 0) rfl rfl ?_)
  intro w1 hk1 hb1 hs1
  have HK1 : Kp _ := ⟨hk1⟩
  clear hk1 hs1
  go_wp2_with (with_reducible refine wpList_box (o := ⟨some 3, _, _, _, _, _⟩) rfl (.tmp 1) rfl rfl ?_)
  intro w2 hk2 hb2 hs2
  have hT2 : Two w w.heap.size w1.heap.size 23 (cells8 a) (cells8 b) w2 := ⟨HK1.out.below hb2 HK1.out.lt, hk2, hb1.trans (hb2.mono hb1.size)⟩
  have n1 : w.heap.size < w1.heap.size := HK1.out.lt
  have n2 : w1.heap.size < w2.heap.size := hk2.lt
  obtain ⟨gb, hgb⟩ : ∃ g, g = w1.heap.size := ⟨_, rfl⟩
  rw [← hgb] at hT2 n1 n2 ⊢
  clear hk2 hb1 hb2 hs2 HK1 hgb
  go_wp2_with (with_reducible refine wpList_alloc (o := ⟨some 4, _, _, _, _, _⟩) tyDig rfl rfl ?_)
  intro w3 hk3 hb3 hs3
  have HR3 : Kp _ := ⟨hk3⟩
  have hT3 := hT2.next hb3
  obtain ⟨gr, hgr⟩ : ∃ g, g = w2.heap.size := ⟨_, rfl⟩
  have n3 : gr < w3.heap.size := by rw [hgr]; exact HR3.out.lt
  rw [← hgr] at HR3 n2 ⊢
  clear hk3 hb3 hs3 hT2 hgr
  go_wp2_with (first
    | (refine wpList_build0 (o := ⟨some 8, _, _, _, _, _⟩) rfl rfl HB0.out ?_)
    | (with_reducible refine wpList_alloc (o := ⟨some 5, _, _, _, _, _⟩) tyDig rfl rfl ?_))
  intro w4 hk4 hb4 hs4
  have HO4 : Kp _ := ⟨hk4⟩
  have HR4 : Kp _ := ⟨HR3.out.below hb4 HR3.out.lt⟩
  have hT4 := hT3.next hb4
  obtain ⟨go, hgo⟩ : ∃ g, g = w3.heap.size := ⟨_, rfl⟩
  rw [← hgo] at HO4 n3 ⊢
  clear hk4 hb4 hs4 hT3 HR3 hgo
  go_wp2_with (refine wpList_storeAll (o := ⟨none, _, _, _, _, _⟩) (vs := cells8 (tailB (getN a + getN b) 0)) rwDig rfl (.tmp 5) (.tmp 8) rfl rfl HO4.out HZz.out HLZ.out (cells8_one _) rfl ?_)
  intro w5 hk5 ho5
  have HO5 : Kp _ := ⟨hk5⟩
  have HR5 : Kp _ := ⟨HR4.out.only ho5 (by omega)⟩
  have HA5 : Kp (Blk w5 w.heap.size 23 (cells8 a)) := ⟨hT4.a.only ho5 (by omega)⟩
  have HB5 : Kp (Blk w5 gb 23 (cells8 b)) := ⟨hT4.b.only ho5 (by omega)⟩
  have hB5 := hT4.below.trans (ho5.below (by omega))
  clear hk5 ho5 HO4 HR4 hT4
  go_wp2
  go_loopg [6, 7] 32 (fun gk vc vi wr => ∃ k : Nat, k + gk = 32 ∧ vi = .int .i64 (31 - (k : Int)) ∧ vc = .int .i64 ((carryB (getN a) (getN b) k : Nat) : Int) ∧ Kp (Blk wr go 23 (cells8 (tailB (getN a + getN b) k))) ∧ Kp (Blk wr gr 23 zero32) ∧ Kp (Blk wr w.heap.size 23 (cells8 a)) ∧ Kp (Blk wr gb 23 (cells8 b)) ∧ Below w.heap.size w wr)
  case atStart => exact ⟨0, by omega, by go_num, by rw [HC0.out]; rfl, HO5, HR5, HA5, HB5, hB5⟩
  case round =>
    clear HO5 HR5 HA5 HB5 hB5 HC0
    obtain ⟨k, hk, rfl, rfl, HO, HR, HA, HB, hB⟩ := hrel
    cases gk with
    | zero =>
      obtain rfl : k = 32 := by omega
      have HD : Kp (Blk wr go 23 (cells8 L)) := ⟨by rw [← HTa.out]; exact HO.out⟩
      generalize carryB (getN a) (getN b) 32 = c9 at *
      clear HO HA HB
      go_wp2_with (first
        | (with_reducible refine wpList_loadAll (o := ⟨some 31, _, _, _, _, _⟩) rwDig rfl (.tmp 5) rfl rfl HD.out HLL.out ?_)
        | (with_reducible refine wpList_storeAll (o := ⟨none, _, _, _, _, _⟩) (vs := cells8 L) rwDig rfl (.tmp 4) (.tmp 31) rfl rfl HR.out HZz.out HLL.out (cells8_one _) rfl ?_))
      intro w7 hk7 ho7
      have HK7 : Kp _ := ⟨hk7⟩
      clear hk7
      go_wp2
      exact ret_arr rfl rwDig rfl HK7.out HLL.out rfl ⟨rfl, hB.trans (ho7.below (by omega))⟩
    | succ g2 =>
      have hk32 : k < 32 := by omega
      obtain ⟨j, hj⟩ : ∃ j : Nat, (31 : Int) - (k : Int) = (j : Int) := ⟨31 - k, by omega⟩
      have hjk : j = 31 - k := by omega
      have hj32 : (j : Int) < 32 := by omega
      obtain ⟨c, x, y, s, d, hc1, hx, hy, hs, hm, hd, HC, HX, HY, HS, HD⟩ := add_parts_at (getN a) (getN b) k
      have hca : wr.cell? ⟨w.heap.size, j, none⟩ = some (.int .u8 (x : Int)) := by rw [HA.out.cell?, hjk, cells8_at a _ (by rw [Hal.out]; omega), byte_at a Hal.out k hk32, HX.out]
      have hcb : wr.cell? ⟨gb, j, none⟩ = some (.int .u8 (y : Int)) := by rw [HB.out.cell?, hjk, cells8_at b _ (by rw [Hbl.out]; omega), byte_at b Hbl.out k hk32, HY.out]
      have hco : wr.cell? ⟨go, j, none⟩ = some (.int .u8 0) := by rw [HO.out.cell?, hjk]; exact tailB_spot _ k hk32
      have hfo := HO.out.frozen j
      have HSet : Kp _ := ⟨tailB_set (getN a + getN b) k hk32⟩
      rw [HS.out, ← hjk] at HSet
      have HJ : Kp _ := ⟨hj⟩
      rw [hj, HC.out]
      have hj31 : j = 31 - k := hjk
      have HJN : Kp _ := ⟨hj31⟩
      clear hj hjk hj31
      obtain ⟨wa, rfl⟩ : ∃ x, x = wr := ⟨wr, rfl⟩
      go_wp2_with fail
      go_still (by kernel_rfl)
      go_wp2
      go_roundg g2
      case rel => exact ⟨k + 1, by omega, by have h := HJN.out; go_num, by rw [HD.out, hd], ⟨by have h3 := HO.out.set j (.int .u8 (s : Int)); rw [HSet.out] at h3; exact h3.drew⟩, ⟨(HR.out.other (by show gr ≠ go; omega) _).drew⟩, ⟨(HA.out.other (by show w.heap.size ≠ go; omega) _).drew⟩, ⟨(HB.out.other (by show gb ≠ go; omega) _).drew⟩, (hB.setCell (by show w.heap.size ≤ go; omega) _).drew⟩
      case measure => omega
end Go.Proofs.Ytjllfaeamjadcaa
