/- The contract of package sum's minus. -/
import Derived.Test.YtjllfaeamjadcaaSumWords
namespace Go.Proofs.Ytjllfaeamjadcaa
open Go.RowKit

set_option maxRecDepth 100000 in
set_option maxHeartbeats 4000000 in
theorem minus_any (m n : Nat) (w : World) (hm : m < 256 ^ 32) (hn : n < 256 ^ 32) : Calls Try.prog 25 #[.agg (numCells (W4 m)).toArray, .agg (numCells (W4 n)).toArray] w fun e w' => e = .returned (.tuple #[.agg (numCells (W4 (subN m n))).toArray, .bool (decide (m < n))]) ∧ Below w.heap.size w w' := by
  have HLm : Kp ((numCells (W4 m)).length = 4) := ⟨by rw [numCells_length, W4_length]⟩
  have HMl : Kp _ := ⟨hm⟩
  have HNl : Kp _ := ⟨hn⟩
  clear hm hn
  go_enter Try.func25, Try.ntmps25
  go_wp2_with (with_reducible refine wpList_box (o := ⟨some 2, _, _, _, _, _⟩) rfl (.tmp 0) rfl rfl ?_)
  intro w1 hk1 hb1 hs1
  have HK1 : Kp _ := ⟨hk1⟩
  clear hk1 hs1
  go_wp2_with (with_reducible refine wpList_box (o := ⟨some 3, _, _, _, _, _⟩) rfl (.tmp 1) rfl rfl ?_)
  intro w2 hk2 hb2 hs2
  have HN2 : Kp _ := ⟨hk2⟩
  have HA2 : Kp _ := ⟨HK1.out.below hb2 HK1.out.lt⟩
  have hB2 : Below w.heap.size w w2 := hb1.trans (hb2.mono hb1.size)
  have n1 : w.heap.size < w1.heap.size := HK1.out.lt
  clear hk2 hb1 hb2 hs2 HK1
  go_wp2_with (with_reducible refine wpList_alloc (o := ⟨some 4, _, _, _, _, _⟩) tyWords rfl rfl ?_)
  intro w3 hk3 hb3 hs3
  have HR3 : Kp _ := ⟨hk3⟩
  have HN3 : Kp _ := ⟨HN2.out.below hb3 HN2.out.lt⟩
  have HA3 : Kp (Blk w3 w.heap.size 41 (numCells (part4 (dg (subN m n)) (dg m) 0))) := ⟨by rw [part4_none]; exact HA2.out.below hb3 HA2.out.lt⟩
  have hB3 : Below w.heap.size w w3 := hB2.trans (hb3.mono hB2.size)
  have n2 : w1.heap.size < w2.heap.size := HN2.out.lt
  obtain ⟨gn, hgn⟩ : ∃ g, g = w1.heap.size := ⟨_, rfl⟩
  obtain ⟨gr, hgr⟩ : ∃ g, g = w2.heap.size := ⟨_, rfl⟩
  rw [← hgn] at HN3 n1 n2
  rw [← hgr] at HR3 n2
  rw [← hgn, ← hgr]
  have HC0 : Kp _ := ⟨borrowN_zero m n⟩
  clear hk3 hb3 hs3 HN2 HA2 hB2 hgn hgr
  go_wp2
  go_loopg [6, 8] 4 (fun gk vc vi wr => ∃ k : Nat, k + gk = 4 ∧ vi = .int .i64 k ∧ vc = .int .u64 ((borrowN m n k : Nat) : Int) ∧ Kp (Blk wr w.heap.size 41 (numCells (part4 (dg (subN m n)) (dg m) k))) ∧ Kp (Blk wr gn 41 (numCells (W4 n))) ∧ Kp (Blk wr gr 41 zeroW4) ∧ Below w.heap.size w wr)
  case atStart => exact ⟨0, by omega, rfl, by rw [HC0.out]; rfl, HA3, HN3, HR3, hB3⟩
  case round =>
    clear HA3 HN3 HR3 hB3 HC0
    obtain ⟨k, hk, rfl, rfl, HA, HN, HR, hB⟩ := hrel
    cases gk with
    | zero =>
      obtain rfl : k = 4 := by omega
      have HD : Kp (Blk wr w.heap.size 41 (numCells (W4 (subN m n)))) := ⟨by rw [← part4_all (subN m n) (dg m)]; exact HA.out⟩
      have HLen : Kp ((numCells (W4 (subN m n))).length = 4) := ⟨by rw [numCells_length, W4_length]⟩
      have HZ : Kp (zeroW4.length = 4) := ⟨rfl⟩
      obtain ⟨bb, hbb⟩ : ∃ b : Nat, b = borrowN m n 4 := ⟨_, rfl⟩
      have HBq : Kp (((bb : Int) == 1) = decide (m < n)) := ⟨by
        rw [hbb, borrow_end m n HMl.out HNl.out]
        by_cases h : m < n
        · rw [if_pos h, decide_eq_true h]; rfl
        · rw [if_neg h, decide_eq_false h]; rfl⟩
      rw [← hbb]
      clear hbb
      generalize hL : W4 (subN m n) = L at *
      have HL : Kp _ := ⟨hL⟩
      clear HA HN hL
      go_wp2_with (first
        | (with_reducible refine wpList_loadAll (o := ⟨some 25, _, _, _, _, _⟩) rwWords rfl (.tmp 2) rfl rfl HD.out HLen.out ?_)
        | (with_reducible refine wpList_storeAll (o := ⟨none, _, _, _, _, _⟩) (vs := numCells L) rwWords rfl (.tmp 4) (.tmp 25) rfl rfl HR.out HZ.out HLen.out (numCells_one _) rfl ?_))
      intro w5 hk5 ho5
      have HK5 : Kp _ := ⟨hk5⟩
      clear hk5
      go_wp2
      exact ret_arr_tmp rfl rwWords rfl rfl HK5.out HLen.out rfl ⟨by rw [HL.out, ← HBq.out]; rfl, hB.trans (ho5.below (by omega))⟩
    | succ g2 =>
      have hkI : (k : Int) < 4 := by omega
      have hk4 : k < 4 := by omega
      obtain ⟨x, y, c, s, d, hc1, HX, HY, HCx, HS, HD, hrun⟩ := minus_parts m n k hk4 HNl.out
      have hca : wr.cell? ⟨w.heap.size, k, none⟩ = some (.int .u64 (x : Int)) := by rw [HA.out.cell?, part4_at _ _ _ _ hk4 (Nat.le_refl _), HX.out]
      have hcn : wr.cell? ⟨gn, k, none⟩ = some (.int .u64 (y : Int)) := by rw [HN.out.cell?, W4_at _ _ hk4, HY.out]
      have hfa := HA.out.frozen k
      have HSet : Kp _ := ⟨part4_set (dg (subN m n)) (dg m) k⟩
      rw [HS.out] at HSet
      rw [HCx.out]
      obtain ⟨wa, rfl⟩ : ∃ x, x = wr := ⟨wr, rfl⟩
      go_wp2_with fail
      replace hca : wa.drew.cell? ⟨w.heap.size, k, none⟩ = some (.int .u64 (x : Int)) := hca
      replace hcn : wa.drew.cell? ⟨gn, k, none⟩ = some (.int .u64 (y : Int)) := hcn
      replace hfa : wa.drew.frozen? ⟨w.heap.size, k, none⟩ = false := hfa
      refine wp_region_any (by kernel_rfl) ?_
      change wpAny _ _ _ _ _ _ _ wa.drew
      replace HA : Kp _ := ⟨HA.out.drew⟩
      replace HN : Kp _ := ⟨HN.out.drew⟩
      replace HR : Kp _ := ⟨HR.out.drew⟩
      replace hB := hB.drew
      generalize wa.drew = wS at *
      refine wpAny_take (i := 0) (oi := ⟨some 12, _, _, _, _, _⟩) (v := ?_) rfl (by kernel_rfl) (by kernel_rfl) (by kernel_rfl) (fun _ _ _ h => h) (Or.inl ⟨by rfl, by intro w; go_simp; try rfl⟩) ?_
      try simp only [Act.put, List.setIfInBounds_toArray, List.set_cons_zero, List.set_cons_succ]
      refine wpAny_take (i := 1) (oi := ⟨some 13, _, _, _, _, _⟩) (v := ?_) rfl (by kernel_rfl) (by kernel_rfl) (by kernel_rfl) (fun _ _ _ h => h) (Or.inl ⟨by rfl, by intro w; go_simp; try rfl⟩) ?_
      try simp only [Act.put, List.setIfInBounds_toArray, List.set_cons_zero, List.set_cons_succ]
      refine wpAny_take (i := 2) (oi := ⟨some 14, _, _, _, _, _⟩) (v := ?_) rfl (by kernel_rfl) (by kernel_rfl) (by kernel_rfl) (fun _ _ _ h => h) (Or.inl ⟨by rfl, by intro w; go_simp; try rfl⟩) ?_
      try simp only [Act.put, List.setIfInBounds_toArray, List.set_cons_zero, List.set_cons_succ]
      refine wpAny_take (i := 4) (oi := ⟨some 16, _, _, _, _, _⟩) (v := ?_) rfl (by kernel_rfl) (by kernel_rfl) (by kernel_rfl) (fun _ _ _ h => h) (Or.inl ⟨by rfl, by intro w; go_simp; try rfl⟩) ?_
      try simp only [Act.put, List.setIfInBounds_toArray, List.set_cons_zero, List.set_cons_succ]
      refine wpAny_take (i := 5) (oi := ⟨some 17, _, _, _, _, _⟩) (v := ?_) rfl (by kernel_rfl) (by kernel_rfl) (by kernel_rfl) (fun _ _ _ h => h) (Or.inl ⟨by rfl, by intro w; go_simp; try rfl⟩) ?_
      try simp only [Act.put, List.setIfInBounds_toArray, List.set_cons_zero, List.set_cons_succ]
      refine wpAny_take (i := 7) (oi := ⟨some 19, _, _, _, _, _⟩) (v := ?_) rfl (by kernel_rfl) (by kernel_rfl) (by kernel_rfl) (fun _ _ _ h => h) (Or.inl ⟨by rfl, by intro w; go_simp; try rfl⟩) ?_
      try simp only [Act.put, List.setIfInBounds_toArray, List.set_cons_zero, List.set_cons_succ]
      refine wpAny_ready (rs := [3, 6]) (by kernel_rfl) (by simp) ?_
      refine AllReady.cons (o := ⟨some 15, _, _, _, _, _⟩) rfl (fun K hK => ?_) (AllReady.cons (o := ⟨some 18, _, _, _, _, _⟩) rfl (fun K hK => ?_) AllReady.nil)
      · go_simp
        refine hK _ _ ?_
        clear hK K
        try simp only [Act.put, List.setIfInBounds_toArray, List.set_cons_zero, List.set_cons_succ]
        refine wpAny_ready (rs := [6]) (by kernel_rfl) (by simp) ?_
        refine AllReady.cons (o := ⟨some 18, _, _, _, _, _⟩) rfl (fun K hK => ?_) AllReady.nil
        go_simp
        refine hK _ _ ?_
        clear hK K
        try simp only [Act.put, List.setIfInBounds_toArray, List.set_cons_zero, List.set_cons_succ]
        refine wpAny_take (i := 8) (oi := ⟨some 20, _, _, _, _, _⟩) (v := _) rfl (by kernel_rfl) (by kernel_rfl) (by kernel_rfl) (fun _ _ _ h => h) (Or.inl ⟨by rfl, by intro w; go_simp; try rfl⟩) ?_
        try simp only [Act.put, List.setIfInBounds_toArray, List.set_cons_zero, List.set_cons_succ]
        refine wpAny_take (i := 9) (oi := ⟨some 11, _, _, _, _, _⟩) (v := ?_) rfl (by kernel_rfl) (by kernel_rfl) (by kernel_rfl) (fun _ _ _ h => h) (Or.inl ⟨by rfl, by intro w; go_simp; try rfl⟩) ?_
        try simp only [Act.put, List.setIfInBounds_toArray, List.set_cons_zero, List.set_cons_succ]
        refine wpAny_take (i := 10) (oi := ⟨some 21, _, _, _, _, _⟩) (v := ?_) rfl (by kernel_rfl) (by kernel_rfl) (by kernel_rfl) (fun _ _ _ h => h) (Or.inl ⟨by rfl, by intro w; go_simp; try rfl⟩) ?_
        try simp only [Act.put, List.setIfInBounds_toArray, List.set_cons_zero, List.set_cons_succ]
        refine wpAny_take (i := 11) (oi := ⟨some 22, _, _, _, _, _⟩) (v := ?_) rfl (by kernel_rfl) (by kernel_rfl) (by kernel_rfl) (fun _ _ _ h => h) (Or.inl ⟨by rfl, by intro w; go_simp; try rfl⟩) ?_
        try simp only [Act.put, List.setIfInBounds_toArray, List.set_cons_zero, List.set_cons_succ]
        refine wpAny_take (i := 12) (oi := ⟨some 23, _, _, _, _, _⟩) (v := ?_) rfl (by kernel_rfl) (by kernel_rfl) (by kernel_rfl) (fun _ _ _ h => h) (Or.inl ⟨by rfl, by intro w; go_simp; try rfl⟩) ?_
        try simp only [Act.put, List.setIfInBounds_toArray, List.set_cons_zero, List.set_cons_succ]
        refine wpAny_ready (rs := [13]) (by kernel_rfl) (by simp) ?_
        refine AllReady.cons (o := ⟨none, _, _, _, _, _⟩) rfl (fun K hK => ?_) AllReady.nil
        go_simp
        refine hK _ _ ?_
        clear hK K
        try simp only [Act.put, List.setIfInBounds_toArray, List.set_cons_zero, List.set_cons_succ]
        refine wpAny_take (i := 14) (oi := ⟨some 6, _, _, _, _, _⟩) (v := ?_) rfl (by kernel_rfl) (by kernel_rfl) (by kernel_rfl) (fun _ _ _ h => h) (Or.inl ⟨by rfl, by intro w; go_simp; try rfl⟩) ?_
        try simp only [Act.put, List.setIfInBounds_toArray, List.set_cons_zero, List.set_cons_succ]
        refine wpAny_done (by kernel_rfl) ?_ _
        go_wp2
        go_roundg g2
        case rel => exact ⟨k + 1, by omega, by go_num, by rw [HD.out], ⟨by have h3 := HA.out.set k (.int .u64 (s : Int)); rw [HSet.out] at h3; exact h3⟩, ⟨HN.out.other (by show _ ≠ w.heap.size; omega) _⟩, ⟨HR.out.other (by show _ ≠ w.heap.size; omega) _⟩, hB.setCell (by show w.heap.size ≤ w.heap.size; omega) _⟩
        case measure => omega
      · go_simp
        refine hK _ _ ?_
        clear hK K
        try simp only [Act.put, List.setIfInBounds_toArray, List.set_cons_zero, List.set_cons_succ]
        refine wpAny_ready (rs := [3]) (by kernel_rfl) (by simp) ?_
        refine AllReady.cons (o := ⟨some 15, _, _, _, _, _⟩) rfl (fun K hK => ?_) AllReady.nil
        go_simp
        refine hK _ _ ?_
        clear hK K
        try simp only [Act.put, List.setIfInBounds_toArray, List.set_cons_zero, List.set_cons_succ]
        refine wpAny_take (i := 8) (oi := ⟨some 20, _, _, _, _, _⟩) (v := _) rfl (by kernel_rfl) (by kernel_rfl) (by kernel_rfl) (fun _ _ _ h => h) (Or.inl ⟨by rfl, by intro w; go_simp; try rfl⟩) ?_
        try simp only [Act.put, List.setIfInBounds_toArray, List.set_cons_zero, List.set_cons_succ]
        refine wpAny_take (i := 9) (oi := ⟨some 11, _, _, _, _, _⟩) (v := ?_) rfl (by kernel_rfl) (by kernel_rfl) (by kernel_rfl) (fun _ _ _ h => h) (Or.inl ⟨by rfl, by intro w; go_simp; try rfl⟩) ?_
        try simp only [Act.put, List.setIfInBounds_toArray, List.set_cons_zero, List.set_cons_succ]
        refine wpAny_take (i := 10) (oi := ⟨some 21, _, _, _, _, _⟩) (v := ?_) rfl (by kernel_rfl) (by kernel_rfl) (by kernel_rfl) (fun _ _ _ h => h) (Or.inl ⟨by rfl, by intro w; go_simp; try rfl⟩) ?_
        try simp only [Act.put, List.setIfInBounds_toArray, List.set_cons_zero, List.set_cons_succ]
        refine wpAny_take (i := 11) (oi := ⟨some 22, _, _, _, _, _⟩) (v := ?_) rfl (by kernel_rfl) (by kernel_rfl) (by kernel_rfl) (fun _ _ _ h => h) (Or.inl ⟨by rfl, by intro w; go_simp; try rfl⟩) ?_
        try simp only [Act.put, List.setIfInBounds_toArray, List.set_cons_zero, List.set_cons_succ]
        refine wpAny_take (i := 12) (oi := ⟨some 23, _, _, _, _, _⟩) (v := ?_) rfl (by kernel_rfl) (by kernel_rfl) (by kernel_rfl) (fun _ _ _ h => h) (Or.inl ⟨by rfl, by intro w; go_simp; try rfl⟩) ?_
        try simp only [Act.put, List.setIfInBounds_toArray, List.set_cons_zero, List.set_cons_succ]
        refine wpAny_ready (rs := [13]) (by kernel_rfl) (by simp) ?_
        refine AllReady.cons (o := ⟨none, _, _, _, _, _⟩) rfl (fun K hK => ?_) AllReady.nil
        go_simp
        refine hK _ _ ?_
        clear hK K
        try simp only [Act.put, List.setIfInBounds_toArray, List.set_cons_zero, List.set_cons_succ]
        refine wpAny_take (i := 14) (oi := ⟨some 6, _, _, _, _, _⟩) (v := ?_) rfl (by kernel_rfl) (by kernel_rfl) (by kernel_rfl) (fun _ _ _ h => h) (Or.inl ⟨by rfl, by intro w; go_simp; try rfl⟩) ?_
        try simp only [Act.put, List.setIfInBounds_toArray, List.set_cons_zero, List.set_cons_succ]
        refine wpAny_done (by kernel_rfl) ?_ _
        go_wp2
        go_roundg g2
        case rel => exact ⟨k + 1, by omega, by go_num, by rw [HD.out], ⟨by have h3 := HA.out.set k (.int .u64 (s : Int)); rw [HSet.out] at h3; exact h3⟩, ⟨HN.out.other (by show _ ≠ w.heap.size; omega) _⟩, ⟨HR.out.other (by show _ ≠ w.heap.size; omega) _⟩, hB.setCell (by show w.heap.size ≤ w.heap.size; omega) _⟩
        case measure => omega
end Go.Proofs.Ytjllfaeamjadcaa
