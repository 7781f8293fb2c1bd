/- The contract of package sum's digest. -/
import Derived.Test.YtjllfaeamjadcaaSumSplit
namespace Go.Proofs.Ytjllfaeamjadcaa
open Go.RowKit

theorem tail_cells (n k : Nat) (hk : k < 4) : (cells8 (tailL n k)).take (24 - 8 * k) ++ (cells8 (putN (dg n k) 8) ++ (cells8 (tailL n k)).drop (24 - 8 * k + 8)) = cells8 (tailL n (k + 1)) := by
  rw [← tail_next n k hk, cells8_append, cells8_append]
  unfold cells8
  rw [List.map_take, List.map_drop]
set_option maxRecDepth 100000 in
set_option maxHeartbeats 4000000 in
theorem sdigest_any (n : Nat) (w : World) : Calls Try.prog 24 #[.agg (numCells (W4 n)).toArray] w fun e w' => e = .returned (.agg (cells8 (putN n 32)).toArray) ∧ Below w.heap.size w w' := by
  have HLm : Kp ((numCells (W4 n)).length = 4) := ⟨by rw [numCells_length, W4_length]⟩
  go_enter Try.func24, Try.ntmps24
  go_wp2_with (with_reducible refine wpList_box (o := ⟨some 1, _, _, _, _, _⟩) rfl (.tmp 0) rfl rfl ?_)
  intro w1 hk1 hb1 hs1
  have HC1 : Kp _ := ⟨hk1⟩
  clear hk1 hs1
  go_wp2_with (with_reducible refine wpList_alloc (o := ⟨some 2, _, _, _, _, _⟩) tyDig rfl rfl ?_)
  intro w2 hk2 hb2 hs2
  have HR2 : Kp _ := ⟨hk2⟩
  have HC2 : Kp _ := ⟨HC1.out.below hb2 HC1.out.lt⟩
  have hB2 : Below w.heap.size w w2 := hb1.trans (hb2.mono hb1.size)
  have n1 : w.heap.size < w1.heap.size := HC1.out.lt
  clear hk2 hb1 hb2 hs2 HC1
  go_wp2_with (with_reducible refine wpList_alloc (o := ⟨some 3, _, _, _, _, _⟩) tyDig rfl rfl ?_)
  intro w3 hk3 hb3 hs3
  have HD3 : Kp (Blk w3 w2.heap.size 23 (cells8 (tailL n 0))) := ⟨by rw [tail_none]; exact hk3⟩
  have HR3 : Kp _ := ⟨HR2.out.below hb3 HR2.out.lt⟩
  have HC3 : Kp _ := ⟨HC2.out.below hb3 HC2.out.lt⟩
  have hB3 : Below w.heap.size w w3 := hB2.trans (hb3.mono hB2.size)
  have n2 : w1.heap.size < w2.heap.size := HR2.out.lt
  obtain ⟨gr, hgr⟩ : ∃ g, g = w1.heap.size := ⟨_, rfl⟩
  obtain ⟨gd, hgd⟩ : ∃ g, g = w2.heap.size := ⟨_, rfl⟩
  rw [← hgr] at HR3 n1 n2
  rw [← hgd] at HD3 n2
  rw [← hgr, ← hgd]
  clear hk3 hb3 hs3 HR2 HC2 hB2 hgr hgd
  go_wp2_with (with_reducible refine wpList_loadAll (o := ⟨some 6, _, _, _, _, _⟩) rwWords rfl (.tmp 1) rfl rfl HC3.out HLm.out ?_)
  go_wp2
  go_loopg [7] 4 (fun gk vi wr => ∃ k : Nat, k + gk = 4 ∧ vi = .int .i64 k ∧ Kp (Blk wr gd 23 (cells8 (tailL n k))) ∧ Kp (Blk wr gr 23 zero32) ∧ Kp (Blk wr w.heap.size 41 (numCells (W4 n))) ∧ Below w.heap.size w wr)
  case atStart => exact ⟨0, by omega, rfl, HD3, HR3, HC3, hB3⟩
  case round =>
    clear HD3 HR3 HC3 hB3
    obtain ⟨k, hk, rfl, HD, HR, HC, hB⟩ := hrel
    cases gk with
    | zero =>
      obtain rfl : k = 4 := by omega
      have HQ : Kp (Blk wr gd 23 (cells8 (putN n 32))) := ⟨by rw [← tail_all n]; exact HD.out⟩
      have HLen : Kp ((cells8 (putN n 32)).length = 32) := ⟨by rw [cells8_length, putN_length]⟩
      have HZ : Kp (zero32.length = 32) := ⟨rfl⟩
      generalize hL : putN n 32 = L at *
      have HL : Kp _ := ⟨hL⟩
      clear HD hL
      go_wp2_with (first
        | (with_reducible refine wpList_loadAll (o := ⟨some 18, _, _, _, _, _⟩) rwDig rfl (.tmp 3) rfl rfl HQ.out HLen.out ?_)
        | (with_reducible refine wpList_storeAll (o := ⟨none, _, _, _, _, _⟩) (vs := cells8 L) rwDig rfl (.tmp 2) (.tmp 18) rfl rfl HR.out HZ.out HLen.out (cells8_one _) rfl ?_))
      intro w5 hk5 ho5
      have HK5 : Kp _ := ⟨hk5⟩
      clear hk5
      go_wp2
      exact ret_arr rfl rwDig rfl HK5.out HLen.out rfl ⟨by rw [HL.out], hB.trans (ho5.below (by omega))⟩
    | succ g2 =>
      have hkI : (k : Int) < 4 := by omega
      have hk4 : k < 4 := by omega
      obtain ⟨s, hs⟩ : ∃ s : Nat, s = 24 - 8 * k := ⟨_, rfl⟩
      have hs24 : s ≤ 24 := by omega
      have hSt := fun W => sstart_any k W hk4
      have hTN := tail_cells n k hk4
      have hx64 := dg_lt n k
      have he := W4_at n k hk4
      rw [← hs] at hTN
      simp only [← hs] at hSt
      have HSC : Kp _ := ⟨hSt⟩
      have HTN : Kp _ := ⟨hTN⟩
      have hsl := fun W => dig_slice_l gd s hs24 W
      generalize dg n k = x at *
      clear hSt hTN hs
      go_wp2_with (with_reducible refine wpList_index (o := ⟨some 10, _, _, _, _, _⟩) rwWords.ty plain64 rfl (.tmp 6) (.tmp 7) rfl rfl rfl k rfl hk4 he ?_)
      go_wp2_with fail
      obtain ⟨wa, rfl⟩ : ∃ x, x = wr := ⟨wr, rfl⟩
      refine wp_region_any (by kernel_rfl) ?_
      change wpAny _ _ _ _ _ _ _ wa.drew
      replace HC : Kp _ := ⟨HC.out.drew⟩
      replace HR : Kp _ := ⟨HR.out.drew⟩
      replace HD : Kp _ := ⟨HD.out.drew⟩
      replace hB := hB.drew
      generalize wa.drew = wS at *
      refine wpAny_take (i := 0) (oi := ⟨some 11, _, _, _, _, _⟩) (v := ?_) rfl (by kernel_rfl) (by kernel_rfl) (by kernel_rfl) (fun _ _ _ h => h) (Or.inl ⟨by rfl, by intro w; go_simp; try rfl⟩) ?_
      try simp only [Act.put, List.setIfInBounds_toArray, List.set_cons_zero, List.set_cons_succ]
      refine wpAny_take (i := 3) (oi := ⟨some 14, _, _, _, _, _⟩) (v := ?_) rfl (by kernel_rfl) (by kernel_rfl) (by kernel_rfl) (fun _ _ _ h => h) (Or.inl ⟨by rfl, by intro w; go_simp; try rfl⟩) ?_
      try simp only [Act.put, List.setIfInBounds_toArray, List.set_cons_zero, List.set_cons_succ]
      refine wpAny_ready (rs := [1]) (by kernel_rfl) (by simp) ?_
      refine AllReady.cons (o := ⟨some 12, _, _, _, _, _⟩) rfl (fun K hK => ?_) AllReady.nil
      go_simp
      refine (HSC.out wS).mono ?_
      rintro e w61 ⟨rfl, rfl⟩
      refine hK _ _ ?_
      clear hK K
      try simp only [Act.put, List.setIfInBounds_toArray, List.set_cons_zero, List.set_cons_succ]
      refine wpAny_take (i := 2) (oi := ⟨some 13, _, _, _, _, _⟩) (v := _) rfl (by kernel_rfl) (by kernel_rfl) (by kernel_rfl) (fun _ _ _ h => h) (Or.inl ⟨by rfl, by intro w; go_simp; try rfl⟩) ?_
      try simp only [Act.put, List.setIfInBounds_toArray, List.set_cons_zero, List.set_cons_succ]
      refine wpAny_ready (rs := [4]) (by kernel_rfl) (by simp) ?_
      refine AllReady.cons (o := ⟨some 15, _, _, _, _, _⟩) rfl (fun K hK => ?_) AllReady.nil
      go_simp
      refine (put_any x 8 _ hx64).mono ?_
      rintro e w62 ⟨v, rfl, hown, hb'⟩
      obtain ⟨Ap, cp, rfl, hbs⟩ := Bs.of_own hown
      have HP : Kp _ := ⟨hbs⟩
      refine hK _ _ ?_
      clear hK K hown hbs
      try simp only [Act.put, List.setIfInBounds_toArray, List.set_cons_zero, List.set_cons_succ]
      replace HC : Kp _ := ⟨HC.out.below hb' HC.out.lt⟩
      replace HR : Kp _ := ⟨HR.out.below hb' HR.out.lt⟩
      replace HD : Kp _ := ⟨HD.out.below hb' HD.out.lt⟩
      replace hB := hB.trans (hb'.mono hB.size)
      clear hb'
      refine wpAny_ready (rs := [5]) (by kernel_rfl) (by simp) ?_
      refine AllReady.cons (o := ⟨some 16, _, _, _, _, _⟩) rfl (fun K hK => ?_) AllReady.nil
      obtain ⟨ad, hAd⟩ : ∃ ad, Ap = some ad := by
        obtain ⟨b, o, h, _⟩ := HP.out.cells (by decide)
        exact ⟨_, h⟩
      subst hAd
      have hnw := HP.out.news _ rfl
      refine step_copy_splice rfl (.tmp 13) (.tmp 15) _ _ rfl 5 Try.underlying27 (by kernel_rfl) _ _ _ _ _ _ rfl rfl gd s (cells8 (tailL n k)) 23 HD.out.heap (cells8 (putN x 8)) (by rw [cells8_length, putN_length]; show 8 = min 8 (32 - s); omega) (fun _ => ⟨rfl, _, rfl, hnw⟩) (by rw [cells8_length, cells8_length, putN_length, tailL_length _ _ (by omega)]; omega) (cells8_one _) gd w62 (Below.refl _ _) (Nat.le_refl _) ?_
      intro w63 hh hb'
      have HDn : Kp (Blk w63 gd 23 (cells8 (tailL n (k + 1)))) := ⟨⟨by have h3 := hh.out; unfold splice at h3; rw [cells8_length, putN_length, HTN.out] at h3; exact h3⟩⟩
      replace HC : Kp _ := ⟨HC.out.below hb' (by omega)⟩
      replace HR : Kp _ := ⟨HR.out.below hb' (by omega)⟩
      replace hB := hB.trans (hb'.mono (by omega))
      refine hK _ _ ?_
      clear hK K hh hb'
      try simp only [Act.put, List.setIfInBounds_toArray, List.set_cons_zero, List.set_cons_succ]
      refine wpAny_done (by kernel_rfl) ?_ _
      go_wp2
      go_roundg g2
      case rel => exact ⟨k + 1, by omega, by go_num, HDn, HR, HC, hB⟩
      case measure => omega
end Go.Proofs.Ytjllfaeamjadcaa
