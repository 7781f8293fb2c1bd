/- The contract of sacristanref04's Xor. -/
import Derived.Test.YtleplilcpcgacaaR4Str
namespace Go.Proofs.Ytleplilcpcgacaa
open Go.RowKit

section
attribute [local go_sem] u8_xor'
set_option maxRecDepth 100000 in
set_option maxHeartbeats 4000000 in
theorem refxor_any (KA : Option Addr) (kc : Nat) (BA : Option Addr) (bc : Nat) (key at' : List UInt8) (B : Option Addr) (n c : Nat) (b : List UInt8) (w : World) (hc : CIs w w.heap.size KA kc (keysL boxB key) BA bc boxB) (ha : at'.length = 16) (hb : Bs w w.heap.size B n c b) (hn : n ≤ 1048576) :
    Calls Try.prog 27 #[.agg #[.slice KA 11 kc, .slice BA 256 bc], .agg (cells8 at').toArray, .slice B n c] w fun e w' => ∃ A d, e = .returned (.slice A n d) ∧ Bs w' w'.heap.size A n d (addL b (strL (strF key at') n) n) ∧ Below w.heap.size w w' := by
  have HC : Kp _ := ⟨hc⟩
  have HA : Kp _ := ⟨ha⟩
  have HB : Kp _ := ⟨hb⟩
  have HLa : Kp ((cells8 at').length = 16) := ⟨by rw [cells8_length]; exact ha⟩
  have HLc : Kp (([Value.slice KA 11 kc, .slice BA 256 bc] : List Value).length = 2) := ⟨rfl⟩
  have hnI : (n : Int) ≤ 1048576 := by omega
  clear hc ha hb
  go_enter Try.func27, Try.ntmps27
  go_wp2_with (with_reducible refine wpList_box (o := ⟨some 3, _, _, _, _, _⟩) (cs := [.slice KA 11 kc, .slice BA 256 bc]) rfl (.tmp 0) rfl rfl ?_)
  intro w1 hk1 hb1 hs1
  have HK1 : Kp _ := ⟨hk1⟩
  have HC1 : Kp _ := ⟨HC.out.next hb1⟩
  have HB1 : Kp _ := ⟨HB.out.next hb1 (Nat.le_refl _)⟩
  clear hk1 hs1 HC HB
  go_wp2_with (with_reducible refine wpList_box (o := ⟨some 4, _, _, _, _, _⟩) rfl (.tmp 1) rfl rfl ?_)
  intro w2 hk2 hb2 hs2
  have HT2 : Kp _ := ⟨hk2⟩
  have HK2 : Kp _ := ⟨HK1.out.below hb2 HK1.out.lt⟩
  have HC2 : Kp _ := ⟨HC1.out.next hb2⟩
  have HB2 : Kp _ := ⟨HB1.out.next hb2 (Nat.le_refl _)⟩
  have hB2 : Below w.heap.size w w2 := hb1.trans (hb2.mono hb1.size)
  clear hk2 hs2 hb1 hb2 HK1 HC1 HB1
  go_wp2_with (first
    | (with_reducible refine wpList_loadAll (o := ⟨some 13, _, _, _, _, _⟩) rwC rfl (.tmp 3) rfl rfl HK2.out HLc.out ?_)
    | (with_reducible refine wpList_loadAll (o := ⟨some 14, _, _, _, _, _⟩) rwNonce rfl (.tmp 4) rfl rfl HT2.out HLa.out ?_))
  refine (refstream_any KA kc BA bc key at' (n : Int) w2 HC2.out HA.out (by omega)).mono ?_
  rintro e w3 ⟨v3, rfl, hown, hb3⟩
  rw [show ((n : Int)).toNat = n by omega] at hown
  obtain ⟨A3, c3, rfl, hs3⟩ := Bs.of_own hown
  have HS3 : Kp _ := ⟨hs3⟩
  have HB3 : Kp _ := ⟨HB2.out.next hb3 (Nat.le_refl _)⟩
  have hB3 : Below w.heap.size w w3 := hB2.trans (hb3.mono hB2.size)
  have hXl : Kp ((strL (strF key at') n).length = n) := ⟨strL_length _ _⟩
  have hbl : Kp (b.length = n) := ⟨HB2.out.len⟩
  have hc63 := HB2.out.le
  obtain ⟨b3, hb30⟩ : ∃ x, x = w3.heap.size := ⟨_, rfl⟩
  rw [← hb30] at HS3 HB3
  have hle3 : b3 ≤ w3.heap.size := by rw [hb30]; exact Nat.le_refl _
  have hw3 : w.heap.size ≤ b3 := by rw [hb30]; exact hB3.size
  obtain ⟨S, hS⟩ : ∃ S, S = strL (strF key at') n := ⟨_, rfl⟩
  have HSS : Kp _ := ⟨hS⟩
  rw [← hS] at HS3 hXl
  clear hS hown hs3 HK2 HT2 HC2 HB2 hb3 hB2 hb30
  go_wp2
  go_loopw [8, 9] (fun v i wr => ∃ j : Nat, j ≤ n ∧ i = .int .i64 j ∧ Hid (wr.ownsRow b3 5 1 v j (cells8 (addL b S j))) ∧ Below b3 w3 wr) (fun _ i _ => n - (intOf i).toNat)
  case atStart => exact ⟨0, Nat.zero_le _, rfl, own_nil _ _ _, Below.refl _ _⟩
  case round =>
    obtain ⟨j, hj, rfl, H, hB⟩ := hrel
    by_cases hlt : j < n
    · have hsz := Nat.le_trans hle3 hB.size
      obtain ⟨b1, o1, rfl, hb1, hc1⟩ := (HB3.out.below hB).cell (i := j) (by omega)
      obtain ⟨b2, o2, rfl, hb2, hc2⟩ := (HS3.out.below hB).cell (i := j) (by omega)
      have HS : Kp _ := ⟨addL_succ b S j⟩
      have e1 : b.getD j 0 = b[j]'(by rw [hbl.out]; omega) := by simp [List.getD, List.getElem?_eq_getElem (show j < b.length by rw [hbl.out]; omega)]
      have e2 : S.getD j 0 = S[j]'(by rw [hXl.out]; omega) := by simp [List.getD, List.getElem?_eq_getElem (show j < S.length by rw [hXl.out]; omega)]
      rw [← e1] at hc1
      rw [← e2] at hc2
      clear e1 e2
      generalize b.getD j 0 = x at *
      generalize S.getD j 0 = y at *
      have q1 : ∀ W, Below b3 wr W → W.cell? ⟨b1, o1 + j, none⟩ = some (.int .u8 (x.toNat : Int)) := fun W hW => (hW.cell (p := ⟨b1, o1 + j, none⟩) hb1).trans hc1
      have q2 : ∀ W, Below b3 wr W → W.cell? ⟨b2, o2 + j, none⟩ = some (.int .u8 (y.toNat : Int)) := fun W hW => (hW.cell (p := ⟨b2, o2 + j, none⟩) hb2).trans hc2
      have hjn : (j : Int) < (n : Int) := by omega
      clear hc1 hc2
      go_wp2_with fail
      refine wp_region_held_drew (S := fun W => Below b3 wr W) (by kernel_rfl) ((Below.refl _ _).drew) (fun hHeld => ?_)
      refine wpAnyH_take (i := 0) (oi := ⟨some 24, _, _, _, _, _⟩) (v := ?_) rfl (by kernel_rfl) (by kernel_rfl) (by kernel_rfl) (fun _ _ _ h => h) (Or.inl ⟨by rfl, by intro w hSw; go_simp; try rfl⟩) (by assumption) ?_
      try simp only [Act.put, List.setIfInBounds_toArray, List.set_cons_zero, List.set_cons_succ]
      refine wpAnyH_take (i := 1) (oi := ⟨some 25, _, _, _, _, _⟩) (v := ?_) rfl (by kernel_rfl) (by kernel_rfl) (by kernel_rfl) (fun _ _ _ h => h) (Or.inl ⟨by rfl, by intro w hSw; go_simp; try rfl⟩) (by assumption) ?_
      try simp only [Act.put, List.setIfInBounds_toArray, List.set_cons_zero, List.set_cons_succ]
      refine wpAnyH_take (i := 2) (oi := ⟨some 26, _, _, _, _, _⟩) (v := ?_) rfl (by kernel_rfl) (by kernel_rfl) (by kernel_rfl) (fun _ _ _ h => h) (Or.inl ⟨by rfl, by intro w hSw; go_simp; try rfl⟩) (by assumption) ?_
      try simp only [Act.put, List.setIfInBounds_toArray, List.set_cons_zero, List.set_cons_succ]
      refine wpAnyH_take (i := 3) (oi := ⟨some 27, _, _, _, _, _⟩) (v := ?_) rfl (by kernel_rfl) (by kernel_rfl) (by kernel_rfl) (fun _ _ _ h => h) (Or.inl ⟨by rfl, by intro w hSw; go_simp; try rfl⟩) (by assumption) ?_
      try simp only [Act.put, List.setIfInBounds_toArray, List.set_cons_zero, List.set_cons_succ]
      refine wpAnyH_take (i := 4) (oi := ⟨some 28, _, _, _, _, _⟩) (v := ?_) rfl (by kernel_rfl) (by kernel_rfl) (by kernel_rfl) (fun _ _ _ h => h) (Or.inl ⟨by rfl, by intro w hSw; go_simp; try rfl⟩) (by assumption) ?_
      try simp only [Act.put, List.setIfInBounds_toArray, List.set_cons_zero, List.set_cons_succ]
      refine wpAnyH_take (i := 5) (oi := ⟨some 29, _, _, _, _, _⟩) (v := ?_) rfl (by kernel_rfl) (by kernel_rfl) (by kernel_rfl) (fun _ _ _ h => h) (Or.inl ⟨by rfl, by intro w hSw; go_simp; try rfl⟩) (by assumption) ?_
      try simp only [Act.put, List.setIfInBounds_toArray, List.set_cons_zero, List.set_cons_succ]
      refine wpAnyH_take (i := 6) (oi := ⟨some 30, _, _, _, _, _⟩) (v := ?_) rfl (by kernel_rfl) (by kernel_rfl) (by kernel_rfl) (fun _ _ _ h => h) (Or.inl ⟨by rfl, by intro w hSw; go_simp; try rfl⟩) (by assumption) ?_
      try simp only [Act.put, List.setIfInBounds_toArray, List.set_cons_zero, List.set_cons_succ]
      refine wpAnyH_take (i := 7) (oi := ⟨some 31, _, _, _, _, _⟩) (v := ?_) rfl (by kernel_rfl) (by kernel_rfl) (by kernel_rfl) (fun _ _ _ h => h) (Or.inl ⟨by rfl, by intro w hSw; go_simp; try rfl⟩) (by assumption) ?_
      try simp only [Act.put, List.setIfInBounds_toArray, List.set_cons_zero, List.set_cons_succ]
      refine wpAnyH_take (i := 8) (oi := ⟨some 32, _, _, _, _, _⟩) (v := ?_) rfl (by kernel_rfl) (by kernel_rfl) (by kernel_rfl) (fun _ _ _ h => h) (Or.inl ⟨by rfl, by intro w hSw; go_simp; try rfl⟩) (by assumption) ?_
      try simp only [Act.put, List.setIfInBounds_toArray, List.set_cons_zero, List.set_cons_succ]
      refine wpAnyH_take (i := 9) (oi := ⟨some 33, _, _, _, _, _⟩) (v := ?_) rfl (by kernel_rfl) (by kernel_rfl) (by kernel_rfl) (fun _ _ _ h => h) (Or.inl ⟨by rfl, by intro w hSw; go_simp; try rfl⟩) (by assumption) ?_
      try simp only [Act.put, List.setIfInBounds_toArray, List.set_cons_zero, List.set_cons_succ]
      refine wpAnyH_ready (rs := [10]) (by kernel_rfl) (by simp) ?_
      refine AllReadyH.cons (o := ⟨some 34, _, _, _, _, _⟩) rfl (fun K hK => ?_) AllReadyH.nil
      go_simp
      refine hK.out _ _ (hHeld.alloc (by simpa using hsz) _) (fun hHeld2 => ?_)
      clear hK K hHeld
      have hHeld := hHeld2
      clear hHeld2
      try simp only [Act.put, List.setIfInBounds_toArray, List.set_cons_zero, List.set_cons_succ]
      refine wpAnyH_ready (rs := [11]) (by kernel_rfl) (by simp) ?_
      refine AllReadyH.cons (o := ⟨some 35, _, _, _, _, _⟩) rfl (fun K hK => ?_) AllReadyH.nil
      refine step_app1 (o := ⟨some 35, _, _, _, _, _⟩) wr.drew rfl el8 rfl (.tmp 24) (.tmp 34) rfl b3 _ j _ rfl H.out.drew rfl rfl (by simp only [maxLen]; omega) (by omega) (by simpa using hsz) ?_
      intro v' w52 H' hb' _ _ _
      refine hK.out _ _ ((Below.refl _ _).drew.trans hb') (fun hHeld2 => ?_)
      clear hK K hHeld
      have hHeld := hHeld2
      clear hHeld2
      try simp only [Act.put, List.setIfInBounds_toArray, List.set_cons_zero, List.set_cons_succ]
      refine wpAnyH_take (i := 12) (oi := ⟨some 8, _, _, _, _, _⟩) (v := ?_) rfl (by kernel_rfl) (by kernel_rfl) (by kernel_rfl) (fun _ _ _ h => h) (Or.inl ⟨by rfl, by intro w hSw; go_simp; try rfl⟩) (by assumption) ?_
      try simp only [Act.put, List.setIfInBounds_toArray, List.set_cons_zero, List.set_cons_succ]
      refine wpAnyH_done (by kernel_rfl) ?_ _
      have H2 : Hid (w52.ownsRow b3 5 1 v' (j + 1) (cells8 (addL b S (j + 1)))) := by
        show World.ownsRow _ _ _ _ _ _ _
        rw [HS.out, cells8_append]
        exact H'.out
      clear H H' q1 q2 HS
      go_wp2
      go_roundw
      case rel => exact ⟨j + 1, by omega, by go_num, H2, hB.trans hHeld⟩
      case measure => simp [intOf]; omega
    · obtain rfl : j = n := by omega
      obtain ⟨A', c', rfl, hbs⟩ := Bs.of_own H.out
      have HF : Kp _ := ⟨hbs⟩
      have hBf : Below w.heap.size w wr := hB3.trans (hB.mono hw3)
      clear H hbs
      go_wp2
      go_ret
      exact ⟨A', c', rfl, by rw [← HSS.out]; exact HF.out, hBf⟩
end
end Go.Proofs.Ytleplilcpcgacaa
