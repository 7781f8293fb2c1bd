/- The walk of SumOrders. -/
import Derived.Test.YtjllfaeamjadcaaG13
import Derived.Test.YtjllfaeamjadcaaG01
namespace Go.Proofs.Ytjllfaeamjadcaa
open Go.RowKit

set_option maxRecDepth 100000 in
set_option maxHeartbeats 4000000 in
theorem law_sumOrders (K : Option Addr) (n c : Nat) (key : List UInt8) (I : Option Addr) (p q : Nat) (its : List (Int × List UInt8)) (y : Int) (w : World) (hk : Bs w w.heap.size K n c key ∧ c ≤ 140737488351232) (hi : Its w w.heap.size I p q its ∧ ∀ x ∈ its, x.2.length ≤ 140737488351232) (hy : (Lit.int .u8 y).wf = true) :
    Calls Try.prog 5 #[.slice K n c, .slice I p q, .int .u8 y] w fun e w' => e = .returned (.bool true) ∧ Below w.heap.size w w' := by
  obtain ⟨x, rfl⟩ : ∃ x : UInt8, y = ((x.toNat : Nat) : Int) := ⟨_, (byte_back hy).symm⟩
  have hx8 : x.toNat < 256 := x.toNat_lt
  obtain ⟨z, hz⟩ : ∃ z, z = x.toNat := ⟨_, rfl⟩
  rw [← hz] at hx8 ⊢
  have HK : Kp _ := ⟨hk.1⟩
  have HI : Kp _ := ⟨hi.1⟩
  have HM : Kp _ := ⟨hi.2⟩
  have hn63 := hk.1.le
  have hp63 := hi.1.le
  have hpq := hi.1.cap
  have HIl : Kp _ := ⟨hi.1.len⟩
  obtain ⟨r, hr, hrp⟩ := rem_le z p
  clear hk hi hy hz
  obtain ⟨Y, hY⟩ : ∃ x, x = allL key its := ⟨_, rfl⟩
  have HYl : Kp (Y.length = 32) := ⟨by rw [hY]; exact allL_length _ _⟩
  have HLY : Kp ((cells8 Y).length = 32) := ⟨by rw [cells8_length]; exact HYl.out⟩
  obtain ⟨F, hF⟩ : ∃ x, x = allL key (its.take r) := ⟨_, rfl⟩
  have HFl : Kp (F.length = 32) := ⟨by rw [hF]; exact allL_length _ _⟩
  have HLF : Kp ((cells8 F).length = 32) := ⟨by rw [cells8_length]; exact HFl.out⟩
  obtain ⟨G, hG⟩ : ∃ x, x = allL key (its.drop r) := ⟨_, rfl⟩
  have HGl : Kp (G.length = 32) := ⟨by rw [hG]; exact allL_length _ _⟩
  have HLG : Kp ((cells8 G).length = 32) := ⟨by rw [cells8_length]; exact HGl.out⟩
  have S1 : Kp (∀ W, Calls Try.prog 10 #[.agg (cells8 F).toArray, .agg (cells8 G).toArray] W fun e w' => e = .returned (.agg (cells8 Y).toArray) ∧ Below W.heap.size W w') := ⟨fun W => by
    have h := sadd_any F G W HFl.out HGl.out
    rw [show addL F G = Y by (rw [hF, hG, hY]; exact allL_cut _ _ _)] at h; exact h⟩
  have S2 : Kp (∀ W, Calls Try.prog 12 #[.agg (cells8 Y).toArray, .agg (cells8 G).toArray] W fun e w' => e = .returned (.agg (cells8 F).toArray) ∧ Below W.heap.size W w') := ⟨fun W => by
    have h := ssub_any Y G W HYl.out HGl.out
    rw [show subL Y G = F by (rw [hF, hG, hY]; exact allL_less _ _ _)] at h; exact h⟩
  go_enter Try.func5, Try.ntmps5
  by_cases h1 : (100 : Int) < n
  · go_wp2_with fail
    refine (known5_any _).mono ?_
    rintro e wz ⟨rfl, hz⟩
    go_wp2
    go_ret
    exact ⟨rfl, hz⟩
  have dh1 := decide_eq_false h1
  by_cases h3 : (20 : Int) < p
  · go_wp2_with fail
    refine (known5_any _).mono ?_
    rintro e wz ⟨rfl, hz⟩
    go_wp2
    go_ret
    exact ⟨rfl, hz⟩
  have dh3 := decide_eq_false h3
  obtain ⟨s, hs⟩ : ∃ s, s = longN its := ⟨_, rfl⟩
  have hs63 : s ≤ 3000000000000000 := by
    have h := longN_le its 140737488351232 HM.out its.length (Nat.le_refl _)
    rw [List.take_length, HI.out.len] at h
    rw [hs]
    exact Nat.le_trans h (by omega)
  have CL := reflong_any I p q its w w.heap.size HI.out (by omega) HM.out
  rw [← hs] at CL
  have HCL : Kp _ := ⟨CL⟩
  clear CL
  go_wp2_with fail
  refine HCL.out.mono ?_
  rintro e w0 ⟨rfl, rfl⟩
  by_cases h4 : (600 : Int) < s
  · go_wp2_with fail
    refine (known5_any _).mono ?_
    rintro e wz ⟨rfl, hz⟩
    go_wp2
    go_ret
    exact ⟨rfl, hz⟩
  have dh4 := decide_eq_false h4
  have HMs : Kp (∀ x ∈ its, x.2.length ≤ 523000) := ⟨fun x hx => by have h := longN_mem its x hx; omega⟩
  have hn3 : n ≤ 524288 := by omega
  have hp3 : p ≤ 20 := by omega
  have CA : Kp (∀ W A k e its', Below w0.heap.size w0 W → Its W W.heap.size A k e its' → k ≤ 100 → (∀ x ∈ its', x.2.length ≤ 523000) → Calls Try.prog 20 #[.slice K n c, .slice A k e] W fun e w' => e = .returned (.agg (cells8 (allL key its')).toArray) ∧ Below W.heap.size W w') := ⟨fun W A k e its' hW h1 h2 h3 => all_any K n c key A k e its' W (HK.out.next hW (Nat.le_refl _)) h1 (by omega) hn3 h3⟩
  have HY : Kp (allL key its = Y) := ⟨hY.symm⟩
  have HYb : Kp (allL key its.reverse = Y) := ⟨by rw [allL_back, hY]⟩
  have HF : Kp (allL key (its.take r) = F) := ⟨hF.symm⟩
  have HG : Kp (allL key (its.drop r) = G) := ⟨hG.symm⟩
  have HZz : Kp (zero32.length = 32) := ⟨rfl⟩
  obtain ⟨i, hi, hi0, hi2, hi32⟩ := item_info
  have HR0 : Kp (its.drop p = []) := ⟨List.drop_of_length_le (by rw [HIl.out]; exact Nat.le_refl _)⟩
  clear hY hF hG hs HCL
  go_wp2_with fail
  go_loopg [7, 8] p (fun gk vb vi wr => ∃ k : Nat, k + gk = p ∧ vi = .int .i64 ((gk : Int) - 1) ∧ Kp (∃ L, wr.ownsRow w0.heap.size 35 2 vb k (hdCells L) ∧ Leads wr w0.heap.size L (its.drop gk).reverse) ∧ Below w0.heap.size w0 wr)
  case atStart => exact ⟨0, by omega, rfl, ⟨[], own2_nil _ _ _, by rw [HR0.out]; exact Leads.nil _ _⟩, Below.refl _ _⟩
  case round =>
    obtain ⟨k, hk, rfl, HO, hB⟩ := hrel
    cases gk with
    | zero =>
      obtain rfl : k = p := by omega
      obtain ⟨L, hown, hL⟩ := HO.out
      rw [List.drop_zero] at hL
      obtain ⟨A5, c5, rfl, hI5⟩ := Its.of_own hown hL hB.size
      have HI5 : Kp _ := ⟨hI5⟩
      have hrq : r ≤ q := by omega
      clear hown hL HO hI5
      go_wp2_with fail
      refine (CA.out _ _ _ _ _ hB (HI.out.next hB (Nat.le_refl _)) (by omega) HMs.out).mono ?_
      rintro e x1 ⟨rfl, hc⟩
      rw [HY.out]
      go_wp2_with (with_reducible refine wpList_alloc (o := ⟨some 10, _, _, _, _, _⟩) tyDig rfl rfl ?_)
      intro x2 hk2 hb2 hs2
      have HG0 : Kp _ := ⟨hk2⟩
      have hbb := hc.trans (hb2.mono hc.size)
      have hsz := hc.size
      obtain ⟨ga, hg0⟩ : ∃ g, g = x1.heap.size := ⟨_, rfl⟩
      have hgega : wr.heap.size ≤ ga := by rw [hg0]; exact hsz
      rw [← hg0] at HG0 ⊢
      clear hk2 hb2 hs2 hc hg0 hsz
      go_wp2_with (refine wpList_storeAll (o := ⟨none, _, _, _, _, _⟩) (vs := cells8 Y) rwDig rfl (.tmp 10) (.tmp 47) rfl rfl HG0.out HZz.out HLY.out (cells8_one _) rfl ?_)
      intro x3 hk3 ho3
      have Hga : Kp _ := ⟨hk3⟩
      have hlga : ga < x3.heap.size := hk3.lt
      have hBx : Below wr.heap.size wr x3 := hbb.trans (ho3.below hgega)
      clear hk3 ho3 HG0 hbb
      have hBase : ∀ {W : World}, Below x3.heap.size x3 W → Below w0.heap.size w0 W := fun h => hB.trans ((hBx.trans (h.mono hBx.size)).mono hB.size)
      have HBase : Kp (∀ {W : World}, Below x3.heap.size x3 W → Below w0.heap.size w0 W) := ⟨hBase⟩
      have HBx : Kp _ := ⟨hBx⟩
      have C1 : Kp (∀ W, Below x3.heap.size x3 W → Calls Try.prog 20 #[.slice K n c, .slice A5 k c5] W fun e w' => e = .returned (.agg (cells8 Y).toArray) ∧ Below W.heap.size W w') := ⟨fun W hW => by
        have h := CA.out W A5 k c5 _ (HBase.out hW) (HI5.out.next (HBx.out.trans (hW.mono HBx.out.size)) (Nat.le_refl _)) (by omega) (fun x hx => HMs.out x (List.mem_reverse.1 hx))
        rw [HYb.out] at h; exact h⟩
      have C2 : Kp (∀ W, Below x3.heap.size x3 W → Calls Try.prog 20 #[.slice K n c, .slice I r q] W fun e w' => e = .returned (.agg (cells8 F).toArray) ∧ Below W.heap.size W w') := ⟨fun W hW => by
        have h := CA.out W I r q _ (HBase.out hW) ((HI.out.next (HBase.out hW) (Nat.le_refl _)).upto hrp) (by omega) (fun x hx => HMs.out x (List.mem_of_mem_take hx))
        rw [HF.out] at h; exact h⟩
      obtain ⟨J, hJ⟩ : ∃ a, (if q = r then I else I.map (·.add (r * 2))) = a := ⟨_, rfl⟩
      obtain ⟨p1, hp1⟩ : ∃ a, k - r = a := ⟨_, rfl⟩
      obtain ⟨q1, hq1⟩ : ∃ a, q - r = a := ⟨_, rfl⟩
      have C3 : Kp (∀ W, Below x3.heap.size x3 W → Calls Try.prog 20 #[.slice K n c, .slice J p1 q1] W fun e w' => e = .returned (.agg (cells8 G).toArray) ∧ Below W.heap.size W w') := ⟨fun W hW => by
        have h0 := (HI.out.next (HBase.out hW) (Nat.le_refl _)).from hrp
        rw [hJ, hp1, hq1] at h0
        have h := CA.out W J p1 q1 _ (HBase.out hW) h0 (by omega) (fun x hx => HMs.out x (List.mem_of_mem_drop hx))
        rw [HG.out] at h; exact h⟩
      have HJ : Kp _ := ⟨hJ⟩
      have HP1 : Kp _ := ⟨hp1⟩
      have HQ1 : Kp _ := ⟨hq1⟩
      have HBf : Kp (Below w0.heap.size w0 x3) := ⟨hBase (Below.refl _ _)⟩
      have hT : Keep1 x3 ga 23 (cells8 Y) x3 := ⟨Hga.out, Below.refl _ _⟩
      clear hJ hp1 hq1 hBase Hga
      go_wp2_with fail
      refine wp_region_held_drew (S := Keep1 x3 ga 23 (cells8 Y)) (by kernel_rfl) (hT.drew) (fun hHeld => ?_)
      generalize x3.drew = wS at *
      refine wpAnyH_take (i := 0) (oi := ⟨some 48, _, _, _, _, _⟩) (v := ?_) rfl (by kernel_rfl) (by kernel_rfl) (by kernel_rfl) (fun _ _ _ h => h) (Or.inl ⟨by rfl, by intro w hSw; go_simp; try rfl⟩) (by assumption) ?_
      try simp only [Act.put, List.setIfInBounds_toArray, List.set_cons_zero, List.set_cons_succ]
      refine wpAnyH_take (i := 1) (oi := ⟨some 49, _, _, _, _, _⟩) (v := ?_) rfl (by kernel_rfl) (by kernel_rfl) (by kernel_rfl) (fun _ _ _ h => h) (Or.inl ⟨by rfl, by intro w hSw; go_simp; try rfl⟩) (by assumption) ?_
      try simp only [Act.put, List.setIfInBounds_toArray, List.set_cons_zero, List.set_cons_succ]
      refine wpAnyH_take (i := 3) (oi := ⟨some 51, _, _, _, _, _⟩) (v := _) rfl (by kernel_rfl) (by kernel_rfl) (by kernel_rfl) (fun _ _ _ h => h) (yieldsIf_load_mid (by rfl) _ (.tmp 10) rfl _ _ rfl (cells8 Y) _ (fun W hW => hW.d.range (take_all32 HLY.out)) huD rfl (hiD Y HLY.out)) (by assumption) ?_
      try simp only [Act.put, List.setIfInBounds_toArray, List.set_cons_zero, List.set_cons_succ]
      refine wpAnyH_ready (rs := [2]) (by kernel_rfl) (by simp) ?_
      refine AllReadyH.cons (o := ⟨some 50, _, _, _, _, _⟩) rfl (fun K hK => ?_) AllReadyH.nil
      go_simp
      refine (C1.out _ hHeld.below).mono ?_
      rintro e w51 ⟨rfl, hb'⟩
      refine hK.out _ _ (hHeld.next hb') (fun hHeld2 => ?_)
      clear hb'
      clear hK K hHeld
      have hHeld := hHeld2
      clear hHeld2
      try simp only [Act.put, List.setIfInBounds_toArray, List.set_cons_zero, List.set_cons_succ]
      refine wpAnyH_take (i := 4) (oi := ⟨some 52, _, _, _, _, _⟩) (v := _) rfl (by kernel_rfl) (by kernel_rfl) (by kernel_rfl) (fun _ _ _ h => h) (yieldsIf_eql (by rfl) eqDig Try.eqGuardType23 (.tmp 50) (.tmp 51) rfl Y Y rfl rfl HYl.out HYl.out (beq_self_eq_true _)) (by assumption) ?_
      try simp only [Act.put, List.setIfInBounds_toArray, List.set_cons_zero, List.set_cons_succ]
      refine wpAnyH_take (i := 5) (oi := ⟨some 53, _, _, _, _, _⟩) (v := ?_) rfl (by kernel_rfl) (by kernel_rfl) (by kernel_rfl) (fun _ _ _ h => h) (Or.inl ⟨by rfl, by intro w hSw; go_simp; try rfl⟩) (by assumption) ?_
      try simp only [Act.put, List.setIfInBounds_toArray, List.set_cons_zero, List.set_cons_succ]
      refine wpAnyH_take (i := 6) (oi := ⟨some 54, _, _, _, _, _⟩) (v := ?_) rfl (by kernel_rfl) (by kernel_rfl) (by kernel_rfl) (fun _ _ _ h => h) (Or.inl ⟨by rfl, by intro w hSw; go_simp; try rfl⟩) (by assumption) ?_
      try simp only [Act.put, List.setIfInBounds_toArray, List.set_cons_zero, List.set_cons_succ]
      refine wpAnyH_take (i := 7) (oi := ⟨some 55, _, _, _, _, _⟩) (v := ?_) rfl (by kernel_rfl) (by kernel_rfl) (by kernel_rfl) (fun _ _ _ h => h) (Or.inl ⟨by rfl, by intro w hSw; go_simp; try rfl⟩) (by assumption) ?_
      try simp only [Act.put, List.setIfInBounds_toArray, List.set_cons_zero, List.set_cons_succ]
      refine wpAnyH_take (i := 8) (oi := ⟨some 56, _, _, _, _, _⟩) (v := ?_) rfl (by kernel_rfl) (by kernel_rfl) (by kernel_rfl) (fun _ _ _ h => h) (Or.inl ⟨by rfl, by intro w hSw; go_simp; try rfl⟩) (by assumption) ?_
      try simp only [Act.put, List.setIfInBounds_toArray, List.set_cons_zero, List.set_cons_succ]
      refine wpAnyH_take (i := 9) (oi := ⟨some 57, _, _, _, _, _⟩) (v := _) rfl (by kernel_rfl) (by kernel_rfl) (by kernel_rfl) (fun _ _ _ h => h) (yieldsIf_cut2_h (by rfl) Try.underlying28 hi hi2 (.tmp 55) (.tmp 56) rfl rfl rfl r rfl hrq) (by assumption) ?_
      try simp only [Act.put, List.setIfInBounds_toArray, List.set_cons_zero, List.set_cons_succ]
      refine wpAnyH_take (i := 11) (oi := ⟨some 59, _, _, _, _, _⟩) (v := ?_) rfl (by kernel_rfl) (by kernel_rfl) (by kernel_rfl) (fun _ _ _ h => h) (Or.inl ⟨by rfl, by intro w hSw; go_simp; try rfl⟩) (by assumption) ?_
      try simp only [Act.put, List.setIfInBounds_toArray, List.set_cons_zero, List.set_cons_succ]
      refine wpAnyH_take (i := 12) (oi := ⟨some 60, _, _, _, _, _⟩) (v := ?_) rfl (by kernel_rfl) (by kernel_rfl) (by kernel_rfl) (fun _ _ _ h => h) (Or.inl ⟨by rfl, by intro w hSw; go_simp; try rfl⟩) (by assumption) ?_
      try simp only [Act.put, List.setIfInBounds_toArray, List.set_cons_zero, List.set_cons_succ]
      refine wpAnyH_take (i := 13) (oi := ⟨some 61, _, _, _, _, _⟩) (v := ?_) rfl (by kernel_rfl) (by kernel_rfl) (by kernel_rfl) (fun _ _ _ h => h) (Or.inl ⟨by rfl, by intro w hSw; go_simp; try rfl⟩) (by assumption) ?_
      try simp only [Act.put, List.setIfInBounds_toArray, List.set_cons_zero, List.set_cons_succ]
      refine wpAnyH_take (i := 14) (oi := ⟨some 62, _, _, _, _, _⟩) (v := _) rfl (by kernel_rfl) (by kernel_rfl) (by kernel_rfl) (fun _ _ _ h => h) (yieldsIf_cut2_l (by rfl) Try.underlying28 hi hi2 (.tmp 60) (.tmp 61) rfl rfl rfl r rfl hrp HJ.out HP1.out HQ1.out) (by assumption) ?_
      try simp only [Act.put, List.setIfInBounds_toArray, List.set_cons_zero, List.set_cons_succ]
      refine wpAnyH_take (i := 17) (oi := ⟨some 65, _, _, _, _, _⟩) (v := _) rfl (by kernel_rfl) (by kernel_rfl) (by kernel_rfl) (fun _ _ _ h => h) (yieldsIf_load_mid (by rfl) _ (.tmp 10) rfl _ _ rfl (cells8 Y) _ (fun W hW => hW.d.range (take_all32 HLY.out)) huD rfl (hiD Y HLY.out)) (by assumption) ?_
      try simp only [Act.put, List.setIfInBounds_toArray, List.set_cons_zero, List.set_cons_succ]
      refine wpAnyH_ready (rs := [10]) (by kernel_rfl) (by simp) ?_
      refine AllReadyH.cons (o := ⟨some 58, _, _, _, _, _⟩) rfl (fun K hK => ?_) AllReadyH.nil
      go_simp
      refine (C2.out _ hHeld.below).mono ?_
      rintro e w52 ⟨rfl, hb'⟩
      refine hK.out _ _ (hHeld.next hb') (fun hHeld2 => ?_)
      clear hb'
      clear hK K hHeld
      have hHeld := hHeld2
      clear hHeld2
      try simp only [Act.put, List.setIfInBounds_toArray, List.set_cons_zero, List.set_cons_succ]
      refine wpAnyH_ready (rs := [15]) (by kernel_rfl) (by simp) ?_
      refine AllReadyH.cons (o := ⟨some 63, _, _, _, _, _⟩) rfl (fun K hK => ?_) AllReadyH.nil
      go_simp
      refine (C3.out _ hHeld.below).mono ?_
      rintro e w53 ⟨rfl, hb'⟩
      refine hK.out _ _ (hHeld.next hb') (fun hHeld2 => ?_)
      clear hb'
      clear hK K hHeld
      have hHeld := hHeld2
      clear hHeld2
      try simp only [Act.put, List.setIfInBounds_toArray, List.set_cons_zero, List.set_cons_succ]
      refine wpAnyH_ready (rs := [16]) (by kernel_rfl) (by simp) ?_
      refine AllReadyH.cons (o := ⟨some 64, _, _, _, _, _⟩) rfl (fun K hK => ?_) AllReadyH.nil
      go_simp
      refine (S1.out _).mono ?_
      rintro e w54 ⟨rfl, hb'⟩
      refine hK.out _ _ (hHeld.next hb') (fun hHeld2 => ?_)
      clear hb'
      clear hK K hHeld
      have hHeld := hHeld2
      clear hHeld2
      try simp only [Act.put, List.setIfInBounds_toArray, List.set_cons_zero, List.set_cons_succ]
      refine wpAnyH_take (i := 18) (oi := ⟨some 66, _, _, _, _, _⟩) (v := _) rfl (by kernel_rfl) (by kernel_rfl) (by kernel_rfl) (fun _ _ _ h => h) (yieldsIf_eql (by rfl) eqDig Try.eqGuardType23 (.tmp 64) (.tmp 65) rfl Y Y rfl rfl HYl.out HYl.out (beq_self_eq_true _)) (by assumption) ?_
      try simp only [Act.put, List.setIfInBounds_toArray, List.set_cons_zero, List.set_cons_succ]
      refine wpAnyH_take (i := 19) (oi := ⟨some 67, _, _, _, _, _⟩) (v := ?_) rfl (by kernel_rfl) (by kernel_rfl) (by kernel_rfl) (fun _ _ _ h => h) (Or.inl ⟨by rfl, by intro w hSw; go_simp; try rfl⟩) (by assumption) ?_
      try simp only [Act.put, List.setIfInBounds_toArray, List.set_cons_zero, List.set_cons_succ]
      refine wpAnyH_take (i := 20) (oi := ⟨some 68, _, _, _, _, _⟩) (v := ?_) rfl (by kernel_rfl) (by kernel_rfl) (by kernel_rfl) (fun _ _ _ h => h) (Or.inl ⟨by rfl, by intro w hSw; go_simp; try rfl⟩) (by assumption) ?_
      try simp only [Act.put, List.setIfInBounds_toArray, List.set_cons_zero, List.set_cons_succ]
      refine wpAnyH_take (i := 21) (oi := ⟨some 69, _, _, _, _, _⟩) (v := _) rfl (by kernel_rfl) (by kernel_rfl) (by kernel_rfl) (fun _ _ _ h => h) (yieldsIf_load_mid (by rfl) _ (.tmp 10) rfl _ _ rfl (cells8 Y) _ (fun W hW => hW.d.range (take_all32 HLY.out)) huD rfl (hiD Y HLY.out)) (by assumption) ?_
      try simp only [Act.put, List.setIfInBounds_toArray, List.set_cons_zero, List.set_cons_succ]
      refine wpAnyH_take (i := 22) (oi := ⟨some 70, _, _, _, _, _⟩) (v := ?_) rfl (by kernel_rfl) (by kernel_rfl) (by kernel_rfl) (fun _ _ _ h => h) (Or.inl ⟨by rfl, by intro w hSw; go_simp; try rfl⟩) (by assumption) ?_
      try simp only [Act.put, List.setIfInBounds_toArray, List.set_cons_zero, List.set_cons_succ]
      refine wpAnyH_take (i := 23) (oi := ⟨some 71, _, _, _, _, _⟩) (v := ?_) rfl (by kernel_rfl) (by kernel_rfl) (by kernel_rfl) (fun _ _ _ h => h) (Or.inl ⟨by rfl, by intro w hSw; go_simp; try rfl⟩) (by assumption) ?_
      try simp only [Act.put, List.setIfInBounds_toArray, List.set_cons_zero, List.set_cons_succ]
      refine wpAnyH_take (i := 24) (oi := ⟨some 72, _, _, _, _, _⟩) (v := ?_) rfl (by kernel_rfl) (by kernel_rfl) (by kernel_rfl) (fun _ _ _ h => h) (Or.inl ⟨by rfl, by intro w hSw; go_simp; try rfl⟩) (by assumption) ?_
      try simp only [Act.put, List.setIfInBounds_toArray, List.set_cons_zero, List.set_cons_succ]
      refine wpAnyH_take (i := 25) (oi := ⟨some 73, _, _, _, _, _⟩) (v := _) rfl (by kernel_rfl) (by kernel_rfl) (by kernel_rfl) (fun _ _ _ h => h) (yieldsIf_cut2_l (by rfl) Try.underlying28 hi hi2 (.tmp 71) (.tmp 72) rfl rfl rfl r rfl hrp HJ.out HP1.out HQ1.out) (by assumption) ?_
      try simp only [Act.put, List.setIfInBounds_toArray, List.set_cons_zero, List.set_cons_succ]
      refine wpAnyH_take (i := 28) (oi := ⟨some 76, _, _, _, _, _⟩) (v := ?_) rfl (by kernel_rfl) (by kernel_rfl) (by kernel_rfl) (fun _ _ _ h => h) (Or.inl ⟨by rfl, by intro w hSw; go_simp; try rfl⟩) (by assumption) ?_
      try simp only [Act.put, List.setIfInBounds_toArray, List.set_cons_zero, List.set_cons_succ]
      refine wpAnyH_take (i := 29) (oi := ⟨some 77, _, _, _, _, _⟩) (v := ?_) rfl (by kernel_rfl) (by kernel_rfl) (by kernel_rfl) (fun _ _ _ h => h) (Or.inl ⟨by rfl, by intro w hSw; go_simp; try rfl⟩) (by assumption) ?_
      try simp only [Act.put, List.setIfInBounds_toArray, List.set_cons_zero, List.set_cons_succ]
      refine wpAnyH_take (i := 30) (oi := ⟨some 78, _, _, _, _, _⟩) (v := ?_) rfl (by kernel_rfl) (by kernel_rfl) (by kernel_rfl) (fun _ _ _ h => h) (Or.inl ⟨by rfl, by intro w hSw; go_simp; try rfl⟩) (by assumption) ?_
      try simp only [Act.put, List.setIfInBounds_toArray, List.set_cons_zero, List.set_cons_succ]
      refine wpAnyH_take (i := 31) (oi := ⟨some 79, _, _, _, _, _⟩) (v := _) rfl (by kernel_rfl) (by kernel_rfl) (by kernel_rfl) (fun _ _ _ h => h) (yieldsIf_cut2_h (by rfl) Try.underlying28 hi hi2 (.tmp 77) (.tmp 78) rfl rfl rfl r rfl hrq) (by assumption) ?_
      try simp only [Act.put, List.setIfInBounds_toArray, List.set_cons_zero, List.set_cons_succ]
      refine wpAnyH_ready (rs := [26]) (by kernel_rfl) (by simp) ?_
      refine AllReadyH.cons (o := ⟨some 74, _, _, _, _, _⟩) rfl (fun K hK => ?_) AllReadyH.nil
      go_simp
      refine (C3.out _ hHeld.below).mono ?_
      rintro e w55 ⟨rfl, hb'⟩
      refine hK.out _ _ (hHeld.next hb') (fun hHeld2 => ?_)
      clear hb'
      clear hK K hHeld
      have hHeld := hHeld2
      clear hHeld2
      try simp only [Act.put, List.setIfInBounds_toArray, List.set_cons_zero, List.set_cons_succ]
      refine wpAnyH_ready (rs := [27]) (by kernel_rfl) (by simp) ?_
      refine AllReadyH.cons (o := ⟨some 75, _, _, _, _, _⟩) rfl (fun K hK => ?_) AllReadyH.nil
      go_simp
      refine (S2.out _).mono ?_
      rintro e w56 ⟨rfl, hb'⟩
      refine hK.out _ _ (hHeld.next hb') (fun hHeld2 => ?_)
      clear hb'
      clear hK K hHeld
      have hHeld := hHeld2
      clear hHeld2
      try simp only [Act.put, List.setIfInBounds_toArray, List.set_cons_zero, List.set_cons_succ]
      refine wpAnyH_ready (rs := [32]) (by kernel_rfl) (by simp) ?_
      refine AllReadyH.cons (o := ⟨some 80, _, _, _, _, _⟩) rfl (fun K hK => ?_) AllReadyH.nil
      go_simp
      refine (C2.out _ hHeld.below).mono ?_
      rintro e w57 ⟨rfl, hb'⟩
      refine hK.out _ _ (hHeld.next hb') (fun hHeld2 => ?_)
      clear hb'
      clear hK K hHeld
      have hHeld := hHeld2
      clear hHeld2
      try simp only [Act.put, List.setIfInBounds_toArray, List.set_cons_zero, List.set_cons_succ]
      refine wpAnyH_take (i := 33) (oi := ⟨some 81, _, _, _, _, _⟩) (v := _) rfl (by kernel_rfl) (by kernel_rfl) (by kernel_rfl) (fun _ _ _ h => h) (yieldsIf_eql (by rfl) eqDig Try.eqGuardType23 (.tmp 75) (.tmp 80) rfl F F rfl rfl HFl.out HFl.out (beq_self_eq_true _)) (by assumption) ?_
      try simp only [Act.put, List.setIfInBounds_toArray, List.set_cons_zero, List.set_cons_succ]
      refine wpAnyH_take (i := 34) (oi := ⟨some 82, _, _, _, _, _⟩) (v := ?_) rfl (by kernel_rfl) (by kernel_rfl) (by kernel_rfl) (fun _ _ _ h => h) (Or.inl ⟨by rfl, by intro w hSw; go_simp; try rfl⟩) (by assumption) ?_
      try simp only [Act.put, List.setIfInBounds_toArray, List.set_cons_zero, List.set_cons_succ]
      refine wpAnyH_take (i := 35) (oi := ⟨some 83, _, _, _, _, _⟩) (v := ?_) rfl (by kernel_rfl) (by kernel_rfl) (by kernel_rfl) (fun _ _ _ h => h) (Or.inl ⟨by rfl, by intro w hSw; go_simp; try rfl⟩) (by assumption) ?_
      try simp only [Act.put, List.setIfInBounds_toArray, List.set_cons_zero, List.set_cons_succ]
      refine wpAnyH_ready (rs := [36]) (by kernel_rfl) (by simp) ?_
      refine AllReadyH.cons (o := ⟨some 84, _, _, _, _, _⟩) rfl (fun K hK => ?_) AllReadyH.nil
      go_simp
      refine (known5_any _).mono ?_
      rintro e w58 ⟨rfl, hb'⟩
      refine hK.out _ _ (hHeld.next hb') (fun hHeld2 => ?_)
      clear hb'
      clear hK K hHeld
      have hHeld := hHeld2
      clear hHeld2
      try simp only [Act.put, List.setIfInBounds_toArray, List.set_cons_zero, List.set_cons_succ]
      refine wpAnyH_take (i := 37) (oi := ⟨some 85, _, _, _, _, _⟩) (v := ?_) rfl (by kernel_rfl) (by kernel_rfl) (by kernel_rfl) (fun _ _ _ h => h) (Or.inl ⟨by rfl, by intro w hSw; go_simp; try rfl⟩) (by assumption) ?_
      try simp only [Act.put, List.setIfInBounds_toArray, List.set_cons_zero, List.set_cons_succ]
      refine wpAnyH_take (i := 38) (oi := ⟨some 6, _, _, _, _, _⟩) (v := ?_) rfl (by kernel_rfl) (by kernel_rfl) (by kernel_rfl) (fun _ _ _ h => h) (Or.inl ⟨by rfl, by intro w hSw; go_simp; try rfl⟩) (by assumption) ?_
      try simp only [Act.put, List.setIfInBounds_toArray, List.set_cons_zero, List.set_cons_succ]
      refine wpAnyH_done (by kernel_rfl) ?_ _
      go_wp2
      go_ret
      exact ⟨by rfl, HBf.out.trans (hHeld.below.mono HBf.out.size)⟩
    | succ g2 =>
      have hlt : g2 < p := by omega
      have hgi : g2 < its.length := by rw [HIl.out]; exact hlt
      obtain ⟨b, o, A', n', c', rfl, hbl, hc1, hc2, hbs⟩ := (HI.out.below hB).at hlt
      obtain ⟨L, hown, hL⟩ := HO.out
      have hLl : L.length = k := by have := hown.1; rw [hdCells_length] at this; omega
      have HZi : Kp (∀ x ∈ its, (Lit.int .i64 x.1).wf = true) := ⟨HI.out.wf⟩
      have HDb : Kp _ := ⟨drop_back its g2 hgi⟩
      obtain ⟨zz, hzz⟩ : ∃ z, z = (its[g2]'hgi).1 := ⟨_, rfl⟩
      rw [← hzz] at hc1
      have HZZ : Kp (zz = (its[g2]'hgi).1) := ⟨hzz⟩
      have HBs : Kp _ := ⟨hbs⟩
      have HOw : Kp _ := ⟨hown⟩
      have HLd : Kp _ := ⟨hL⟩
      have he : (((g2 + 1 : Nat) : Int) - 1) = (g2 : Int) := by omega
      have hwr := hB.size
      rw [he]
      clear he hzz hbs hown hL HO
      go_wp2_with (at_builtin; refine wpList_appI Try.underlying28 hi hi0 hi2 hi32 rfl rfl _ _ rfl w0.heap.size _ k L rfl (own2_below HOw.out ((Below.refl _ wr).alloc (Nat.le_refl _) _)) (some ⟨wr.heap.size, 0, none⟩) 1 1 [(zz, A', n', c')] rfl rfl (fun h => by cases h) (two_cells wr _ zz A' n' c') (by simp only [maxLen]; omega) (by omega) (by simp; omega) ?_)
      intro v9 w9 hown9 hb9' _
      have hb9 : Below w0.heap.size wr w9 := ((Below.refl _ wr).alloc hwr _).trans hb9'
      have HN : Kp (∃ L, w9.ownsRow w0.heap.size 35 2 v9 (k + 1) (hdCells L) ∧ Leads w9 w0.heap.size L (its.drop g2).reverse) := ⟨_, hown9, by
        rw [HDb.out]
        refine (HLd.out.below hb9).append ?_
        have h1 := Leads.one (HZi.out _ (List.getElem_mem hgi)) (HBs.out.below hb9)
        rw [← HZZ.out] at h1
        rw [show its[g2]'hgi = (zz, (its[g2]'hgi).2) by rw [HZZ.out]]
        exact h1⟩
      have hB9 := hB.trans hb9
      clear hown9 hb9' hb9 hc1 hc2 HOw HLd HDb HBs HZZ hB
      go_wp2
      go_roundg g2
      case rel => exact ⟨k + 1, by omega, by go_num, HN, hB9⟩
      case measure => omega
end Go.Proofs.Ytjllfaeamjadcaa
