/- The contract of sacristanref04's add. -/
import Derived.Test.YtleplilcpcgacaaAesPure
import Derived.Test.YtleplilcpcgacaaI64
import Derived.Test.YtleplilcpcgacaaRows
import Derived.Deep.RegionHeld3
namespace Go.Proofs.Ytleplilcpcgacaa
open Go.RowKit

theorem elI : El Try.prog 25 3 (.int .i64 0) 8 := ⟨Try.underlying25, by kernel_rfl, rfl⟩
/-- a round's key: so many bytes of both, xored -/
def addL (l m : List UInt8) (j : Nat) : List UInt8 := (List.range j).map fun i => l.getD i 0 ^^^ m.getD i 0
theorem addL_succ (l m : List UInt8) (j : Nat) : addL l m (j + 1) = addL l m j ++ [l.getD j 0 ^^^ m.getD j 0] := by simp [addL, List.range_succ]
theorem addL_length (l m : List UInt8) (j : Nat) : (addL l m j).length = j := by simp [addL]

section
attribute [local go_sem] i64_xor8
set_option maxRecDepth 100000 in
set_option maxHeartbeats 4000000 in
theorem refadd_any (A : Option Addr) (n c : Nat) (l : List UInt8) (B : Option Addr) (m d : Nat) (k : List UInt8) (w : World) (ha : Is w w.heap.size A n c l) (hb : Is w w.heap.size B m d k) (hn : 16 ≤ n) (hm : 16 ≤ m) :
    Calls Try.prog 34 #[.slice A n c, .slice B m d] w fun e w' => ∃ v, e = .returned v ∧ w'.ownsRow w.heap.size 3 1 v 16 (cellsI (addL l k 16)) ∧ Below w.heap.size w w' := by
  have hnc := ha.cap
  have hmc := hb.cap
  have hcm := ha.max
  have hdm := hb.max
  simp only [maxLen] at hcm hdm
  have HA : Kp _ := ⟨ha⟩
  have HB : Kp _ := ⟨hb⟩
  have HLl : Kp (l.length = n) := ⟨ha.len⟩
  have HLk : Kp (k.length = m) := ⟨hb.len⟩
  clear ha hb
  go_enter Try.func34, Try.ntmps34
  go_wp2
  go_loopw [5, 6] (fun v i wr => ∃ j : Nat, j ≤ 16 ∧ i = .int .i64 j ∧ Hid (wr.ownsRow w.heap.size 3 1 v j (cellsI (addL l k j))) ∧ Below w.heap.size w wr) (fun _ i _ => 16 - (intOf i).toNat)
  case atStart => exact ⟨0, Nat.zero_le _, rfl, own_nil _ _ _, Below.refl _ _⟩
  case round =>
    obtain ⟨j, hj, rfl, H, hB⟩ := hrel
    by_cases hlt : j < 16
    · have hsz := hB.size
      obtain ⟨b1, o1, rfl, hb1, hc1⟩ := (HA.out.below hB).cell (i := j) (by omega)
      obtain ⟨b2, o2, rfl, hb2, hc2⟩ := (HB.out.below hB).cell (i := j) (by omega)
      have HS : Kp _ := ⟨addL_succ l k j⟩
      have e1 : l.getD j 0 = l[j]'(by rw [HLl.out]; omega) := by simp [List.getD, List.getElem?_eq_getElem (show j < l.length by rw [HLl.out]; omega)]
      have e2 : k.getD j 0 = k[j]'(by rw [HLk.out]; omega) := by simp [List.getD, List.getElem?_eq_getElem (show j < k.length by rw [HLk.out]; omega)]
      rw [← e1] at hc1
      rw [← e2] at hc2
      clear e1 e2
      generalize l.getD j 0 = x at *
      generalize k.getD j 0 = y at *
      have q1 : ∀ W, Below w.heap.size wr W → W.cell? ⟨b1, o1 + j, none⟩ = some (.int .i64 (x.toNat : Int)) := fun W hW => (hW.cell (p := ⟨b1, o1 + j, none⟩) hb1).trans hc1
      have q2 : ∀ W, Below w.heap.size wr W → W.cell? ⟨b2, o2 + j, none⟩ = some (.int .i64 (y.toNat : Int)) := fun W hW => (hW.cell (p := ⟨b2, o2 + j, none⟩) hb2).trans hc2
      have hjn : (j : Int) < (n : Int) := by omega
      have hjm : (j : Int) < (m : Int) := by omega
      clear hc1 hc2
      go_wp2_with fail
      refine wp_region_held_drew (S := fun W => Below w.heap.size wr W) (by kernel_rfl) ((Below.refl _ _).drew) (fun hHeld => ?_)
      refine wpAnyH_take (i := 0) (oi := ⟨some 11, _, _, _, _, _⟩) (v := ?_) rfl (by kernel_rfl) (by kernel_rfl) (by kernel_rfl) (fun _ _ _ h => h) (Or.inl ⟨by rfl, by intro w hSw; go_simp; try rfl⟩) (by assumption) ?_
      try simp only [Act.put, List.setIfInBounds_toArray, List.set_cons_zero, List.set_cons_succ]
      refine wpAnyH_take (i := 1) (oi := ⟨some 12, _, _, _, _, _⟩) (v := ?_) rfl (by kernel_rfl) (by kernel_rfl) (by kernel_rfl) (fun _ _ _ h => h) (Or.inl ⟨by rfl, by intro w hSw; go_simp; try rfl⟩) (by assumption) ?_
      try simp only [Act.put, List.setIfInBounds_toArray, List.set_cons_zero, List.set_cons_succ]
      refine wpAnyH_take (i := 2) (oi := ⟨some 13, _, _, _, _, _⟩) (v := ?_) rfl (by kernel_rfl) (by kernel_rfl) (by kernel_rfl) (fun _ _ _ h => h) (Or.inl ⟨by rfl, by intro w hSw; go_simp; try rfl⟩) (by assumption) ?_
      try simp only [Act.put, List.setIfInBounds_toArray, List.set_cons_zero, List.set_cons_succ]
      refine wpAnyH_take (i := 3) (oi := ⟨some 14, _, _, _, _, _⟩) (v := ?_) rfl (by kernel_rfl) (by kernel_rfl) (by kernel_rfl) (fun _ _ _ h => h) (Or.inl ⟨by rfl, by intro w hSw; go_simp; try rfl⟩) (by assumption) ?_
      try simp only [Act.put, List.setIfInBounds_toArray, List.set_cons_zero, List.set_cons_succ]
      refine wpAnyH_take (i := 4) (oi := ⟨some 15, _, _, _, _, _⟩) (v := ?_) rfl (by kernel_rfl) (by kernel_rfl) (by kernel_rfl) (fun _ _ _ h => h) (Or.inl ⟨by rfl, by intro w hSw; go_simp; try rfl⟩) (by assumption) ?_
      try simp only [Act.put, List.setIfInBounds_toArray, List.set_cons_zero, List.set_cons_succ]
      refine wpAnyH_take (i := 5) (oi := ⟨some 16, _, _, _, _, _⟩) (v := ?_) rfl (by kernel_rfl) (by kernel_rfl) (by kernel_rfl) (fun _ _ _ h => h) (Or.inl ⟨by rfl, by intro w hSw; go_simp; try rfl⟩) (by assumption) ?_
      try simp only [Act.put, List.setIfInBounds_toArray, List.set_cons_zero, List.set_cons_succ]
      refine wpAnyH_take (i := 6) (oi := ⟨some 17, _, _, _, _, _⟩) (v := ?_) rfl (by kernel_rfl) (by kernel_rfl) (by kernel_rfl) (fun _ _ _ h => h) (Or.inl ⟨by rfl, by intro w hSw; go_simp; try rfl⟩) (by assumption) ?_
      try simp only [Act.put, List.setIfInBounds_toArray, List.set_cons_zero, List.set_cons_succ]
      refine wpAnyH_take (i := 7) (oi := ⟨some 18, _, _, _, _, _⟩) (v := ?_) rfl (by kernel_rfl) (by kernel_rfl) (by kernel_rfl) (fun _ _ _ h => h) (Or.inl ⟨by rfl, by intro w hSw; go_simp; try rfl⟩) (by assumption) ?_
      try simp only [Act.put, List.setIfInBounds_toArray, List.set_cons_zero, List.set_cons_succ]
      refine wpAnyH_take (i := 8) (oi := ⟨some 19, _, _, _, _, _⟩) (v := ?_) rfl (by kernel_rfl) (by kernel_rfl) (by kernel_rfl) (fun _ _ _ h => h) (Or.inl ⟨by rfl, by intro w hSw; go_simp; try rfl⟩) (by assumption) ?_
      try simp only [Act.put, List.setIfInBounds_toArray, List.set_cons_zero, List.set_cons_succ]
      refine wpAnyH_take (i := 9) (oi := ⟨some 20, _, _, _, _, _⟩) (v := ?_) rfl (by kernel_rfl) (by kernel_rfl) (by kernel_rfl) (fun _ _ _ h => h) (Or.inl ⟨by rfl, by intro w hSw; go_simp; try rfl⟩) (by assumption) ?_
      try simp only [Act.put, List.setIfInBounds_toArray, List.set_cons_zero, List.set_cons_succ]
      refine wpAnyH_ready (rs := [10]) (by kernel_rfl) (by simp) ?_
      refine AllReadyH.cons (o := ⟨some 21, _, _, _, _, _⟩) rfl (fun K hK => ?_) AllReadyH.nil
      go_simp
      refine hK.out _ _ (hHeld.alloc (by simpa using hsz) _) (fun hHeld2 => ?_)
      clear hK K hHeld
      have hHeld := hHeld2
      clear hHeld2
      try simp only [Act.put, List.setIfInBounds_toArray, List.set_cons_zero, List.set_cons_succ]
      refine wpAnyH_ready (rs := [11]) (by kernel_rfl) (by simp) ?_
      refine AllReadyH.cons (o := ⟨some 22, _, _, _, _, _⟩) rfl (fun K hK => ?_) AllReadyH.nil
      refine step_app1 (o := ⟨some 22, _, _, _, _, _⟩) wr.drew rfl elI rfl (.tmp 11) (.tmp 21) rfl w.heap.size _ j _ rfl H.out.drew rfl rfl (by simp only [maxLen]; omega) (by omega) (by simpa using hsz) ?_
      intro v' w52 H' hb' _ _ _
      refine hK.out _ _ ((Below.refl _ _).drew.trans hb') (fun hHeld2 => ?_)
      clear hK K hHeld
      have hHeld := hHeld2
      clear hHeld2
      try simp only [Act.put, List.setIfInBounds_toArray, List.set_cons_zero, List.set_cons_succ]
      refine wpAnyH_take (i := 12) (oi := ⟨some 5, _, _, _, _, _⟩) (v := ?_) rfl (by kernel_rfl) (by kernel_rfl) (by kernel_rfl) (fun _ _ _ h => h) (Or.inl ⟨by rfl, by intro w hSw; go_simp; try rfl⟩) (by assumption) ?_
      try simp only [Act.put, List.setIfInBounds_toArray, List.set_cons_zero, List.set_cons_succ]
      refine wpAnyH_done (by kernel_rfl) ?_ _
      have H2 : Hid (w52.ownsRow w.heap.size 3 1 v' (j + 1) (cellsI (addL l k (j + 1)))) := by
        show World.ownsRow _ _ _ _ _ _ _
        rw [HS.out, cellsI_append]
        exact H'.out
      clear H H' q1 q2 HS
      go_wp2
      go_roundw
      case rel => exact ⟨j + 1, by omega, by go_num, H2, hB.trans hHeld⟩
      case measure => simp [intOf]; omega
    · obtain rfl : j = 16 := by omega
      go_wp2
      go_ret
      exact ⟨_, rfl, H.out, hB⟩
end
end Go.Proofs.Ytleplilcpcgacaa
