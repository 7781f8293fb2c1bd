/- The walk of AesBoxes. -/
import Derived.Test.YtleplilcpcgacaaAesInj
import Derived.Test.YtleplilcpcgacaaLawBlocks
namespace Go.Proofs.Ytleplilcpcgacaa
open Go.RowKit

/-- how many of the first so many bytes have a box -/
def cntN : Nat → Nat → Nat
  | 0, _ => 0
  | i + 1, k => cntN i k + (if Nat.beq (boxR i).toNat k then 1 else 0)
def cellsN (f : Nat → Nat) : List Value := (List.range 256).map fun k => Value.int .i64 (f k : Int)
theorem cellsN_length (f : Nat → Nat) : (cellsN f).length = 256 := by simp [cellsN]
theorem cellsN_at (f : Nat → Nat) (k : Nat) (h : k < 256) : (cellsN f)[k]? = some (.int .i64 (f k : Int)) := by
  simp [cellsN, List.getElem?_map, List.getElem?_range h]
theorem cellsN_set (i : Nat) : (cellsN (cntN i)).set (boxR i).toNat (.int .i64 ((cntN i (boxR i).toNat + 1 : Nat) : Int)) = cellsN (cntN (i + 1)) := by
  refine List.ext_getElem (by rw [List.length_set, cellsN_length, cellsN_length]) fun k h1 h2 => ?_
  rw [List.getElem_set]
  simp only [cellsN, List.getElem_map, List.getElem_range, cntN]
  by_cases hk : (boxR i).toNat = k
  · rw [if_pos hk, if_pos (by rw [hk]; exact Nat.beq_refl k), hk]
  · rw [if_neg hk, if_neg (by intro e; exact hk (Nat.eq_of_beq_eq_true e)), Nat.add_zero]
theorem cnt_check : allB (fun k => Nat.beq (cntN 256 k) 1) 256 = true := by decide +kernel
theorem cnt_le (i k : Nat) : cntN i k ≤ i := by
  induction i with
  | zero => exact Nat.le_refl _
  | succ i ih => simp only [cntN]; split <;> omega
theorem ones_le (a k : Nat) : onesN a k ≤ k := by
  induction k with
  | zero => exact Nat.le_refl _
  | succ k ih => simp only [onesN]; split <;> omega
theorem mul_nn (i j : Nat) (hi : i < 256) (hj : j < 256) (w : World) : Calls Try.prog 12 #[.int .u8 (i : Int), .int .u8 (j : Int)] w fun e w' => e = .returned (.int .u8 (mulRun 8 0 i j : Nat)) ∧ w' = w := by
  have h := mul_any (UInt8.ofNat i) (UInt8.ofNat j) w
  rw [mulU_nat, UInt8.toNat_ofNat_of_lt' hi, UInt8.toNat_ofNat_of_lt' hj] at h
  exact h
theorem box_n (i : Nat) (hi : i < 256) (w : World) : Calls Try.prog 14 #[.int .u8 (i : Int)] w fun e w' => e = .returned (.int .u8 (boxR i).toNat) ∧ Below w.heap.size w w' := by
  have h := box_any (UInt8.ofNat i) w
  rw [UInt8.toNat_ofNat_of_lt' hi, show boxB.getD i 0 = boxR i from map_getD boxR 256 i 0 hi] at h
  exact h
set_option maxRecDepth 100000 in
set_option maxHeartbeats 4000000 in
theorem walk_aesBoxes_true (key a b : List UInt8) (w : World) (hk : key.length = 16) (ha : a.length = 16) (hb : b.length = 16) (hab : (a == b) = true) :
    Calls Try.prog 7 #[.agg (cells8 key).toArray, .agg (cells8 a).toArray, .agg (cells8 b).toArray] w fun e w' => e = .returned (.bool true) ∧ Below w.heap.size w w' := by
  have HK : Kp (key.length = 16) := ⟨hk⟩
  have HA : Kp (a.length = 16) := ⟨ha⟩
  have HB : Kp (b.length = 16) := ⟨hb⟩
  have HAB : Kp ((a == b) = true) := ⟨hab⟩
  have HBB : Kp ((blockL (keysL boxB key) boxB a == blockL (keysL boxB key) boxB b) = true) := ⟨by rw [eq_of_beq hab]; exact beq_self_eq_true _⟩
  have HLk : Kp ((cells8 key).length = 16) := ⟨by rw [cells8_length]; exact hk⟩
  have HLa : Kp ((cells8 a).length = 16) := ⟨by rw [cells8_length]; exact ha⟩
  have HLb : Kp ((cells8 b).length = 16) := ⟨by rw [cells8_length]; exact hb⟩
  clear hk ha hb hab
  go_enter Try.func7, Try.ntmps7
  go_wp2_with (with_reducible refine wpList_box (o := ⟨some 3, _, _, _, _, _⟩) rfl (.tmp 0) rfl rfl ?_)
  intro w1 hk1 hb1 hs1
  have HK1 : Kp _ := ⟨hk1⟩
  clear hk1 hs1
  go_wp2_with (with_reducible refine wpList_box (o := ⟨some 4, _, _, _, _, _⟩) rfl (.tmp 1) rfl rfl ?_)
  intro w2 hk2 hb2 hs2
  have HA2 : Kp _ := ⟨hk2⟩
  have HK2 : Kp _ := ⟨HK1.out.below hb2 HK1.out.lt⟩
  have hB2 : Below w.heap.size w w2 := hb1.trans (hb2.mono hb1.size)
  have n1 : w.heap.size < w1.heap.size := HK1.out.lt
  obtain ⟨g1, hg1⟩ : ∃ g, g = w1.heap.size := ⟨_, rfl⟩
  rw [← hg1] at HA2 n1 ⊢
  clear hk2 hs2 hb1 hb2 HK1 hg1
  go_wp2_with (with_reducible refine wpList_box (o := ⟨some 5, _, _, _, _, _⟩) rfl (.tmp 2) rfl rfl ?_)
  intro w3 hk3 hb3 hs3
  have HB3 : Kp _ := ⟨hk3⟩
  have HA3 : Kp _ := ⟨HA2.out.below hb3 HA2.out.lt⟩
  have HK3 : Kp _ := ⟨HK2.out.below hb3 HK2.out.lt⟩
  have hB3 : Below w.heap.size w w3 := hB2.trans (hb3.mono hB2.size)
  have n2 : g1 < w2.heap.size := HA2.out.lt
  obtain ⟨g2, hg2⟩ : ∃ g, g = w2.heap.size := ⟨_, rfl⟩
  rw [← hg2] at HB3 n2 ⊢
  clear hk3 hs3 hb3 HA2 HK2 hB2 hg2
  have n3 : g2 < w3.heap.size := HB3.out.lt
  go_wp2_with (with_reducible refine wpList_mk (o := ⟨some 14, _, _, _, _, _⟩) elI rfl _ _ rfl w3.heap.size _ _ _ _ 256 rfl rfl (by omega) (by omega) (by omega) (by simp only [maxLen]; omega) (Nat.le_refl _) ?_)
  intro w4 hown hg4
  obtain ⟨hh, _, _, _⟩ := own_full hown
  have hb4 : Below w3.heap.size w3 w4 := (Below.refl _ _).grown hg4 (Nat.le_refl _) (by simp)
  have HS4 : Kp (Blk w4 w3.heap.size 3 (cellsN (cntN 0))) := ⟨⟨by
    rw [hh]
    have e : cellsN (cntN 0) = List.replicate 256 (.int .i64 0) := by
      unfold cellsN
      rw [List.eq_replicate_iff]
      refine ⟨by simp, fun v hv => ?_⟩
      obtain ⟨k, _, rfl⟩ := List.mem_map.1 hv
      rfl
    rw [e]
    rfl⟩⟩
  have HB4 : Kp _ := ⟨HB3.out.below hb4 n3⟩
  have HA4 : Kp _ := ⟨HA3.out.below hb4 HA3.out.lt⟩
  have HK4 : Kp _ := ⟨HK3.out.below hb4 HK3.out.lt⟩
  have hB4 := hB3.trans (hb4.mono hB3.size)
  obtain ⟨gs, hgs⟩ : ∃ g, g = w3.heap.size := ⟨_, rfl⟩
  rw [← hgs] at HS4 n3 ⊢
  clear hown hg4 hh hb4 HB3 HA3 HK3 hB3 hgs
  go_wp2
  go_loopg [8] 256 (fun gk v8 wr => ∃ i : Nat, i + gk = 256 ∧ v8 = .int .i64 i ∧ Kp (Blk wr gs 3 (cellsN (cntN i))) ∧ Kp (Blk wr w.heap.size 30 (cells8 key)) ∧ Kp (Blk wr g1 31 (cells8 a)) ∧ Kp (Blk wr g2 31 (cells8 b)) ∧ Below w.heap.size w wr)
  case atStart => exact ⟨0, by omega, rfl, HS4, HK4, HA4, HB4, hB4⟩
  case round =>
    clear HS4 HK4 HA4 HB4 hB4
    obtain ⟨i, hi, rfl, HS, HKr, HAr, HBr, hBw⟩ := hrel
    cases gk with
    | zero =>
      obtain rfl : i = 256 := by omega
      have H1 : Kp (∀ k, k < 256 → wr.cell? ⟨gs, k, none⟩ = some (.int .i64 1)) := ⟨fun k hk => by
        rw [HS.out.cell? k, cellsN_at _ k hk, Nat.eq_of_beq_eq_true (allB_at cnt_check k hk)]; rfl⟩
      clear HS
      obtain ⟨wl, hwl⟩ : ∃ x, x = wr := ⟨wr, rfl⟩
      go_wp2
      go_loopw [12] (fun v12 wx => ∃ j : Nat, j ≤ 256 ∧ v12 = .int .i64 j ∧ wx = wl) (fun v12 _ => 256 - (intOf v12).toNat)
      case atStart => exact ⟨0, by omega, rfl, hwl.symm⟩
      case round =>
        obtain ⟨j, hj, rfl, hwr⟩ := hrel
        rw [hwl] at hwr
        subst hwr
        by_cases hlt : j < 256
        · have hj256 : (j : Int) < 256 := by omega
          have hc := H1.out j hlt
          go_wp2
          refine ⟨⟨j + 1, by omega, by go_num, by first | rfl | assumption | exact hwl.symm⟩, by simp [intOf]; omega⟩
        · obtain rfl : j = 256 := by omega
          clear H1
          go_wp2_with (with_reducible refine wpList_loadAll (o := ⟨some 56, _, _, _, _, _⟩) rwKey rfl (.tmp 3) rfl rfl HKr.out HLk.out ?_)
          go_wp2_with fail
          refine (new_any key _ HK.out).mono ?_
          rintro e w6 ⟨gc, rfl, hci, hb6⟩
          have HC : Kp _ := ⟨hci⟩
          have HA6 : Kp _ := ⟨HAr.out.below hb6 HAr.out.lt⟩
          have HB6 : Kp _ := ⟨HBr.out.below hb6 HBr.out.lt⟩
          have hB6 := hBw.trans (hb6.mono hBw.size)
          have HRA : Kp (w6.rangeAt g1 0 (cells8 a)) := ⟨HA6.out.range (n := 16) (take_all HLa.out)⟩
          have HRB : Kp (w6.rangeAt g2 0 (cells8 b)) := ⟨HB6.out.range (n := 16) (take_all HLb.out)⟩
          have hgl := HA6.out.lt
          have hgk := HB6.out.lt
          have C60 : Kp (∀ W, Below w6.heap.size w6 W → Calls Try.prog 18 #[.pointer (some ⟨gc, 0, none⟩), .agg (cells8 a).toArray] W fun e w' => e = .returned (.agg (cells8 (blockL (keysL boxB key) boxB a)).toArray) ∧ Below W.heap.size W w') := ⟨fun W hW => block_any gc key a W (HC.out.below hW) HA.out⟩
          have C63 : Kp (∀ W, Below w6.heap.size w6 W → Calls Try.prog 18 #[.pointer (some ⟨gc, 0, none⟩), .agg (cells8 b).toArray] W fun e w' => e = .returned (.agg (cells8 (blockL (keysL boxB key) boxB b)).toArray) ∧ Below W.heap.size W w') := ⟨fun W hW => block_any gc key b W (HC.out.below hW) HB.out⟩
          have HL1 : Kp ((blockL (keysL boxB key) boxB a).length = 16) := ⟨blockL_length _ _ _⟩
          have HL2 : Kp ((blockL (keysL boxB key) boxB b).length = 16) := ⟨blockL_length _ _ _⟩
          have huN : (Try.prog).underlying 31 = some (.array 16 5) := rwNonce.ty
          have hiA : ((Try.prog).info? 31).map (·.size) = some (cells8 a).length := by rw [HLa.out]; exact rwNonce.size
          have hiB : ((Try.prog).info? 31).map (·.size) = some (cells8 b).length := by rw [HLb.out]; exact rwNonce.size
          clear hci hb6 HA6 HB6 HC HKr HAr HBr hBw
          go_wp2_with fail
          refine wp_region_held_drew (S := fun W => Below w6.heap.size w6 W ∧ W.rangeAt g1 0 (cells8 a)) (by kernel_rfl) (⟨(Below.refl _ _).drew, HRA.out⟩) (fun hHeld => ?_)
          generalize w6.drew = wS at *
          refine wpAnyH_take (i := 0) (oi := ⟨some 58, _, _, _, _, _⟩) (v := ?_) rfl (by kernel_rfl) (by kernel_rfl) (by kernel_rfl) (fun _ _ _ h => h) (Or.inl ⟨by rfl, by intro w hSw; go_simp; try rfl⟩) (by assumption) ?_
          try simp only [Act.put, List.setIfInBounds_toArray, List.set_cons_zero, List.set_cons_succ]
          refine wpAnyH_take (i := 1) (oi := ⟨some 59, _, _, _, _, _⟩) (v := _) rfl (by kernel_rfl) (by kernel_rfl) (by kernel_rfl) (fun _ _ _ h => h) (yieldsIf_load_mid (by rfl) _ (.tmp 4) rfl _ _ rfl (cells8 a) _ (fun W hW => hW.2) huN rfl hiA) (by assumption) ?_
          try simp only [Act.put, List.setIfInBounds_toArray, List.set_cons_zero, List.set_cons_succ]
          refine wpAnyH_take (i := 3) (oi := ⟨some 61, _, _, _, _, _⟩) (v := ?_) rfl (by kernel_rfl) (by kernel_rfl) (by kernel_rfl) (fun _ _ _ h => h) (Or.inl ⟨by rfl, by intro w hSw; go_simp; try rfl⟩) (by assumption) ?_
          try simp only [Act.put, List.setIfInBounds_toArray, List.set_cons_zero, List.set_cons_succ]
          refine wpAnyH_take (i := 4) (oi := ⟨some 62, _, _, _, _, _⟩) (v := _) rfl (by kernel_rfl) (by kernel_rfl) (by kernel_rfl) (fun _ _ _ h => h) (yieldsIf_load_mid (by rfl) _ (.tmp 5) rfl _ _ rfl (cells8 b) _ (fun W hW => range_below HRB.out hW.1 hgk) huN rfl hiB) (by assumption) ?_
          try simp only [Act.put, List.setIfInBounds_toArray, List.set_cons_zero, List.set_cons_succ]
          refine wpAnyH_take (i := 7) (oi := ⟨some 65, _, _, _, _, _⟩) (v := _) rfl (by kernel_rfl) (by kernel_rfl) (by kernel_rfl) (fun _ _ _ h => h) (yieldsIf_load_mid (by rfl) _ (.tmp 4) rfl _ _ rfl (cells8 a) _ (fun W hW => hW.2) huN rfl hiA) (by assumption) ?_
          try simp only [Act.put, List.setIfInBounds_toArray, List.set_cons_zero, List.set_cons_succ]
          refine wpAnyH_take (i := 8) (oi := ⟨some 66, _, _, _, _, _⟩) (v := _) rfl (by kernel_rfl) (by kernel_rfl) (by kernel_rfl) (fun _ _ _ h => h) (yieldsIf_load_mid (by rfl) _ (.tmp 5) rfl _ _ rfl (cells8 b) _ (fun W hW => range_below HRB.out hW.1 hgk) huN rfl hiB) (by assumption) ?_
          try simp only [Act.put, List.setIfInBounds_toArray, List.set_cons_zero, List.set_cons_succ]
          refine wpAnyH_take (i := 9) (oi := ⟨some 67, _, _, _, _, _⟩) (v := _) rfl (by kernel_rfl) (by kernel_rfl) (by kernel_rfl) (fun _ _ _ h => h) (yieldsIf_eql (by rfl) eqNonce Try.eqGuardType31 (.tmp 65) (.tmp 66) rfl a b rfl rfl HA.out HB.out HAB.out) (by assumption) ?_
          try simp only [Act.put, List.setIfInBounds_toArray, List.set_cons_zero, List.set_cons_succ]
          refine wpAnyH_ready (rs := [2]) (by kernel_rfl) (by simp) ?_
          refine AllReadyH.cons (o := ⟨some 60, _, _, _, _, _⟩) rfl (fun K hK => ?_) AllReadyH.nil
          go_simp
          refine (C60.out _ hHeld.1).mono ?_
          rintro e w51 ⟨rfl, hb'⟩
          refine hK.out _ _ (keep_call hHeld hgl hb') (fun hHeld2 => ?_)
          clear hK K hb' hHeld
          have hHeld := hHeld2
          clear hHeld2
          try simp only [Act.put, List.setIfInBounds_toArray, List.set_cons_zero, List.set_cons_succ]
          refine wpAnyH_ready (rs := [5]) (by kernel_rfl) (by simp) ?_
          refine AllReadyH.cons (o := ⟨some 63, _, _, _, _, _⟩) rfl (fun K hK => ?_) AllReadyH.nil
          go_simp
          refine (C63.out _ hHeld.1).mono ?_
          rintro e w52 ⟨rfl, hb'⟩
          refine hK.out _ _ (keep_call hHeld hgl hb') (fun hHeld2 => ?_)
          clear hK K hb' hHeld
          have hHeld := hHeld2
          clear hHeld2
          try simp only [Act.put, List.setIfInBounds_toArray, List.set_cons_zero, List.set_cons_succ]
          refine wpAnyH_take (i := 6) (oi := ⟨some 64, _, _, _, _, _⟩) (v := _) rfl (by kernel_rfl) (by kernel_rfl) (by kernel_rfl) (fun _ _ _ h => h) (yieldsIf_eql (by rfl) eqNonce Try.eqGuardType31 (.tmp 60) (.tmp 63) rfl (blockL (keysL boxB key) boxB a) (blockL (keysL boxB key) boxB b) rfl rfl HL1.out HL2.out HBB.out) (by assumption) ?_
          try simp only [Act.put, List.setIfInBounds_toArray, List.set_cons_zero, List.set_cons_succ]
          refine wpAnyH_take (i := 10) (oi := ⟨some 68, _, _, _, _, _⟩) (v := ?_) rfl (by kernel_rfl) (by kernel_rfl) (by kernel_rfl) (fun _ _ _ h => h) (Or.inl ⟨by rfl, by intro w hSw; go_simp; try rfl⟩) (by assumption) ?_
          try simp only [Act.put, List.setIfInBounds_toArray, List.set_cons_zero, List.set_cons_succ]
          refine wpAnyH_take (i := 11) (oi := ⟨some 69, _, _, _, _, _⟩) (v := ?_) rfl (by kernel_rfl) (by kernel_rfl) (by kernel_rfl) (fun _ _ _ h => h) (Or.inl ⟨by rfl, by intro w hSw; go_simp; try rfl⟩) (by assumption) ?_
          try simp only [Act.put, List.setIfInBounds_toArray, List.set_cons_zero, List.set_cons_succ]
          refine wpAnyH_ready (rs := [12]) (by kernel_rfl) (by simp) ?_
          refine AllReadyH.cons (o := ⟨some 70, _, _, _, _, _⟩) rfl (fun K hK => ?_) AllReadyH.nil
          go_simp
          refine (known4_any _).mono ?_
          rintro e w53 ⟨rfl, hb'⟩
          refine hK.out _ _ (keep_call hHeld hgl hb') (fun hHeld2 => ?_)
          clear hK K hb' hHeld
          have hHeld := hHeld2
          clear hHeld2
          try simp only [Act.put, List.setIfInBounds_toArray, List.set_cons_zero, List.set_cons_succ]
          refine wpAnyH_take (i := 13) (oi := ⟨some 71, _, _, _, _, _⟩) (v := ?_) rfl (by kernel_rfl) (by kernel_rfl) (by kernel_rfl) (fun _ _ _ h => h) (Or.inl ⟨by rfl, by intro w hSw; go_simp; try rfl⟩) (by assumption) ?_
          try simp only [Act.put, List.setIfInBounds_toArray, List.set_cons_zero, List.set_cons_succ]
          refine wpAnyH_take (i := 14) (oi := ⟨some 6, _, _, _, _, _⟩) (v := ?_) rfl (by kernel_rfl) (by kernel_rfl) (by kernel_rfl) (fun _ _ _ h => h) (Or.inl ⟨by rfl, by intro w hSw; go_simp; try rfl⟩) (by assumption) ?_
          try simp only [Act.put, List.setIfInBounds_toArray, List.set_cons_zero, List.set_cons_succ]
          refine wpAnyH_done (by kernel_rfl) ?_ _
          go_wp2
          go_ret
          exact ⟨rfl, hB6.trans (hHeld.1.mono hB6.size)⟩
    | succ g5 =>
      have hi256 : (i : Int) < 256 := by omega
      have hiN : i < 256 := by omega
      go_wp2_with fail
      refine (box_n i hiN _).mono ?_
      rintro e wa ⟨rfl, hba⟩
      have HSa : Kp _ := ⟨HS.out.below hba HS.out.lt⟩
      have HKa : Kp _ := ⟨HKr.out.below hba HKr.out.lt⟩
      have HAa : Kp _ := ⟨HAr.out.below hba HAr.out.lt⟩
      have HBa : Kp _ := ⟨HBr.out.below hba HBr.out.lt⟩
      have hBa := hBw.trans (hba.mono hBw.size)
      have hy8 := (boxR i).toNat_lt
      have hyI : ((boxR i).toNat : Int) < 256 := by omega
      have hcs := (HSa.out.cell? (boxR i).toNat).trans (cellsN_at (cntN i) (boxR i).toNat hy8)
      have hfs := HSa.out.frozen (boxR i).toNat
      have hcl := cnt_le i (boxR i).toNat
      have HSet : Kp _ := ⟨cellsN_set i⟩
      generalize cntN i (boxR i).toNat = c at *
      generalize (boxR i).toNat = y at *
      have HD : Kp (gs ≠ w.heap.size ∧ gs ≠ g1 ∧ gs ≠ g2 ∧ w.heap.size ≤ gs) := ⟨by omega, by omega, by omega, by omega⟩
      have HON : Kp (onesN i 256 = if i = 0 then 0 else 1) := ⟨by
        have h := Nat.eq_of_beq_eq_true (allB_at ones_check i hiN)
        rw [h]
        by_cases h0 : i = 0
        · rw [if_pos h0, if_pos (by rw [h0]; rfl)]
        · rw [if_neg h0, if_neg (by intro e; exact h0 (Nat.eq_of_beq_eq_true e))]⟩
      have hci : (c : Int) + 1 = ((c + 1 : Nat) : Int) := by omega
      obtain ⟨c1, hc1⟩ : ∃ x, x = c + 1 := ⟨_, rfl⟩
      rw [← hc1] at HSet hci
      clear HS HKr HAr HBr hBw hba hc1
      go_wp2
      have HS2 : Kp (Blk (wa.setCell ⟨gs, y, none⟩ (.int .i64 (c1 : Int))) gs 3 (cellsN (cntN (i + 1)))) := ⟨by have h := HSa.out.set y (.int .i64 (c1 : Int)); rw [HSet.out] at h; exact h⟩
      have HK2 : Kp _ := ⟨HKa.out.other (p := ⟨gs, y, none⟩) (fun e => HD.out.1 e.symm) (.int .i64 (c1 : Int))⟩
      have HA2 : Kp _ := ⟨HAa.out.other (p := ⟨gs, y, none⟩) (fun e => HD.out.2.1 e.symm) (.int .i64 (c1 : Int))⟩
      have HB2 : Kp _ := ⟨HBa.out.other (p := ⟨gs, y, none⟩) (fun e => HD.out.2.2.1 e.symm) (.int .i64 (c1 : Int))⟩
      have hB2 := hBa.setCell (p := ⟨gs, y, none⟩) HD.out.2.2.2 (.int .i64 (c1 : Int))
      generalize wa.setCell ⟨gs, y, none⟩ (.int .i64 (c1 : Int)) = wb at *
      clear HSa HKa HAa HBa hBa hcs hfs hcl HSet hci
      go_loopg [10, 11] 256 (fun g v10 v11 wx => ∃ j : Nat, j + g = 256 ∧ v11 = .int .i64 j ∧ v10 = .int .i64 (onesN i j : Nat) ∧ wx = wb)
      case atStart => exact ⟨0, by omega, rfl, rfl, rfl⟩
      case round =>
        obtain ⟨j, hj, rfl, rfl, hwx⟩ := hrel
        subst hwx
        cases gk with
        | zero =>
          obtain rfl : j = 256 := by omega
          by_cases h0 : i = 0
          · have ho : ((onesN i 256 : Nat) : Int) = 0 := by rw [HON.out, if_pos h0]; rfl
            have hi0 : (i : Int) ≤ 1 := by omega
            have hine : ((0 : Int) != (i : Int)) = false := by rw [h0]; rfl
            rw [ho]
            clear h0
            go_wp2
            go_roundg g5
            case rel => exact ⟨i + 1, by omega, by go_num, HS2, HK2, HA2, HB2, hB2⟩
            case measure => omega
          · have ho : ((onesN i 256 : Nat) : Int) = 1 := by rw [HON.out, if_neg h0]; rfl
            rw [ho]
            by_cases h1 : i = 1
            · have hi0 : (i : Int) ≤ 1 := by omega
              have hine : ((1 : Int) != (i : Int)) = false := by rw [h1]; rfl
              clear h0 h1
              go_wp2
              go_roundg g5
              case rel => exact ⟨i + 1, by omega, by go_num, HS2, HK2, HA2, HB2, hB2⟩
              case measure => omega
            · have hi0 : (1 : Int) < (i : Int) := by omega
              clear h0 h1
              go_wp2
              go_roundg g5
              case rel => exact ⟨i + 1, by omega, by go_num, HS2, HK2, HA2, HB2, hB2⟩
              case measure => omega
        | succ g6 =>
          have hj256 : (j : Int) < 256 := by omega
          have hol := ones_le i j
          have hol2 : ((onesN i j : Nat) : Int) ≤ 256 := by omega
          have HO1 : Kp (onesN i (j + 1) = onesN i j + (if Nat.beq (mulRun 8 0 i j) 1 then 1 else 0)) := ⟨rfl⟩
          go_wp2_with fail
          refine (mul_nn i j hiN (by omega) _).mono ?_
          rintro e wz ⟨rfl, rfl⟩
          by_cases h1 : mulRun 8 0 i j = 1
          · rw [h1] at HO1 ⊢
            rw [if_pos (show Nat.beq 1 1 = true from rfl)] at HO1
            clear h1
            obtain ⟨o, ho⟩ : ∃ o, o = onesN i j := ⟨_, rfl⟩
            rw [← ho] at hol2 HO1 ⊢
            clear ho hol
            go_wp2
            go_roundg g6
            case rel => exact ⟨j + 1, by omega, by go_num, by rw [HO1.out]; rfl, rfl⟩
            case measure => omega
          · have hb1 : (((mulRun 8 0 i j : Nat) : Int) == 1) = false := by rw [beq_eq_false_iff_ne]; omega
            rw [if_neg (by intro e; exact h1 (Nat.eq_of_beq_eq_true e)), Nat.add_zero] at HO1
            obtain ⟨r, hr⟩ : ∃ r, r = mulRun 8 0 i j := ⟨_, rfl⟩
            rw [← hr] at hb1 ⊢
            obtain ⟨o, ho⟩ : ∃ o, o = onesN i j := ⟨_, rfl⟩
            rw [← ho] at hol2 HO1 ⊢
            clear ho hol hr h1
            go_wp2
            go_roundg g6
            case rel => exact ⟨j + 1, by omega, by go_num, by rw [HO1.out]; rfl, rfl⟩
            case measure => omega
set_option maxRecDepth 100000 in
set_option maxHeartbeats 4000000 in
theorem walk_aesBoxes_false (key a b : List UInt8) (w : World) (hk : key.length = 16) (ha : a.length = 16) (hb : b.length = 16) (hab : (a == b) = false) :
    Calls Try.prog 7 #[.agg (cells8 key).toArray, .agg (cells8 a).toArray, .agg (cells8 b).toArray] w fun e w' => e = .returned (.bool true) ∧ Below w.heap.size w w' := by
  have HK : Kp (key.length = 16) := ⟨hk⟩
  have HA : Kp (a.length = 16) := ⟨ha⟩
  have HB : Kp (b.length = 16) := ⟨hb⟩
  have HAB : Kp ((a == b) = false) := ⟨hab⟩
  have HBB : Kp ((blockL (keysL boxB key) boxB a == blockL (keysL boxB key) boxB b) = false) := ⟨by rw [beq_eq_false_iff_ne]; intro e; rw [blockL_inj ha hb e, beq_self_eq_true] at hab; cases hab⟩
  have HLk : Kp ((cells8 key).length = 16) := ⟨by rw [cells8_length]; exact hk⟩
  have HLa : Kp ((cells8 a).length = 16) := ⟨by rw [cells8_length]; exact ha⟩
  have HLb : Kp ((cells8 b).length = 16) := ⟨by rw [cells8_length]; exact hb⟩
  clear hk ha hb hab
  go_enter Try.func7, Try.ntmps7
  go_wp2_with (with_reducible refine wpList_box (o := ⟨some 3, _, _, _, _, _⟩) rfl (.tmp 0) rfl rfl ?_)
  intro w1 hk1 hb1 hs1
  have HK1 : Kp _ := ⟨hk1⟩
  clear hk1 hs1
  go_wp2_with (with_reducible refine wpList_box (o := ⟨some 4, _, _, _, _, _⟩) rfl (.tmp 1) rfl rfl ?_)
  intro w2 hk2 hb2 hs2
  have HA2 : Kp _ := ⟨hk2⟩
  have HK2 : Kp _ := ⟨HK1.out.below hb2 HK1.out.lt⟩
  have hB2 : Below w.heap.size w w2 := hb1.trans (hb2.mono hb1.size)
  have n1 : w.heap.size < w1.heap.size := HK1.out.lt
  obtain ⟨g1, hg1⟩ : ∃ g, g = w1.heap.size := ⟨_, rfl⟩
  rw [← hg1] at HA2 n1 ⊢
  clear hk2 hs2 hb1 hb2 HK1 hg1
  go_wp2_with (with_reducible refine wpList_box (o := ⟨some 5, _, _, _, _, _⟩) rfl (.tmp 2) rfl rfl ?_)
  intro w3 hk3 hb3 hs3
  have HB3 : Kp _ := ⟨hk3⟩
  have HA3 : Kp _ := ⟨HA2.out.below hb3 HA2.out.lt⟩
  have HK3 : Kp _ := ⟨HK2.out.below hb3 HK2.out.lt⟩
  have hB3 : Below w.heap.size w w3 := hB2.trans (hb3.mono hB2.size)
  have n2 : g1 < w2.heap.size := HA2.out.lt
  obtain ⟨g2, hg2⟩ : ∃ g, g = w2.heap.size := ⟨_, rfl⟩
  rw [← hg2] at HB3 n2 ⊢
  clear hk3 hs3 hb3 HA2 HK2 hB2 hg2
  have n3 : g2 < w3.heap.size := HB3.out.lt
  go_wp2_with (with_reducible refine wpList_mk (o := ⟨some 14, _, _, _, _, _⟩) elI rfl _ _ rfl w3.heap.size _ _ _ _ 256 rfl rfl (by omega) (by omega) (by omega) (by simp only [maxLen]; omega) (Nat.le_refl _) ?_)
  intro w4 hown hg4
  obtain ⟨hh, _, _, _⟩ := own_full hown
  have hb4 : Below w3.heap.size w3 w4 := (Below.refl _ _).grown hg4 (Nat.le_refl _) (by simp)
  have HS4 : Kp (Blk w4 w3.heap.size 3 (cellsN (cntN 0))) := ⟨⟨by
    rw [hh]
    have e : cellsN (cntN 0) = List.replicate 256 (.int .i64 0) := by
      unfold cellsN
      rw [List.eq_replicate_iff]
      refine ⟨by simp, fun v hv => ?_⟩
      obtain ⟨k, _, rfl⟩ := List.mem_map.1 hv
      rfl
    rw [e]
    rfl⟩⟩
  have HB4 : Kp _ := ⟨HB3.out.below hb4 n3⟩
  have HA4 : Kp _ := ⟨HA3.out.below hb4 HA3.out.lt⟩
  have HK4 : Kp _ := ⟨HK3.out.below hb4 HK3.out.lt⟩
  have hB4 := hB3.trans (hb4.mono hB3.size)
  obtain ⟨gs, hgs⟩ : ∃ g, g = w3.heap.size := ⟨_, rfl⟩
  rw [← hgs] at HS4 n3 ⊢
  clear hown hg4 hh hb4 HB3 HA3 HK3 hB3 hgs
  go_wp2
  go_loopg [8] 256 (fun gk v8 wr => ∃ i : Nat, i + gk = 256 ∧ v8 = .int .i64 i ∧ Kp (Blk wr gs 3 (cellsN (cntN i))) ∧ Kp (Blk wr w.heap.size 30 (cells8 key)) ∧ Kp (Blk wr g1 31 (cells8 a)) ∧ Kp (Blk wr g2 31 (cells8 b)) ∧ Below w.heap.size w wr)
  case atStart => exact ⟨0, by omega, rfl, HS4, HK4, HA4, HB4, hB4⟩
  case round =>
    clear HS4 HK4 HA4 HB4 hB4
    obtain ⟨i, hi, rfl, HS, HKr, HAr, HBr, hBw⟩ := hrel
    cases gk with
    | zero =>
      obtain rfl : i = 256 := by omega
      have H1 : Kp (∀ k, k < 256 → wr.cell? ⟨gs, k, none⟩ = some (.int .i64 1)) := ⟨fun k hk => by
        rw [HS.out.cell? k, cellsN_at _ k hk, Nat.eq_of_beq_eq_true (allB_at cnt_check k hk)]; rfl⟩
      clear HS
      obtain ⟨wl, hwl⟩ : ∃ x, x = wr := ⟨wr, rfl⟩
      go_wp2
      go_loopw [12] (fun v12 wx => ∃ j : Nat, j ≤ 256 ∧ v12 = .int .i64 j ∧ wx = wl) (fun v12 _ => 256 - (intOf v12).toNat)
      case atStart => exact ⟨0, by omega, rfl, hwl.symm⟩
      case round =>
        obtain ⟨j, hj, rfl, hwr⟩ := hrel
        rw [hwl] at hwr
        subst hwr
        by_cases hlt : j < 256
        · have hj256 : (j : Int) < 256 := by omega
          have hc := H1.out j hlt
          go_wp2
          refine ⟨⟨j + 1, by omega, by go_num, by first | rfl | assumption | exact hwl.symm⟩, by simp [intOf]; omega⟩
        · obtain rfl : j = 256 := by omega
          clear H1
          go_wp2_with (with_reducible refine wpList_loadAll (o := ⟨some 56, _, _, _, _, _⟩) rwKey rfl (.tmp 3) rfl rfl HKr.out HLk.out ?_)
          go_wp2_with fail
          refine (new_any key _ HK.out).mono ?_
          rintro e w6 ⟨gc, rfl, hci, hb6⟩
          have HC : Kp _ := ⟨hci⟩
          have HA6 : Kp _ := ⟨HAr.out.below hb6 HAr.out.lt⟩
          have HB6 : Kp _ := ⟨HBr.out.below hb6 HBr.out.lt⟩
          have hB6 := hBw.trans (hb6.mono hBw.size)
          have HRA : Kp (w6.rangeAt g1 0 (cells8 a)) := ⟨HA6.out.range (n := 16) (take_all HLa.out)⟩
          have HRB : Kp (w6.rangeAt g2 0 (cells8 b)) := ⟨HB6.out.range (n := 16) (take_all HLb.out)⟩
          have hgl := HA6.out.lt
          have hgk := HB6.out.lt
          have C60 : Kp (∀ W, Below w6.heap.size w6 W → Calls Try.prog 18 #[.pointer (some ⟨gc, 0, none⟩), .agg (cells8 a).toArray] W fun e w' => e = .returned (.agg (cells8 (blockL (keysL boxB key) boxB a)).toArray) ∧ Below W.heap.size W w') := ⟨fun W hW => block_any gc key a W (HC.out.below hW) HA.out⟩
          have C63 : Kp (∀ W, Below w6.heap.size w6 W → Calls Try.prog 18 #[.pointer (some ⟨gc, 0, none⟩), .agg (cells8 b).toArray] W fun e w' => e = .returned (.agg (cells8 (blockL (keysL boxB key) boxB b)).toArray) ∧ Below W.heap.size W w') := ⟨fun W hW => block_any gc key b W (HC.out.below hW) HB.out⟩
          have HL1 : Kp ((blockL (keysL boxB key) boxB a).length = 16) := ⟨blockL_length _ _ _⟩
          have HL2 : Kp ((blockL (keysL boxB key) boxB b).length = 16) := ⟨blockL_length _ _ _⟩
          have huN : (Try.prog).underlying 31 = some (.array 16 5) := rwNonce.ty
          have hiA : ((Try.prog).info? 31).map (·.size) = some (cells8 a).length := by rw [HLa.out]; exact rwNonce.size
          have hiB : ((Try.prog).info? 31).map (·.size) = some (cells8 b).length := by rw [HLb.out]; exact rwNonce.size
          clear hci hb6 HA6 HB6 HC HKr HAr HBr hBw
          go_wp2_with fail
          refine wp_region_held_drew (S := fun W => Below w6.heap.size w6 W ∧ W.rangeAt g1 0 (cells8 a)) (by kernel_rfl) (⟨(Below.refl _ _).drew, HRA.out⟩) (fun hHeld => ?_)
          generalize w6.drew = wS at *
          refine wpAnyH_take (i := 0) (oi := ⟨some 58, _, _, _, _, _⟩) (v := ?_) rfl (by kernel_rfl) (by kernel_rfl) (by kernel_rfl) (fun _ _ _ h => h) (Or.inl ⟨by rfl, by intro w hSw; go_simp; try rfl⟩) (by assumption) ?_
          try simp only [Act.put, List.setIfInBounds_toArray, List.set_cons_zero, List.set_cons_succ]
          refine wpAnyH_take (i := 1) (oi := ⟨some 59, _, _, _, _, _⟩) (v := _) rfl (by kernel_rfl) (by kernel_rfl) (by kernel_rfl) (fun _ _ _ h => h) (yieldsIf_load_mid (by rfl) _ (.tmp 4) rfl _ _ rfl (cells8 a) _ (fun W hW => hW.2) huN rfl hiA) (by assumption) ?_
          try simp only [Act.put, List.setIfInBounds_toArray, List.set_cons_zero, List.set_cons_succ]
          refine wpAnyH_take (i := 3) (oi := ⟨some 61, _, _, _, _, _⟩) (v := ?_) rfl (by kernel_rfl) (by kernel_rfl) (by kernel_rfl) (fun _ _ _ h => h) (Or.inl ⟨by rfl, by intro w hSw; go_simp; try rfl⟩) (by assumption) ?_
          try simp only [Act.put, List.setIfInBounds_toArray, List.set_cons_zero, List.set_cons_succ]
          refine wpAnyH_take (i := 4) (oi := ⟨some 62, _, _, _, _, _⟩) (v := _) rfl (by kernel_rfl) (by kernel_rfl) (by kernel_rfl) (fun _ _ _ h => h) (yieldsIf_load_mid (by rfl) _ (.tmp 5) rfl _ _ rfl (cells8 b) _ (fun W hW => range_below HRB.out hW.1 hgk) huN rfl hiB) (by assumption) ?_
          try simp only [Act.put, List.setIfInBounds_toArray, List.set_cons_zero, List.set_cons_succ]
          refine wpAnyH_take (i := 7) (oi := ⟨some 65, _, _, _, _, _⟩) (v := _) rfl (by kernel_rfl) (by kernel_rfl) (by kernel_rfl) (fun _ _ _ h => h) (yieldsIf_load_mid (by rfl) _ (.tmp 4) rfl _ _ rfl (cells8 a) _ (fun W hW => hW.2) huN rfl hiA) (by assumption) ?_
          try simp only [Act.put, List.setIfInBounds_toArray, List.set_cons_zero, List.set_cons_succ]
          refine wpAnyH_take (i := 8) (oi := ⟨some 66, _, _, _, _, _⟩) (v := _) rfl (by kernel_rfl) (by kernel_rfl) (by kernel_rfl) (fun _ _ _ h => h) (yieldsIf_load_mid (by rfl) _ (.tmp 5) rfl _ _ rfl (cells8 b) _ (fun W hW => range_below HRB.out hW.1 hgk) huN rfl hiB) (by assumption) ?_
          try simp only [Act.put, List.setIfInBounds_toArray, List.set_cons_zero, List.set_cons_succ]
          refine wpAnyH_take (i := 9) (oi := ⟨some 67, _, _, _, _, _⟩) (v := _) rfl (by kernel_rfl) (by kernel_rfl) (by kernel_rfl) (fun _ _ _ h => h) (yieldsIf_eql (by rfl) eqNonce Try.eqGuardType31 (.tmp 65) (.tmp 66) rfl a b rfl rfl HA.out HB.out HAB.out) (by assumption) ?_
          try simp only [Act.put, List.setIfInBounds_toArray, List.set_cons_zero, List.set_cons_succ]
          refine wpAnyH_ready (rs := [2]) (by kernel_rfl) (by simp) ?_
          refine AllReadyH.cons (o := ⟨some 60, _, _, _, _, _⟩) rfl (fun K hK => ?_) AllReadyH.nil
          go_simp
          refine (C60.out _ hHeld.1).mono ?_
          rintro e w51 ⟨rfl, hb'⟩
          refine hK.out _ _ (keep_call hHeld hgl hb') (fun hHeld2 => ?_)
          clear hK K hb' hHeld
          have hHeld := hHeld2
          clear hHeld2
          try simp only [Act.put, List.setIfInBounds_toArray, List.set_cons_zero, List.set_cons_succ]
          refine wpAnyH_ready (rs := [5]) (by kernel_rfl) (by simp) ?_
          refine AllReadyH.cons (o := ⟨some 63, _, _, _, _, _⟩) rfl (fun K hK => ?_) AllReadyH.nil
          go_simp
          refine (C63.out _ hHeld.1).mono ?_
          rintro e w52 ⟨rfl, hb'⟩
          refine hK.out _ _ (keep_call hHeld hgl hb') (fun hHeld2 => ?_)
          clear hK K hb' hHeld
          have hHeld := hHeld2
          clear hHeld2
          try simp only [Act.put, List.setIfInBounds_toArray, List.set_cons_zero, List.set_cons_succ]
          refine wpAnyH_take (i := 6) (oi := ⟨some 64, _, _, _, _, _⟩) (v := _) rfl (by kernel_rfl) (by kernel_rfl) (by kernel_rfl) (fun _ _ _ h => h) (yieldsIf_eql (by rfl) eqNonce Try.eqGuardType31 (.tmp 60) (.tmp 63) rfl (blockL (keysL boxB key) boxB a) (blockL (keysL boxB key) boxB b) rfl rfl HL1.out HL2.out HBB.out) (by assumption) ?_
          try simp only [Act.put, List.setIfInBounds_toArray, List.set_cons_zero, List.set_cons_succ]
          refine wpAnyH_take (i := 10) (oi := ⟨some 68, _, _, _, _, _⟩) (v := ?_) rfl (by kernel_rfl) (by kernel_rfl) (by kernel_rfl) (fun _ _ _ h => h) (Or.inl ⟨by rfl, by intro w hSw; go_simp; try rfl⟩) (by assumption) ?_
          try simp only [Act.put, List.setIfInBounds_toArray, List.set_cons_zero, List.set_cons_succ]
          refine wpAnyH_take (i := 11) (oi := ⟨some 69, _, _, _, _, _⟩) (v := ?_) rfl (by kernel_rfl) (by kernel_rfl) (by kernel_rfl) (fun _ _ _ h => h) (Or.inl ⟨by rfl, by intro w hSw; go_simp; try rfl⟩) (by assumption) ?_
          try simp only [Act.put, List.setIfInBounds_toArray, List.set_cons_zero, List.set_cons_succ]
          refine wpAnyH_ready (rs := [12]) (by kernel_rfl) (by simp) ?_
          refine AllReadyH.cons (o := ⟨some 70, _, _, _, _, _⟩) rfl (fun K hK => ?_) AllReadyH.nil
          go_simp
          refine (known4_any _).mono ?_
          rintro e w53 ⟨rfl, hb'⟩
          refine hK.out _ _ (keep_call hHeld hgl hb') (fun hHeld2 => ?_)
          clear hK K hb' hHeld
          have hHeld := hHeld2
          clear hHeld2
          try simp only [Act.put, List.setIfInBounds_toArray, List.set_cons_zero, List.set_cons_succ]
          refine wpAnyH_take (i := 13) (oi := ⟨some 71, _, _, _, _, _⟩) (v := ?_) rfl (by kernel_rfl) (by kernel_rfl) (by kernel_rfl) (fun _ _ _ h => h) (Or.inl ⟨by rfl, by intro w hSw; go_simp; try rfl⟩) (by assumption) ?_
          try simp only [Act.put, List.setIfInBounds_toArray, List.set_cons_zero, List.set_cons_succ]
          refine wpAnyH_take (i := 14) (oi := ⟨some 6, _, _, _, _, _⟩) (v := ?_) rfl (by kernel_rfl) (by kernel_rfl) (by kernel_rfl) (fun _ _ _ h => h) (Or.inl ⟨by rfl, by intro w hSw; go_simp; try rfl⟩) (by assumption) ?_
          try simp only [Act.put, List.setIfInBounds_toArray, List.set_cons_zero, List.set_cons_succ]
          refine wpAnyH_done (by kernel_rfl) ?_ _
          go_wp2
          go_ret
          exact ⟨rfl, hB6.trans (hHeld.1.mono hB6.size)⟩
    | succ g5 =>
      have hi256 : (i : Int) < 256 := by omega
      have hiN : i < 256 := by omega
      go_wp2_with fail
      refine (box_n i hiN _).mono ?_
      rintro e wa ⟨rfl, hba⟩
      have HSa : Kp _ := ⟨HS.out.below hba HS.out.lt⟩
      have HKa : Kp _ := ⟨HKr.out.below hba HKr.out.lt⟩
      have HAa : Kp _ := ⟨HAr.out.below hba HAr.out.lt⟩
      have HBa : Kp _ := ⟨HBr.out.below hba HBr.out.lt⟩
      have hBa := hBw.trans (hba.mono hBw.size)
      have hy8 := (boxR i).toNat_lt
      have hyI : ((boxR i).toNat : Int) < 256 := by omega
      have hcs := (HSa.out.cell? (boxR i).toNat).trans (cellsN_at (cntN i) (boxR i).toNat hy8)
      have hfs := HSa.out.frozen (boxR i).toNat
      have hcl := cnt_le i (boxR i).toNat
      have HSet : Kp _ := ⟨cellsN_set i⟩
      generalize cntN i (boxR i).toNat = c at *
      generalize (boxR i).toNat = y at *
      have HD : Kp (gs ≠ w.heap.size ∧ gs ≠ g1 ∧ gs ≠ g2 ∧ w.heap.size ≤ gs) := ⟨by omega, by omega, by omega, by omega⟩
      have HON : Kp (onesN i 256 = if i = 0 then 0 else 1) := ⟨by
        have h := Nat.eq_of_beq_eq_true (allB_at ones_check i hiN)
        rw [h]
        by_cases h0 : i = 0
        · rw [if_pos h0, if_pos (by rw [h0]; rfl)]
        · rw [if_neg h0, if_neg (by intro e; exact h0 (Nat.eq_of_beq_eq_true e))]⟩
      have hci : (c : Int) + 1 = ((c + 1 : Nat) : Int) := by omega
      obtain ⟨c1, hc1⟩ : ∃ x, x = c + 1 := ⟨_, rfl⟩
      rw [← hc1] at HSet hci
      clear HS HKr HAr HBr hBw hba hc1
      go_wp2
      have HS2 : Kp (Blk (wa.setCell ⟨gs, y, none⟩ (.int .i64 (c1 : Int))) gs 3 (cellsN (cntN (i + 1)))) := ⟨by have h := HSa.out.set y (.int .i64 (c1 : Int)); rw [HSet.out] at h; exact h⟩
      have HK2 : Kp _ := ⟨HKa.out.other (p := ⟨gs, y, none⟩) (fun e => HD.out.1 e.symm) (.int .i64 (c1 : Int))⟩
      have HA2 : Kp _ := ⟨HAa.out.other (p := ⟨gs, y, none⟩) (fun e => HD.out.2.1 e.symm) (.int .i64 (c1 : Int))⟩
      have HB2 : Kp _ := ⟨HBa.out.other (p := ⟨gs, y, none⟩) (fun e => HD.out.2.2.1 e.symm) (.int .i64 (c1 : Int))⟩
      have hB2 := hBa.setCell (p := ⟨gs, y, none⟩) HD.out.2.2.2 (.int .i64 (c1 : Int))
      generalize wa.setCell ⟨gs, y, none⟩ (.int .i64 (c1 : Int)) = wb at *
      clear HSa HKa HAa HBa hBa hcs hfs hcl HSet hci
      go_loopg [10, 11] 256 (fun g v10 v11 wx => ∃ j : Nat, j + g = 256 ∧ v11 = .int .i64 j ∧ v10 = .int .i64 (onesN i j : Nat) ∧ wx = wb)
      case atStart => exact ⟨0, by omega, rfl, rfl, rfl⟩
      case round =>
        obtain ⟨j, hj, rfl, rfl, hwx⟩ := hrel
        subst hwx
        cases gk with
        | zero =>
          obtain rfl : j = 256 := by omega
          by_cases h0 : i = 0
          · have ho : ((onesN i 256 : Nat) : Int) = 0 := by rw [HON.out, if_pos h0]; rfl
            have hi0 : (i : Int) ≤ 1 := by omega
            have hine : ((0 : Int) != (i : Int)) = false := by rw [h0]; rfl
            rw [ho]
            clear h0
            go_wp2
            go_roundg g5
            case rel => exact ⟨i + 1, by omega, by go_num, HS2, HK2, HA2, HB2, hB2⟩
            case measure => omega
          · have ho : ((onesN i 256 : Nat) : Int) = 1 := by rw [HON.out, if_neg h0]; rfl
            rw [ho]
            by_cases h1 : i = 1
            · have hi0 : (i : Int) ≤ 1 := by omega
              have hine : ((1 : Int) != (i : Int)) = false := by rw [h1]; rfl
              clear h0 h1
              go_wp2
              go_roundg g5
              case rel => exact ⟨i + 1, by omega, by go_num, HS2, HK2, HA2, HB2, hB2⟩
              case measure => omega
            · have hi0 : (1 : Int) < (i : Int) := by omega
              clear h0 h1
              go_wp2
              go_roundg g5
              case rel => exact ⟨i + 1, by omega, by go_num, HS2, HK2, HA2, HB2, hB2⟩
              case measure => omega
        | succ g6 =>
          have hj256 : (j : Int) < 256 := by omega
          have hol := ones_le i j
          have hol2 : ((onesN i j : Nat) : Int) ≤ 256 := by omega
          have HO1 : Kp (onesN i (j + 1) = onesN i j + (if Nat.beq (mulRun 8 0 i j) 1 then 1 else 0)) := ⟨rfl⟩
          go_wp2_with fail
          refine (mul_nn i j hiN (by omega) _).mono ?_
          rintro e wz ⟨rfl, rfl⟩
          by_cases h1 : mulRun 8 0 i j = 1
          · rw [h1] at HO1 ⊢
            rw [if_pos (show Nat.beq 1 1 = true from rfl)] at HO1
            clear h1
            obtain ⟨o, ho⟩ : ∃ o, o = onesN i j := ⟨_, rfl⟩
            rw [← ho] at hol2 HO1 ⊢
            clear ho hol
            go_wp2
            go_roundg g6
            case rel => exact ⟨j + 1, by omega, by go_num, by rw [HO1.out]; rfl, rfl⟩
            case measure => omega
          · have hb1 : (((mulRun 8 0 i j : Nat) : Int) == 1) = false := by rw [beq_eq_false_iff_ne]; omega
            rw [if_neg (by intro e; exact h1 (Nat.eq_of_beq_eq_true e)), Nat.add_zero] at HO1
            obtain ⟨r, hr⟩ : ∃ r, r = mulRun 8 0 i j := ⟨_, rfl⟩
            rw [← hr] at hb1 ⊢
            obtain ⟨o, ho⟩ : ∃ o, o = onesN i j := ⟨_, rfl⟩
            rw [← ho] at hol2 HO1 ⊢
            clear ho hol hr h1
            go_wp2
            go_roundg g6
            case rel => exact ⟨j + 1, by omega, by go_num, by rw [HO1.out]; rfl, rfl⟩
            case measure => omega
end Go.Proofs.Ytleplilcpcgacaa
