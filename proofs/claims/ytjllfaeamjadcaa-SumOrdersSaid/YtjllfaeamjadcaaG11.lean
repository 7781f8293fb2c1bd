/- The document's Long and All of the fifth chapter.
   What four arrays in memory are, carried over calls; '==' of two arrays.
   '==' of two arrays, guarded; what the four last laws of the chapter share.
   The walk of SumOfs.
   Things at places that came in: a list of them, or one by value, opened. No program is named here. -/
import Derived.Test.YtjllfaeamjadcaaG09
import Derived.Test.YtjllfaeamjadcaaG10
import Derived.Test.YtjllfaeamjadcaaG01
import Derived.Test.YtjllfaeamjadcaaG07
namespace Go.Proofs.Ytjllfaeamjadcaa
open Go.RowKit

/-- how many bytes there are -/
def longN (its : List (Int × List UInt8)) : Nat := (its.map fun x => 1 + x.2.length).sum
theorem longN_next (its : List (Int × List UInt8)) (k : Nat) (h : k < its.length) : longN (its.take (k + 1)) = longN (its.take k) + 1 + its[k].2.length := by
  unfold longN
  rw [List.take_succ_eq_append_getElem h, List.map_append, List.sum_append]
  simp; omega
theorem longN_mem (its : List (Int × List UInt8)) : ∀ x ∈ its, x.2.length < longN its := by
  induction its with
  | nil => intro x h; cases h
  | cons y ys ih =>
    intro x h
    have e : longN (y :: ys) = 1 + y.2.length + longN ys := by simp [longN]
    rw [e]
    rcases List.mem_cons.1 h with rfl | h
    · omega
    · have := ih x h; omega
theorem longN_le (its : List (Int × List UInt8)) (M : Nat) (h : ∀ x ∈ its, x.2.length ≤ M) (k : Nat) (hk : k ≤ its.length) : longN (its.take k) ≤ k * (M + 1) := by
  induction k with
  | zero => simp [longN]
  | succ k ih =>
    rw [longN_next its k (by omega)]
    have := h _ (List.getElem_mem (show k < its.length by omega))
    have := ih (by omega)
    rw [Nat.succ_mul]; omega
theorem sumD_next (pre : List D32) (x : D32) : addL (sumD pre) x.1 = sumD (pre ++ [x]) := by
  unfold sumD addL
  refine getN_inj (by rw [putN_length, putN_length]) ?_
  rw [getN_putN, getN_putN, getN_putN, sumN_snoc, Nat.mod_add_mod]
theorem sumD_nil : sumD [] = z32 := by decide +kernel
set_option maxHeartbeats 1000000 in
theorem reflong_any (A : Option Addr) (m c : Nat) (its : List (Int × List UInt8)) (w : World) (B : Nat) (hI : Its w B A m c its) (hm : m ≤ 20) (hb : ∀ x ∈ its, x.2.length ≤ 140737488351232) :
    Calls Try.prog 17 #[.slice A m c] w fun e w' => e = .returned (.int .i64 ((longN its : Nat) : Int)) ∧ w' = w := by
  have HL : Kp _ := ⟨hI.len⟩
  have HB : Kp _ := ⟨hb⟩
  have HI : Kp _ := ⟨hI⟩
  have hm63 := hI.le
  clear hI hb
  go_enter Try.func17, Try.ntmps17
  go_wp2
  go_loop [3, 4] (fun s i => ∃ k : Nat, k ≤ m ∧ i = .int .i64 k ∧ s = .int .i64 ((longN (its.take k) : Nat) : Int)) (fun _ i => m - (intOf i).toNat)
  case atStart => exact ⟨0, Nat.zero_le _, rfl, rfl⟩
  case round =>
    obtain ⟨k, hk, rfl, rfl⟩ := hrel
    by_cases hlt : k < m
    · obtain ⟨b, o, A', n', c', rfl, _, hc1, hc2, hbs⟩ := HI.out.at hlt
      have hki : k < its.length := by rw [HL.out]; exact hlt
      have HNx : Kp _ := ⟨longN_next its k hki⟩
      have h1 := longN_le its 140737488351232 HB.out k (by omega)
      have h2 := HB.out _ (List.getElem_mem hki)
      have h3 : (its[k]'hki).2.length = n' := hbs.len
      rw [h3] at h2 HNx
      have h4 : longN (its.take k) ≤ 2814749767024640 := Nat.le_trans h1 (by omega)
      have hn63 := hbs.le
      generalize longN (its.take k) = s at *
      clear h1 h3 hbs
      go_wp2
      go_round
      case rel => exact ⟨k + 1, by omega, by go_num, by rw [HNx.out]; go_num⟩
      case measure => simp [intOf]; omega
    · obtain rfl : k = m := by omega
      have HE : Kp (its.take k = its) := ⟨List.take_of_length_le (by rw [HL.out]; exact Nat.le_refl _)⟩
      rw [HE.out]
      go_wp2
      go_ret
      exact ⟨rfl, rfl⟩
set_option maxRecDepth 100000 in
set_option maxHeartbeats 4000000 in
theorem refall_any (K : Option Addr) (kn kc : Nat) (key : List UInt8) (A : Option Addr) (m c : Nat) (its : List (Int × List UInt8)) (w : World) (hK : Bs w w.heap.size K kn kc key) (hI : Its w w.heap.size A m c its)
    (hkn : kn ≤ 524288) (hb : ∀ x ∈ its, x.2.length ≤ 523000) :
    Calls Try.prog 21 #[.slice K kn kc, .slice A m c] w fun e w' => e = .returned (.agg (cells8 (allL key its)).toArray) ∧ Below w.heap.size w w' := by
  have HK : Kp _ := ⟨hK⟩
  have HI : Kp _ := ⟨hI⟩
  have HB : Kp _ := ⟨hb⟩
  have HL : Kp _ := ⟨hI.len⟩
  have hm63 := hI.le
  obtain ⟨L, hL⟩ : ∃ L, L = allL key its := ⟨_, rfl⟩
  have HLL : Kp (sumD ((comeL key its).take m) = L) := ⟨by rw [hL, List.take_of_length_le (by rw [comeL_length, HL.out]; exact Nat.le_refl _)]; rfl⟩
  have HLr : Kp ((cells8 L).length = 32) := ⟨by rw [hL, cells8_length, allL_length]⟩
  rw [← hL]
  have HB0 : Kp ((Try.prog).built 23 [] = some (cells8 (sumD ((comeL key its).take 0))).toArray) := ⟨by rw [List.take_zero, sumD_nil]; exact dig_built0⟩
  have HLZ : Kp ((cells8 (sumD ((comeL key its).take 0))).length = 32) := ⟨by rw [cells8_length, sumD_length]⟩
  have HZz : Kp (zero32.length = 32) := ⟨rfl⟩
  clear hL hK hI hb
  go_enter Try.func21, Try.ntmps21
  go_wp2_with (with_reducible refine wpList_alloc (o := ⟨some 4, _, _, _, _, _⟩) tyDig rfl rfl ?_)
  intro w1 hk1 hb1 hs1
  have HR1 : Kp _ := ⟨hk1⟩
  clear hk1 hs1
  obtain ⟨Z, hZ⟩ : ∃ Z, Z = sumD ((comeL key its).take 0) := ⟨_, rfl⟩
  have HZ : Kp _ := ⟨hZ⟩
  rw [← hZ] at HB0 HLZ
  clear hZ
  go_wp2_with (first
    | (refine wpList_build0 (o := ⟨some 7, _, _, _, _, _⟩) rfl rfl HB0.out ?_)
    | (with_reducible refine wpList_alloc (o := ⟨some 5, _, _, _, _, _⟩) tyDig rfl rfl ?_))
  intro w2 hk2 hb2 hs2
  have HO2 : Kp _ := ⟨hk2⟩
  have HR2 : Kp _ := ⟨HR1.out.below hb2 HR1.out.lt⟩
  have hB2 := hb1.trans (hb2.mono hb1.size)
  have n1 : w.heap.size < w1.heap.size := HR1.out.lt
  obtain ⟨go, hgo⟩ : ∃ g, g = w1.heap.size := ⟨_, rfl⟩
  rw [← hgo] at HO2 n1 ⊢
  clear hk2 hs2 hb1 hb2 HR1 hgo
  go_wp2_with (refine wpList_storeAll (o := ⟨none, _, _, _, _, _⟩) (vs := cells8 Z) rwDig rfl (.tmp 5) (.tmp 7) rfl rfl HO2.out HZz.out HLZ.out (cells8_one _) rfl ?_)
  intro w3 hk3 ho3
  have HO3 : Kp (Blk w3 go 23 (cells8 (sumD ((comeL key its).take 0)))) := ⟨by rw [← HZ.out]; exact hk3⟩
  have HR3 : Kp _ := ⟨HR2.out.only ho3 (by omega)⟩
  have hB3 := hB2.trans (ho3.below (by omega))
  clear hk3 ho3 HO2 HR2 hB2
  go_wp2
  go_loopg [6] m (fun gk vi wr => ∃ k : Nat, k + gk = m ∧ vi = .int .i64 k ∧ Kp (Blk wr go 23 (cells8 (sumD ((comeL key its).take k)))) ∧ Kp (Blk wr w.heap.size 23 zero32) ∧ Below w.heap.size w wr)
  case atStart => exact ⟨0, by omega, rfl, HO3, HR3, hB3⟩
  case round =>
    clear HO3 HR3 hB3
    obtain ⟨k, hk, rfl, HO, HR, hB⟩ := hrel
    cases gk with
    | zero =>
      obtain rfl : k = m := by omega
      have HD : Kp (Blk wr go 23 (cells8 L)) := ⟨by rw [← HLL.out]; exact HO.out⟩
      clear HO
      go_wp2_with (first
        | (with_reducible refine wpList_loadAll (o := ⟨some 28, _, _, _, _, _⟩) rwDig rfl (.tmp 5) rfl rfl HD.out HLr.out ?_)
        | (with_reducible refine wpList_storeAll (o := ⟨none, _, _, _, _, _⟩) (vs := cells8 L) rwDig rfl (.tmp 4) (.tmp 28) rfl rfl HR.out HZz.out HLr.out (cells8_one _) rfl ?_))
      intro w7 hk7 ho7
      have HK7 : Kp _ := ⟨hk7⟩
      clear hk7
      go_wp2
      exact ret_arr rfl rwDig rfl HK7.out HLr.out rfl ⟨rfl, hB.trans (ho7.below (Nat.le_refl _))⟩
    | succ g2 =>
      have hlt : k < m := by omega
      have hki : k < its.length := by rw [HL.out]; exact hlt
      obtain ⟨b, o, A', n', c', rfl, hbl, hc1, hc2, hbs⟩ := (HI.out.below hB).at hlt
      obtain ⟨z, hz⟩ : ∃ z, z = (its[k]'hki).1 := ⟨_, rfl⟩
      obtain ⟨bb, hbb⟩ : ∃ z, z = (its[k]'hki).2 := ⟨_, rfl⟩
      have hn5 : n' ≤ 523000 := by
        have h := HB.out _ (List.getElem_mem hki)
        rw [hbs.len] at h
        exact h
      rw [← hz] at hc1
      rw [← hbb] at hbs
      obtain ⟨O, hO⟩ : ∃ O, O = sumD ((comeL key its).take k) := ⟨_, rfl⟩
      obtain ⟨X, hX⟩ : ∃ X, X = ofL key z bb := ⟨_, rfl⟩
      have HOl : Kp (O.length = 32) := ⟨by rw [hO, sumD_length]⟩
      have HXl : Kp (X.length = 32) := ⟨by rw [hX, ofL_length]⟩
      obtain ⟨N, hN⟩ : ∃ N, N = addL O X := ⟨_, rfl⟩
      have HN : Kp (sumD ((comeL key its).take (k + 1)) = N) := ⟨by
        rw [comeL_next key its k hki, ← sumD_next, hN, hO]
        congr 1
        rw [hX, hz, hbb]⟩
      have HLO : Kp ((cells8 O).length = 32) := ⟨by rw [cells8_length]; exact HOl.out⟩
      have HLN : Kp ((cells8 N).length = 32) := ⟨by rw [cells8_length, hN, addL_length]⟩
      have HBs : Kp _ := ⟨hbs⟩
      have HKr : Kp _ := ⟨HK.out.below hB⟩
      have hwr := hB.size
      have C1 : Kp (∀ W, Below wr.heap.size wr W → Calls Try.prog 19 #[.slice K kn kc, .int .i64 z, .slice A' n' c'] W fun e w' => e = .returned (.agg (cells8 X).toArray) ∧ Below W.heap.size W w') := ⟨fun W hW => by
        have h := refof_any K kn kc key z A' n' c' bb W ((HKr.out.below (hW.mono hwr)).more (Nat.le_trans hwr hW.size)) ((HBs.out.below (hW.mono hwr)).more (Nat.le_trans hwr hW.size)) hkn hn5
        rw [← hX] at h; exact h⟩
      have C2 : Kp (∀ W, Calls Try.prog 11 #[.agg (cells8 O).toArray, .agg (cells8 X).toArray] W fun e w' => e = .returned (.agg (cells8 N).toArray) ∧ Below W.heap.size W w') := ⟨fun W => by
        have h := refadd_any O X W HOl.out HXl.out
        rw [← hN] at h; exact h⟩
      have HOb : Kp (Blk wr go 23 (cells8 O)) := ⟨by rw [hO]; exact HO.out⟩
      have hgl : go < wr.heap.size := HO.out.lt
      have hbw : b < wr.heap.size := Nat.lt_of_lt_of_le hbl hwr
      clear hz hbb hO hX hN hbs HO
      obtain ⟨wa, rfl⟩ : ∃ x, x = wr := ⟨wr, rfl⟩
      go_wp2_with fail
      have hBW : Below wa.heap.size wa wa := Below.refl _ _
      refine wp_region_any (by kernel_rfl) ?_
      change wpAny _ _ _ _ _ _ _ wa.drew
      replace HOb : Kp _ := ⟨HOb.out.drew⟩
      replace HR : Kp _ := ⟨HR.out.drew⟩
      replace hBW := hBW.drew
      generalize wa.drew = wS at *
      refine wpAny_take (i := 1) (oi := ⟨some 15, _, _, _, _, _⟩) (v := ?_) rfl (by kernel_rfl) (by kernel_rfl) (by kernel_rfl) (fun _ _ _ h => h) (Or.inl ⟨by rfl, by intro w; go_simp; try rfl⟩) ?_
      try simp only [Act.put, List.setIfInBounds_toArray, List.set_cons_zero, List.set_cons_succ]
      refine wpAny_take (i := 2) (oi := ⟨some 16, _, _, _, _, _⟩) (v := ?_) rfl (by kernel_rfl) (by kernel_rfl) (by kernel_rfl) (fun _ _ _ h => h) (Or.inl ⟨by rfl, by intro w; go_simp; try rfl⟩) ?_
      try simp only [Act.put, List.setIfInBounds_toArray, List.set_cons_zero, List.set_cons_succ]
      refine wpAny_take (i := 3) (oi := ⟨some 17, _, _, _, _, _⟩) (v := ?_) rfl (by kernel_rfl) (by kernel_rfl) (by kernel_rfl) (fun _ _ _ h => h) (Or.inl ⟨by rfl, by intro w; go_simp; try rfl⟩) ?_
      try simp only [Act.put, List.setIfInBounds_toArray, List.set_cons_zero, List.set_cons_succ]
      refine wpAny_take (i := 4) (oi := ⟨some 18, _, _, _, _, _⟩) (v := ?_) rfl (by kernel_rfl) (by kernel_rfl) (by kernel_rfl) (fun _ _ _ h => h) (Or.inl ⟨by rfl, by intro w; go_simp; try rfl⟩) ?_
      try simp only [Act.put, List.setIfInBounds_toArray, List.set_cons_zero, List.set_cons_succ]
      refine wpAny_take (i := 5) (oi := ⟨some 19, _, _, _, _, _⟩) (v := ?_) rfl (by kernel_rfl) (by kernel_rfl) (by kernel_rfl) (fun _ _ _ h => h) (Or.inl ⟨by rfl, by intro w; go_simp; try rfl⟩) ?_
      try simp only [Act.put, List.setIfInBounds_toArray, List.set_cons_zero, List.set_cons_succ]
      refine wpAny_take (i := 7) (oi := ⟨some 21, _, _, _, _, _⟩) (v := ?_) rfl (by kernel_rfl) (by kernel_rfl) (by kernel_rfl) (fun _ _ _ h => h) (Or.inl ⟨by rfl, by intro w; go_simp; try rfl⟩) ?_
      try simp only [Act.put, List.setIfInBounds_toArray, List.set_cons_zero, List.set_cons_succ]
      refine wpAny_take (i := 8) (oi := ⟨some 22, _, _, _, _, _⟩) (v := ?_) rfl (by kernel_rfl) (by kernel_rfl) (by kernel_rfl) (fun _ _ _ h => h) (Or.inl ⟨by rfl, by intro w; go_simp; try rfl⟩) ?_
      try simp only [Act.put, List.setIfInBounds_toArray, List.set_cons_zero, List.set_cons_succ]
      refine wpAny_take (i := 9) (oi := ⟨some 23, _, _, _, _, _⟩) (v := ?_) rfl (by kernel_rfl) (by kernel_rfl) (by kernel_rfl) (fun _ _ _ h => h) (Or.inl ⟨by rfl, by intro w; go_simp; try rfl⟩) ?_
      try simp only [Act.put, List.setIfInBounds_toArray, List.set_cons_zero, List.set_cons_succ]
      refine wpAny_take (i := 10) (oi := ⟨some 24, _, _, _, _, _⟩) (v := ?_) rfl (by kernel_rfl) (by kernel_rfl) (by kernel_rfl) (fun _ _ _ h => h) (Or.inl ⟨by rfl, by intro w; go_simp; try rfl⟩) ?_
      try simp only [Act.put, List.setIfInBounds_toArray, List.set_cons_zero, List.set_cons_succ]
      refine wpAny_ready (rs := [0, 6, 11]) (by kernel_rfl) (by simp) ?_
      refine AllReady.cons (o := ⟨some 14, _, _, _, _, _⟩) rfl (fun K hK => ?_) (AllReady.cons (o := ⟨some 20, _, _, _, _, _⟩) rfl (fun K hK => ?_) (AllReady.cons (o := ⟨some 25, _, _, _, _, _⟩) rfl (fun K hK => ?_) AllReady.nil))
      · refine step_load rwDig rfl (.tmp 5) rfl rfl HOb.out (fit_all32 HLO.out) (take_all32 HLO.out) ?_
        refine hK _ _ ?_
        clear hK K
        try simp only [Act.put, List.setIfInBounds_toArray, List.set_cons_zero, List.set_cons_succ]
        refine wpAny_ready (rs := [6, 11]) (by kernel_rfl) (by simp) ?_
        refine AllReady.cons (o := ⟨some 20, _, _, _, _, _⟩) rfl (fun K hK => ?_) (AllReady.cons (o := ⟨some 25, _, _, _, _, _⟩) rfl (fun K hK => ?_) AllReady.nil)
        · have hq := (hBW.cell (p := ⟨b, o + k * 2, none⟩) hbw).trans hc1
          go_simp
          refine hK _ _ ?_
          clear hK K hq
          try simp only [Act.put, List.setIfInBounds_toArray, List.set_cons_zero, List.set_cons_succ]
          refine wpAny_ready (rs := [11]) (by kernel_rfl) (by simp) ?_
          refine AllReady.cons (o := ⟨some 25, _, _, _, _, _⟩) rfl (fun K hK => ?_) AllReady.nil
          have hq := (hBW.cell (p := ⟨b, o + k * 2 + 1, none⟩) hbw).trans hc2
          go_simp
          refine hK _ _ ?_
          clear hK K hq
          try simp only [Act.put, List.setIfInBounds_toArray, List.set_cons_zero, List.set_cons_succ]
          refine wpAny_ready (rs := [12]) (by kernel_rfl) (by simp) ?_
          refine AllReady.cons (o := ⟨some 26, _, _, _, _, _⟩) rfl (fun K hK => ?_) AllReady.nil
          go_simp
          refine (C1.out wS hBW).mono ?_
          rintro e w63 ⟨rfl, hb'⟩
          refine hK _ _ ?_
          clear hK K
          try simp only [Act.put, List.setIfInBounds_toArray, List.set_cons_zero, List.set_cons_succ]
          replace HOb : Kp _ := ⟨HOb.out.below hb' HOb.out.lt⟩
          replace HR : Kp _ := ⟨HR.out.below hb' HR.out.lt⟩
          replace hBW := hBW.trans (hb'.mono hBW.size)
          clear hb'
          refine wpAny_ready (rs := [13]) (by kernel_rfl) (by simp) ?_
          refine AllReady.cons (o := ⟨some 27, _, _, _, _, _⟩) rfl (fun K hK => ?_) AllReady.nil
          go_simp
          refine (C2.out w63).mono ?_
          rintro e w64 ⟨rfl, hb'⟩
          refine hK _ _ ?_
          clear hK K
          try simp only [Act.put, List.setIfInBounds_toArray, List.set_cons_zero, List.set_cons_succ]
          replace HOb : Kp _ := ⟨HOb.out.below hb' HOb.out.lt⟩
          replace HR : Kp _ := ⟨HR.out.below hb' HR.out.lt⟩
          replace hBW := hBW.trans (hb'.mono hBW.size)
          clear hb'
          refine wpAny_ready (rs := [14]) (by kernel_rfl) (by simp) ?_
          refine AllReady.cons (o := ⟨none, _, _, _, _, _⟩) rfl (fun K hK => ?_) AllReady.nil
          refine step_store rwDig rfl (.tmp 5) (.tmp 27) rfl rfl rfl HOb.out HLN.out (fit_all32 HLO.out) (cells8_one _) ?_
          intro w65 hk ho
          refine hK _ _ ?_
          clear hK K
          try simp only [Act.put]
          rw [store_all32 (n := 32) HLO.out] at hk
          have HO9 : Kp _ := ⟨hk⟩
          have HR9 : Kp (Blk w65 w.heap.size 23 zero32) := ⟨HR.out.only ho (by omega)⟩
          have hB9 : Below w.heap.size w w65 := (hB.trans (hBW.mono hwr)).trans (ho.below (by omega))
          clear hk ho
          refine wpAny_done (by kernel_rfl) ?_ _
          go_wp2
          go_roundg g2
          case rel => exact ⟨k + 1, by omega, by go_num, ⟨by rw [HN.out]; exact HO9.out⟩, HR9, hB9⟩
          case measure => omega
        · have hq := (hBW.cell (p := ⟨b, o + k * 2 + 1, none⟩) hbw).trans hc2
          go_simp
          refine hK _ _ ?_
          clear hK K hq
          try simp only [Act.put, List.setIfInBounds_toArray, List.set_cons_zero, List.set_cons_succ]
          refine wpAny_ready (rs := [6]) (by kernel_rfl) (by simp) ?_
          refine AllReady.cons (o := ⟨some 20, _, _, _, _, _⟩) rfl (fun K hK => ?_) AllReady.nil
          have hq := (hBW.cell (p := ⟨b, o + k * 2, none⟩) hbw).trans hc1
          go_simp
          refine hK _ _ ?_
          clear hK K hq
          try simp only [Act.put, List.setIfInBounds_toArray, List.set_cons_zero, List.set_cons_succ]
          refine wpAny_ready (rs := [12]) (by kernel_rfl) (by simp) ?_
          refine AllReady.cons (o := ⟨some 26, _, _, _, _, _⟩) rfl (fun K hK => ?_) AllReady.nil
          go_simp
          refine (C1.out wS hBW).mono ?_
          rintro e w68 ⟨rfl, hb'⟩
          refine hK _ _ ?_
          clear hK K
          try simp only [Act.put, List.setIfInBounds_toArray, List.set_cons_zero, List.set_cons_succ]
          replace HOb : Kp _ := ⟨HOb.out.below hb' HOb.out.lt⟩
          replace HR : Kp _ := ⟨HR.out.below hb' HR.out.lt⟩
          replace hBW := hBW.trans (hb'.mono hBW.size)
          clear hb'
          refine wpAny_ready (rs := [13]) (by kernel_rfl) (by simp) ?_
          refine AllReady.cons (o := ⟨some 27, _, _, _, _, _⟩) rfl (fun K hK => ?_) AllReady.nil
          go_simp
          refine (C2.out w68).mono ?_
          rintro e w69 ⟨rfl, hb'⟩
          refine hK _ _ ?_
          clear hK K
          try simp only [Act.put, List.setIfInBounds_toArray, List.set_cons_zero, List.set_cons_succ]
          replace HOb : Kp _ := ⟨HOb.out.below hb' HOb.out.lt⟩
          replace HR : Kp _ := ⟨HR.out.below hb' HR.out.lt⟩
          replace hBW := hBW.trans (hb'.mono hBW.size)
          clear hb'
          refine wpAny_ready (rs := [14]) (by kernel_rfl) (by simp) ?_
          refine AllReady.cons (o := ⟨none, _, _, _, _, _⟩) rfl (fun K hK => ?_) AllReady.nil
          refine step_store rwDig rfl (.tmp 5) (.tmp 27) rfl rfl rfl HOb.out HLN.out (fit_all32 HLO.out) (cells8_one _) ?_
          intro w70 hk ho
          refine hK _ _ ?_
          clear hK K
          try simp only [Act.put]
          rw [store_all32 (n := 32) HLO.out] at hk
          have HO9 : Kp _ := ⟨hk⟩
          have HR9 : Kp (Blk w70 w.heap.size 23 zero32) := ⟨HR.out.only ho (by omega)⟩
          have hB9 : Below w.heap.size w w70 := (hB.trans (hBW.mono hwr)).trans (ho.below (by omega))
          clear hk ho
          refine wpAny_done (by kernel_rfl) ?_ _
          go_wp2
          go_roundg g2
          case rel => exact ⟨k + 1, by omega, by go_num, ⟨by rw [HN.out]; exact HO9.out⟩, HR9, hB9⟩
          case measure => omega
      · have hq := (hBW.cell (p := ⟨b, o + k * 2, none⟩) hbw).trans hc1
        go_simp
        refine hK _ _ ?_
        clear hK K hq
        try simp only [Act.put, List.setIfInBounds_toArray, List.set_cons_zero, List.set_cons_succ]
        refine wpAny_ready (rs := [0, 11]) (by kernel_rfl) (by simp) ?_
        refine AllReady.cons (o := ⟨some 14, _, _, _, _, _⟩) rfl (fun K hK => ?_) (AllReady.cons (o := ⟨some 25, _, _, _, _, _⟩) rfl (fun K hK => ?_) AllReady.nil)
        · refine step_load rwDig rfl (.tmp 5) rfl rfl HOb.out (fit_all32 HLO.out) (take_all32 HLO.out) ?_
          refine hK _ _ ?_
          clear hK K
          try simp only [Act.put, List.setIfInBounds_toArray, List.set_cons_zero, List.set_cons_succ]
          refine wpAny_ready (rs := [11]) (by kernel_rfl) (by simp) ?_
          refine AllReady.cons (o := ⟨some 25, _, _, _, _, _⟩) rfl (fun K hK => ?_) AllReady.nil
          have hq := (hBW.cell (p := ⟨b, o + k * 2 + 1, none⟩) hbw).trans hc2
          go_simp
          refine hK _ _ ?_
          clear hK K hq
          try simp only [Act.put, List.setIfInBounds_toArray, List.set_cons_zero, List.set_cons_succ]
          refine wpAny_ready (rs := [12]) (by kernel_rfl) (by simp) ?_
          refine AllReady.cons (o := ⟨some 26, _, _, _, _, _⟩) rfl (fun K hK => ?_) AllReady.nil
          go_simp
          refine (C1.out wS hBW).mono ?_
          rintro e w73 ⟨rfl, hb'⟩
          refine hK _ _ ?_
          clear hK K
          try simp only [Act.put, List.setIfInBounds_toArray, List.set_cons_zero, List.set_cons_succ]
          replace HOb : Kp _ := ⟨HOb.out.below hb' HOb.out.lt⟩
          replace HR : Kp _ := ⟨HR.out.below hb' HR.out.lt⟩
          replace hBW := hBW.trans (hb'.mono hBW.size)
          clear hb'
          refine wpAny_ready (rs := [13]) (by kernel_rfl) (by simp) ?_
          refine AllReady.cons (o := ⟨some 27, _, _, _, _, _⟩) rfl (fun K hK => ?_) AllReady.nil
          go_simp
          refine (C2.out w73).mono ?_
          rintro e w74 ⟨rfl, hb'⟩
          refine hK _ _ ?_
          clear hK K
          try simp only [Act.put, List.setIfInBounds_toArray, List.set_cons_zero, List.set_cons_succ]
          replace HOb : Kp _ := ⟨HOb.out.below hb' HOb.out.lt⟩
          replace HR : Kp _ := ⟨HR.out.below hb' HR.out.lt⟩
          replace hBW := hBW.trans (hb'.mono hBW.size)
          clear hb'
          refine wpAny_ready (rs := [14]) (by kernel_rfl) (by simp) ?_
          refine AllReady.cons (o := ⟨none, _, _, _, _, _⟩) rfl (fun K hK => ?_) AllReady.nil
          refine step_store rwDig rfl (.tmp 5) (.tmp 27) rfl rfl rfl HOb.out HLN.out (fit_all32 HLO.out) (cells8_one _) ?_
          intro w75 hk ho
          refine hK _ _ ?_
          clear hK K
          try simp only [Act.put]
          rw [store_all32 (n := 32) HLO.out] at hk
          have HO9 : Kp _ := ⟨hk⟩
          have HR9 : Kp (Blk w75 w.heap.size 23 zero32) := ⟨HR.out.only ho (by omega)⟩
          have hB9 : Below w.heap.size w w75 := (hB.trans (hBW.mono hwr)).trans (ho.below (by omega))
          clear hk ho
          refine wpAny_done (by kernel_rfl) ?_ _
          go_wp2
          go_roundg g2
          case rel => exact ⟨k + 1, by omega, by go_num, ⟨by rw [HN.out]; exact HO9.out⟩, HR9, hB9⟩
          case measure => omega
        · have hq := (hBW.cell (p := ⟨b, o + k * 2 + 1, none⟩) hbw).trans hc2
          go_simp
          refine hK _ _ ?_
          clear hK K hq
          try simp only [Act.put, List.setIfInBounds_toArray, List.set_cons_zero, List.set_cons_succ]
          refine wpAny_ready (rs := [0, 12]) (by kernel_rfl) (by simp) ?_
          refine AllReady.cons (o := ⟨some 14, _, _, _, _, _⟩) rfl (fun K hK => ?_) (AllReady.cons (o := ⟨some 26, _, _, _, _, _⟩) rfl (fun K hK => ?_) AllReady.nil)
          · refine step_load rwDig rfl (.tmp 5) rfl rfl HOb.out (fit_all32 HLO.out) (take_all32 HLO.out) ?_
            refine hK _ _ ?_
            clear hK K
            try simp only [Act.put, List.setIfInBounds_toArray, List.set_cons_zero, List.set_cons_succ]
            refine wpAny_ready (rs := [12]) (by kernel_rfl) (by simp) ?_
            refine AllReady.cons (o := ⟨some 26, _, _, _, _, _⟩) rfl (fun K hK => ?_) AllReady.nil
            go_simp
            refine (C1.out wS hBW).mono ?_
            rintro e w77 ⟨rfl, hb'⟩
            refine hK _ _ ?_
            clear hK K
            try simp only [Act.put, List.setIfInBounds_toArray, List.set_cons_zero, List.set_cons_succ]
            replace HOb : Kp _ := ⟨HOb.out.below hb' HOb.out.lt⟩
            replace HR : Kp _ := ⟨HR.out.below hb' HR.out.lt⟩
            replace hBW := hBW.trans (hb'.mono hBW.size)
            clear hb'
            refine wpAny_ready (rs := [13]) (by kernel_rfl) (by simp) ?_
            refine AllReady.cons (o := ⟨some 27, _, _, _, _, _⟩) rfl (fun K hK => ?_) AllReady.nil
            go_simp
            refine (C2.out w77).mono ?_
            rintro e w78 ⟨rfl, hb'⟩
            refine hK _ _ ?_
            clear hK K
            try simp only [Act.put, List.setIfInBounds_toArray, List.set_cons_zero, List.set_cons_succ]
            replace HOb : Kp _ := ⟨HOb.out.below hb' HOb.out.lt⟩
            replace HR : Kp _ := ⟨HR.out.below hb' HR.out.lt⟩
            replace hBW := hBW.trans (hb'.mono hBW.size)
            clear hb'
            refine wpAny_ready (rs := [14]) (by kernel_rfl) (by simp) ?_
            refine AllReady.cons (o := ⟨none, _, _, _, _, _⟩) rfl (fun K hK => ?_) AllReady.nil
            refine step_store rwDig rfl (.tmp 5) (.tmp 27) rfl rfl rfl HOb.out HLN.out (fit_all32 HLO.out) (cells8_one _) ?_
            intro w79 hk ho
            refine hK _ _ ?_
            clear hK K
            try simp only [Act.put]
            rw [store_all32 (n := 32) HLO.out] at hk
            have HO9 : Kp _ := ⟨hk⟩
            have HR9 : Kp (Blk w79 w.heap.size 23 zero32) := ⟨HR.out.only ho (by omega)⟩
            have hB9 : Below w.heap.size w w79 := (hB.trans (hBW.mono hwr)).trans (ho.below (by omega))
            clear hk ho
            refine wpAny_done (by kernel_rfl) ?_ _
            go_wp2
            go_roundg g2
            case rel => exact ⟨k + 1, by omega, by go_num, ⟨by rw [HN.out]; exact HO9.out⟩, HR9, hB9⟩
            case measure => omega
          · go_simp
            refine (C1.out wS hBW).mono ?_
            rintro e w80 ⟨rfl, hb'⟩
            refine hK _ _ ?_
            clear hK K
            try simp only [Act.put, List.setIfInBounds_toArray, List.set_cons_zero, List.set_cons_succ]
            replace HOb : Kp _ := ⟨HOb.out.below hb' HOb.out.lt⟩
            replace HR : Kp _ := ⟨HR.out.below hb' HR.out.lt⟩
            replace hBW := hBW.trans (hb'.mono hBW.size)
            clear hb'
            refine wpAny_ready (rs := [0]) (by kernel_rfl) (by simp) ?_
            refine AllReady.cons (o := ⟨some 14, _, _, _, _, _⟩) rfl (fun K hK => ?_) AllReady.nil
            refine step_load rwDig rfl (.tmp 5) rfl rfl HOb.out (fit_all32 HLO.out) (take_all32 HLO.out) ?_
            refine hK _ _ ?_
            clear hK K
            try simp only [Act.put, List.setIfInBounds_toArray, List.set_cons_zero, List.set_cons_succ]
            refine wpAny_ready (rs := [13]) (by kernel_rfl) (by simp) ?_
            refine AllReady.cons (o := ⟨some 27, _, _, _, _, _⟩) rfl (fun K hK => ?_) AllReady.nil
            go_simp
            refine (C2.out w80).mono ?_
            rintro e w81 ⟨rfl, hb'⟩
            refine hK _ _ ?_
            clear hK K
            try simp only [Act.put, List.setIfInBounds_toArray, List.set_cons_zero, List.set_cons_succ]
            replace HOb : Kp _ := ⟨HOb.out.below hb' HOb.out.lt⟩
            replace HR : Kp _ := ⟨HR.out.below hb' HR.out.lt⟩
            replace hBW := hBW.trans (hb'.mono hBW.size)
            clear hb'
            refine wpAny_ready (rs := [14]) (by kernel_rfl) (by simp) ?_
            refine AllReady.cons (o := ⟨none, _, _, _, _, _⟩) rfl (fun K hK => ?_) AllReady.nil
            refine step_store rwDig rfl (.tmp 5) (.tmp 27) rfl rfl rfl HOb.out HLN.out (fit_all32 HLO.out) (cells8_one _) ?_
            intro w82 hk ho
            refine hK _ _ ?_
            clear hK K
            try simp only [Act.put]
            rw [store_all32 (n := 32) HLO.out] at hk
            have HO9 : Kp _ := ⟨hk⟩
            have HR9 : Kp (Blk w82 w.heap.size 23 zero32) := ⟨HR.out.only ho (by omega)⟩
            have hB9 : Below w.heap.size w w82 := (hB.trans (hBW.mono hwr)).trans (ho.below (by omega))
            clear hk ho
            refine wpAny_done (by kernel_rfl) ?_ _
            go_wp2
            go_roundg g2
            case rel => exact ⟨k + 1, by omega, by go_num, ⟨by rw [HN.out]; exact HO9.out⟩, HR9, hB9⟩
            case measure => omega
      · have hq := (hBW.cell (p := ⟨b, o + k * 2 + 1, none⟩) hbw).trans hc2
        go_simp
        refine hK _ _ ?_
        clear hK K hq
        try simp only [Act.put, List.setIfInBounds_toArray, List.set_cons_zero, List.set_cons_succ]
        refine wpAny_ready (rs := [0, 6]) (by kernel_rfl) (by simp) ?_
        refine AllReady.cons (o := ⟨some 14, _, _, _, _, _⟩) rfl (fun K hK => ?_) (AllReady.cons (o := ⟨some 20, _, _, _, _, _⟩) rfl (fun K hK => ?_) AllReady.nil)
        · refine step_load rwDig rfl (.tmp 5) rfl rfl HOb.out (fit_all32 HLO.out) (take_all32 HLO.out) ?_
          refine hK _ _ ?_
          clear hK K
          try simp only [Act.put, List.setIfInBounds_toArray, List.set_cons_zero, List.set_cons_succ]
          refine wpAny_ready (rs := [6]) (by kernel_rfl) (by simp) ?_
          refine AllReady.cons (o := ⟨some 20, _, _, _, _, _⟩) rfl (fun K hK => ?_) AllReady.nil
          have hq := (hBW.cell (p := ⟨b, o + k * 2, none⟩) hbw).trans hc1
          go_simp
          refine hK _ _ ?_
          clear hK K hq
          try simp only [Act.put, List.setIfInBounds_toArray, List.set_cons_zero, List.set_cons_succ]
          refine wpAny_ready (rs := [12]) (by kernel_rfl) (by simp) ?_
          refine AllReady.cons (o := ⟨some 26, _, _, _, _, _⟩) rfl (fun K hK => ?_) AllReady.nil
          go_simp
          refine (C1.out wS hBW).mono ?_
          rintro e w85 ⟨rfl, hb'⟩
          refine hK _ _ ?_
          clear hK K
          try simp only [Act.put, List.setIfInBounds_toArray, List.set_cons_zero, List.set_cons_succ]
          replace HOb : Kp _ := ⟨HOb.out.below hb' HOb.out.lt⟩
          replace HR : Kp _ := ⟨HR.out.below hb' HR.out.lt⟩
          replace hBW := hBW.trans (hb'.mono hBW.size)
          clear hb'
          refine wpAny_ready (rs := [13]) (by kernel_rfl) (by simp) ?_
          refine AllReady.cons (o := ⟨some 27, _, _, _, _, _⟩) rfl (fun K hK => ?_) AllReady.nil
          go_simp
          refine (C2.out w85).mono ?_
          rintro e w86 ⟨rfl, hb'⟩
          refine hK _ _ ?_
          clear hK K
          try simp only [Act.put, List.setIfInBounds_toArray, List.set_cons_zero, List.set_cons_succ]
          replace HOb : Kp _ := ⟨HOb.out.below hb' HOb.out.lt⟩
          replace HR : Kp _ := ⟨HR.out.below hb' HR.out.lt⟩
          replace hBW := hBW.trans (hb'.mono hBW.size)
          clear hb'
          refine wpAny_ready (rs := [14]) (by kernel_rfl) (by simp) ?_
          refine AllReady.cons (o := ⟨none, _, _, _, _, _⟩) rfl (fun K hK => ?_) AllReady.nil
          refine step_store rwDig rfl (.tmp 5) (.tmp 27) rfl rfl rfl HOb.out HLN.out (fit_all32 HLO.out) (cells8_one _) ?_
          intro w87 hk ho
          refine hK _ _ ?_
          clear hK K
          try simp only [Act.put]
          rw [store_all32 (n := 32) HLO.out] at hk
          have HO9 : Kp _ := ⟨hk⟩
          have HR9 : Kp (Blk w87 w.heap.size 23 zero32) := ⟨HR.out.only ho (by omega)⟩
          have hB9 : Below w.heap.size w w87 := (hB.trans (hBW.mono hwr)).trans (ho.below (by omega))
          clear hk ho
          refine wpAny_done (by kernel_rfl) ?_ _
          go_wp2
          go_roundg g2
          case rel => exact ⟨k + 1, by omega, by go_num, ⟨by rw [HN.out]; exact HO9.out⟩, HR9, hB9⟩
          case measure => omega
        · have hq := (hBW.cell (p := ⟨b, o + k * 2, none⟩) hbw).trans hc1
          go_simp
          refine hK _ _ ?_
          clear hK K hq
          try simp only [Act.put, List.setIfInBounds_toArray, List.set_cons_zero, List.set_cons_succ]
          refine wpAny_ready (rs := [0, 12]) (by kernel_rfl) (by simp) ?_
          refine AllReady.cons (o := ⟨some 14, _, _, _, _, _⟩) rfl (fun K hK => ?_) (AllReady.cons (o := ⟨some 26, _, _, _, _, _⟩) rfl (fun K hK => ?_) AllReady.nil)
          · refine step_load rwDig rfl (.tmp 5) rfl rfl HOb.out (fit_all32 HLO.out) (take_all32 HLO.out) ?_
            refine hK _ _ ?_
            clear hK K
            try simp only [Act.put, List.setIfInBounds_toArray, List.set_cons_zero, List.set_cons_succ]
            refine wpAny_ready (rs := [12]) (by kernel_rfl) (by simp) ?_
            refine AllReady.cons (o := ⟨some 26, _, _, _, _, _⟩) rfl (fun K hK => ?_) AllReady.nil
            go_simp
            refine (C1.out wS hBW).mono ?_
            rintro e w89 ⟨rfl, hb'⟩
            refine hK _ _ ?_
            clear hK K
            try simp only [Act.put, List.setIfInBounds_toArray, List.set_cons_zero, List.set_cons_succ]
            replace HOb : Kp _ := ⟨HOb.out.below hb' HOb.out.lt⟩
            replace HR : Kp _ := ⟨HR.out.below hb' HR.out.lt⟩
            replace hBW := hBW.trans (hb'.mono hBW.size)
            clear hb'
            refine wpAny_ready (rs := [13]) (by kernel_rfl) (by simp) ?_
            refine AllReady.cons (o := ⟨some 27, _, _, _, _, _⟩) rfl (fun K hK => ?_) AllReady.nil
            go_simp
            refine (C2.out w89).mono ?_
            rintro e w90 ⟨rfl, hb'⟩
            refine hK _ _ ?_
            clear hK K
            try simp only [Act.put, List.setIfInBounds_toArray, List.set_cons_zero, List.set_cons_succ]
            replace HOb : Kp _ := ⟨HOb.out.below hb' HOb.out.lt⟩
            replace HR : Kp _ := ⟨HR.out.below hb' HR.out.lt⟩
            replace hBW := hBW.trans (hb'.mono hBW.size)
            clear hb'
            refine wpAny_ready (rs := [14]) (by kernel_rfl) (by simp) ?_
            refine AllReady.cons (o := ⟨none, _, _, _, _, _⟩) rfl (fun K hK => ?_) AllReady.nil
            refine step_store rwDig rfl (.tmp 5) (.tmp 27) rfl rfl rfl HOb.out HLN.out (fit_all32 HLO.out) (cells8_one _) ?_
            intro w91 hk ho
            refine hK _ _ ?_
            clear hK K
            try simp only [Act.put]
            rw [store_all32 (n := 32) HLO.out] at hk
            have HO9 : Kp _ := ⟨hk⟩
            have HR9 : Kp (Blk w91 w.heap.size 23 zero32) := ⟨HR.out.only ho (by omega)⟩
            have hB9 : Below w.heap.size w w91 := (hB.trans (hBW.mono hwr)).trans (ho.below (by omega))
            clear hk ho
            refine wpAny_done (by kernel_rfl) ?_ _
            go_wp2
            go_roundg g2
            case rel => exact ⟨k + 1, by omega, by go_num, ⟨by rw [HN.out]; exact HO9.out⟩, HR9, hB9⟩
            case measure => omega
          · go_simp
            refine (C1.out wS hBW).mono ?_
            rintro e w92 ⟨rfl, hb'⟩
            refine hK _ _ ?_
            clear hK K
            try simp only [Act.put, List.setIfInBounds_toArray, List.set_cons_zero, List.set_cons_succ]
            replace HOb : Kp _ := ⟨HOb.out.below hb' HOb.out.lt⟩
            replace HR : Kp _ := ⟨HR.out.below hb' HR.out.lt⟩
            replace hBW := hBW.trans (hb'.mono hBW.size)
            clear hb'
            refine wpAny_ready (rs := [0]) (by kernel_rfl) (by simp) ?_
            refine AllReady.cons (o := ⟨some 14, _, _, _, _, _⟩) rfl (fun K hK => ?_) AllReady.nil
            refine step_load rwDig rfl (.tmp 5) rfl rfl HOb.out (fit_all32 HLO.out) (take_all32 HLO.out) ?_
            refine hK _ _ ?_
            clear hK K
            try simp only [Act.put, List.setIfInBounds_toArray, List.set_cons_zero, List.set_cons_succ]
            refine wpAny_ready (rs := [13]) (by kernel_rfl) (by simp) ?_
            refine AllReady.cons (o := ⟨some 27, _, _, _, _, _⟩) rfl (fun K hK => ?_) AllReady.nil
            go_simp
            refine (C2.out w92).mono ?_
            rintro e w93 ⟨rfl, hb'⟩
            refine hK _ _ ?_
            clear hK K
            try simp only [Act.put, List.setIfInBounds_toArray, List.set_cons_zero, List.set_cons_succ]
            replace HOb : Kp _ := ⟨HOb.out.below hb' HOb.out.lt⟩
            replace HR : Kp _ := ⟨HR.out.below hb' HR.out.lt⟩
            replace hBW := hBW.trans (hb'.mono hBW.size)
            clear hb'
            refine wpAny_ready (rs := [14]) (by kernel_rfl) (by simp) ?_
            refine AllReady.cons (o := ⟨none, _, _, _, _, _⟩) rfl (fun K hK => ?_) AllReady.nil
            refine step_store rwDig rfl (.tmp 5) (.tmp 27) rfl rfl rfl HOb.out HLN.out (fit_all32 HLO.out) (cells8_one _) ?_
            intro w94 hk ho
            refine hK _ _ ?_
            clear hK K
            try simp only [Act.put]
            rw [store_all32 (n := 32) HLO.out] at hk
            have HO9 : Kp _ := ⟨hk⟩
            have HR9 : Kp (Blk w94 w.heap.size 23 zero32) := ⟨HR.out.only ho (by omega)⟩
            have hB9 : Below w.heap.size w w94 := (hB.trans (hBW.mono hwr)).trans (ho.below (by omega))
            clear hk ho
            refine wpAny_done (by kernel_rfl) ?_ _
            go_wp2
            go_roundg g2
            case rel => exact ⟨k + 1, by omega, by go_num, ⟨by rw [HN.out]; exact HO9.out⟩, HR9, hB9⟩
            case measure => omega
end Go.Proofs.Ytjllfaeamjadcaa

namespace Go.Proofs.Ytjllfaeamjadcaa
open Go.RowKit

/-- four blocks as they are -/
structure Keep4 (w : World) (g0 g1 g2 g3 : Nat) (t : TypeId) (c0 c1 c2 c3 : List Value) (W : World) : Prop where
  a : Blk W g0 t c0
  b : Blk W g1 t c1
  c : Blk W g2 t c2
  d : Blk W g3 t c3
  below : Below w.heap.size w W
section
variable {w W W' : World} {g0 g1 g2 g3 : Nat} {t : TypeId} {c0 c1 c2 c3 : List Value}
theorem Keep4.next (h : Keep4 w g0 g1 g2 g3 t c0 c1 c2 c3 W) (hb : Below W.heap.size W W') : Keep4 w g0 g1 g2 g3 t c0 c1 c2 c3 W' := ⟨h.a.below hb h.a.lt, h.b.below hb h.b.lt, h.c.below hb h.c.lt, h.d.below hb h.d.lt, h.below.trans (hb.mono h.below.size)⟩
theorem Keep4.drew (h : Keep4 w g0 g1 g2 g3 t c0 c1 c2 c3 W) : Keep4 w g0 g1 g2 g3 t c0 c1 c2 c3 W.drew := ⟨h.a.drew, h.b.drew, h.c.drew, h.d.drew, h.below.drew⟩
end
section
variable {P : Program} {w : World} {ops : Array Oper} {rest : List Oper} {o : Oper} {a : Act} {Q : Exit → Act → World → Prop} {t e t' : TypeId} {n : Nat}
theorem wpList_eql (hg : o.guard = none) (E : EqB P t e n) (hG : P.eqGuardType P.depth t = false) (x y : Operand) (ho : o.op = .binOp .eql t x y t') (l m : List UInt8)
    (hx : a.eval x = .agg (cells8 l).toArray) (hy : a.eval y = .agg (cells8 m).toArray) (hl : l.length = n) (hm : m.length = n) {b : Bool} (hb : (l == m) = b) (h : wpList P ops Q rest (a.put o.dst (.bool b)) w) : wpList P ops Q (o :: rest) a w := by
  refine wpList_plain hg fun K hK => ?_
  unfold Oper.wp execOp
  simp only [ho, hx, hy, Sem.run_bind, run_eqGuard_agg (w := w) _ _ _ _ _ _ hG, Result.andThen_ok, run_eql_bytes E w l m hl hm, hb, Sem.run_pure]
  exact hK _ _ h
end
theorem beq_false {a b : List UInt8} (h : getN a ≠ getN b) : (a == b) = false := by
  cases hq : (a == b) with
  | false => rfl
  | true => exact absurd (by rw [beq_iff_eq.1 hq]) h
theorem lessL_true {a b : List UInt8} (h : getN a < getN b) : lessL a b = true := decide_eq_true h
theorem lessL_false {a b : List UInt8} (h : ¬ getN a < getN b) : lessL a b = false := decide_eq_false h
end Go.Proofs.Ytjllfaeamjadcaa

namespace Go.Proofs.Ytjllfaeamjadcaa
open Go.RowKit

section
variable {P : Program} {w : World} {ops : Array Oper} {rest : List Oper} {o : Oper} {a : Act} {Q : Exit → Act → World → Prop} {t e t' : TypeId} {n : Nat}
theorem wpList_eql_g (hg : Region.wanted o (yielded ops a.tmps) = true) (E : EqB P t e n) (hG : P.eqGuardType P.depth t = false) (x y : Operand) (ho : o.op = .binOp .eql t x y t') (l m : List UInt8)
    (hx : a.eval x = .agg (cells8 l).toArray) (hy : a.eval y = .agg (cells8 m).toArray) (hl : l.length = n) (hm : m.length = n) {b : Bool} (hb : (l == m) = b) (h : wpList P ops Q rest (a.put o.dst (.bool b)) w) : wpList P ops Q (o :: rest) a w := by
  refine wpList_step fun K hK => ?_
  rw [if_pos hg]
  unfold Oper.wp execOp
  simp only [ho, hx, hy, Sem.run_bind, run_eqGuard_agg (w := w) _ _ _ _ _ _ hG, Result.andThen_ok, run_eql_bytes E w l m hl hm, hb, Sem.run_pure]
  exact hK _ _ h
end
end Go.Proofs.Ytjllfaeamjadcaa

namespace Go.Proofs.Ytjllfaeamjadcaa
open Go.RowKit

set_option maxRecDepth 100000 in
set_option maxHeartbeats 4000000 in
theorem law_sumOfs (K : Option Addr) (n c : Nat) (key : List UInt8) (z : Int) (B : Option Addr) (m d : Nat) (b : List UInt8) (I : Option Addr) (p q : Nat) (its : List (Int × List UInt8)) (w : World) (hk : Bs w w.heap.size K n c key ∧ c ≤ 140737488351232) (_hz : (Lit.int .i64 z).wf = true) (hb : Bs w w.heap.size B m d b ∧ d ≤ 140737488351232) (hi : Its w w.heap.size I p q its ∧ ∀ x ∈ its, x.2.length ≤ 140737488351232) :
    Calls Try.prog 4 #[.slice K n c, .int .i64 z, .slice B m d, .slice I p q] w fun e w' => e = .returned (.bool true) ∧ Below w.heap.size w w' := by
  have HK : Kp _ := ⟨hk.1⟩
  have HB : Kp _ := ⟨hb.1⟩
  have HI : Kp _ := ⟨hi.1⟩
  have HM : Kp _ := ⟨hi.2⟩
  have hn63 := hk.1.le
  have hm63 := hb.1.le
  have hp63 := hi.1.le
  clear hk hb hi
  obtain ⟨X, hX⟩ : ∃ x, x = ofL key z b := ⟨_, rfl⟩
  have HXl : Kp (X.length = 32) := ⟨by rw [hX]; exact ofL_length _ _ _⟩
  have HLX : Kp ((cells8 X).length = 32) := ⟨by rw [cells8_length]; exact HXl.out⟩
  obtain ⟨Y, hY⟩ : ∃ x, x = allL key its := ⟨_, rfl⟩
  have HYl : Kp (Y.length = 32) := ⟨by rw [hY]; exact allL_length _ _⟩
  have HLY : Kp ((cells8 Y).length = 32) := ⟨by rw [cells8_length]; exact HYl.out⟩
  go_enter Try.func4, Try.ntmps4
  by_cases h1 : (100 : Int) < n
  · go_wp2_with fail
    refine (known5_any _).mono ?_
    rintro e wz ⟨rfl, hz⟩
    go_wp2
    go_ret
    exact ⟨rfl, hz⟩
  have dh1 := decide_eq_false h1
  by_cases h2 : (300 : Int) < m
  · go_wp2_with fail
    refine (known5_any _).mono ?_
    rintro e wz ⟨rfl, hz⟩
    go_wp2
    go_ret
    exact ⟨rfl, hz⟩
  have dh2 := decide_eq_false h2
  by_cases h3 : (20 : Int) < p
  · go_wp2_with fail
    refine (known5_any _).mono ?_
    rintro e wz ⟨rfl, hz⟩
    go_wp2
    go_ret
    exact ⟨rfl, hz⟩
  have dh3 := decide_eq_false h3
  obtain ⟨s, hs⟩ : ∃ s, s = longN its := ⟨_, rfl⟩
  have hs63 : s ≤ 3000000000000000 := by
    have h := longN_le its 140737488351232 HM.out its.length (Nat.le_refl _)
    rw [List.take_length, HI.out.len] at h
    rw [hs]
    exact Nat.le_trans h (by omega)
  have CL := reflong_any I p q its w w.heap.size HI.out (by omega) HM.out
  rw [← hs] at CL
  have HCL : Kp _ := ⟨CL⟩
  clear CL
  go_wp2_with fail
  refine HCL.out.mono ?_
  rintro e w0 ⟨rfl, rfl⟩
  by_cases h4 : (600 : Int) < s
  · go_wp2_with fail
    refine (known5_any _).mono ?_
    rintro e wz ⟨rfl, hz⟩
    go_wp2
    go_ret
    exact ⟨rfl, hz⟩
  have dh4 := decide_eq_false h4
  have HMs : Kp (∀ x ∈ its, x.2.length ≤ 523000) := ⟨fun x hx => by have h := longN_mem its x hx; omega⟩
  have hn3 : n ≤ 524288 := by omega
  have hm3 : m ≤ 523000 := by omega
  have hp3 : p ≤ 4294967296 := by omega
  have C1 : Kp (∀ W, Below w0.heap.size w0 W → Calls Try.prog 18 #[.slice K n c, .int .i64 z, .slice B m d] W fun e w' => e = .returned (.agg (cells8 X).toArray) ∧ Below W.heap.size W w') := ⟨fun W hW => by
    have h := of_any K n c key z B m d b W (HK.out.next hW (Nat.le_refl _)) (HB.out.next hW (Nat.le_refl _)) hn3 hm3
    rw [← hX] at h; exact h⟩
  have C2 : Kp (∀ W, Below w0.heap.size w0 W → Calls Try.prog 19 #[.slice K n c, .int .i64 z, .slice B m d] W fun e w' => e = .returned (.agg (cells8 X).toArray) ∧ Below W.heap.size W w') := ⟨fun W hW => by
    have h := refof_any K n c key z B m d b W (HK.out.next hW (Nat.le_refl _)) (HB.out.next hW (Nat.le_refl _)) hn3 hm3
    rw [← hX] at h; exact h⟩
  have C3 : Kp (∀ W, Below w0.heap.size w0 W → Calls Try.prog 20 #[.slice K n c, .slice I p q] W fun e w' => e = .returned (.agg (cells8 Y).toArray) ∧ Below W.heap.size W w') := ⟨fun W hW => by
    have h := all_any K n c key I p q its W (HK.out.next hW (Nat.le_refl _)) (HI.out.next hW (Nat.le_refl _)) hp3 hn3 HMs.out
    rw [← hY] at h; exact h⟩
  have C4 : Kp (∀ W, Below w0.heap.size w0 W → Calls Try.prog 21 #[.slice K n c, .slice I p q] W fun e w' => e = .returned (.agg (cells8 Y).toArray) ∧ Below W.heap.size W w') := ⟨fun W hW => by
    have h := refall_any K n c key I p q its W (HK.out.next hW (Nat.le_refl _)) (HI.out.next hW (Nat.le_refl _)) hn3 HMs.out
    rw [← hY] at h; exact h⟩
  clear hX hY hs
  go_wp2_with fail
  refine (C1.out _ (Below.refl _ _)).mono ?_
  rintro e w1 ⟨rfl, hb1⟩
  go_wp2_with fail
  refine (C2.out _ hb1).mono ?_
  rintro e w2 ⟨rfl, hb2⟩
  have hB2 := hb1.trans (hb2.mono hb1.size)
  clear hb1 hb2
  go_wp2_with (refine wpList_eql (o := ⟨some 36, _, _, _, _, _⟩) rfl eqDig Try.eqGuardType23 (.tmp 31) (.tmp 35) rfl X X rfl rfl HXl.out HXl.out (beq_self_eq_true _) ?_)
  go_wp2_with fail
  refine (C3.out _ hB2).mono ?_
  rintro e w3 ⟨rfl, hb3⟩
  have hB3 := hB2.trans (hb3.mono hB2.size)
  clear hb3
  go_wp2_with fail
  refine (C4.out _ hB3).mono ?_
  rintro e w4 ⟨rfl, hb4⟩
  have hB4 := hB3.trans (hb4.mono hB3.size)
  clear hb4
  go_wp2_with (refine wpList_eql_g (o := ⟨some 44, _, _, _, _, _⟩) (by rfl) eqDig Try.eqGuardType23 (.tmp 40) (.tmp 43) rfl Y Y rfl rfl HYl.out HYl.out (beq_self_eq_true _) ?_)
  go_wp2_with fail
  refine (known5_any _).mono ?_
  rintro e w5 ⟨rfl, hb5⟩
  go_wp2
  go_ret
  exact ⟨by rfl, hB4.trans (hb5.mono hB4.size)⟩
end Go.Proofs.Ytjllfaeamjadcaa

namespace Go.Proofs.Ytjllfaeamjadcaa
open Go.ChangeShapes Go.WideShapes Go.ChangeAt Go.RowKit Go.Deep

/-- the shape of a thing: a place, and bytes -/
structure ItemT (P : Program) (e q : TypeId) (f0 f1 : Field) : Prop where
  ty : P.underlying e = some (.struct #[f0, f1])
  t0 : P.underlying f0.type = some (.int .i64)
  t1 : P.underlying f1.type = some (.slice q)
  tq : P.underlying q = some (.int .u8)
  o0 : f0.offset = 0
  o1 : f1.offset = 1
  c0 : P.cellsOf f0.type = 1
  c1 : P.cellsOf f1.type = 1
  cq : P.cellsOf q = 1
  ce : P.cellsOf e = 2
  bq : P.bytesOf q = 1
section
variable {H : Type} {P : Program} {enc : TypeId × Value → H} {W : World} {t e q : TypeId} {a : Option Addr} {len cap : Nat} {d : DataW H} {p : List MemPlace} {f0 f1 : Field}
/-- one of them -/
theorem item_read (E : ItemT P e q f0 f1) {fuel : Nat} {cs : List Value} {x : DataW H × List MemPlace} (h : DataW.trod enc P W 0 (fun _ => true) true fuel e cs = some x) (hr : ∀ n ∈ x.1.weights P e, n ≤ reachBytes) :
    ∃ (z : Int) (A : Option Addr) (m c : Nat) (l : List UInt8), cs = [.int .i64 z, .slice A m c] ∧ (Lit.int .i64 z).wf = true ∧ Bs W W.heap.size A m c l ∧ l.length ≤ 140737488351232 := by
  obtain ⟨xs, n, _, hx, hlen, hxl, hel⟩ := DataW.trod_struct E.ty h
  rw [E.ce] at hlen
  have k0 := hel 0 f0 rfl
  have k1 := hel 1 f1 rfl
  rw [E.o0, E.c0, List.drop_zero] at k0
  rw [E.o1, E.c1] at k1
  match cs, hlen with
  | [u, v], _ =>
    match xs, hxl with
    | [x0, x1], _ =>
      obtain ⟨z, e1, e2, hw⟩ := DataW.trod_int E.t0 k0
      simp only [List.take_succ_cons, List.take_zero, List.cons.injEq, and_true] at e1
      subst e1
      have hr1 : ∀ n ∈ x1.1.weights P f1.type, n ≤ reachBytes := fun n hn => hr n (by
        rw [hx]
        simp only [List.map_cons, List.map_nil, DataW.weights, E.ty, DataW.weightsEach]
        simp [hn])
      have k1' : DataW.trod enc P W 0 (fun _ => true) true n f1.type [v] = some x1 := by simpa using k1
      rcases open_ints E.t1 E.tq E.cq k1' with ⟨hcs, _⟩ | ⟨y, l, c, zs, hcs, _, hl, hm, hz, hxx, hcell, hwz⟩
      · simp only [List.cons.injEq, and_true] at hcs
        subst hcs
        exact ⟨z, none, 0, 0, [], rfl, hw, Bs.zero _ _, by simp⟩
      · simp only [List.cons.injEq, and_true] at hcs
        subst hcs
        have hz' : zs.length = c := by simpa using hz
        have h1 := hr1
        rw [hxx] at h1
        have h2 := slice_reach E.t1 h1
        rw [E.bq] at h2
        simp only [lits, List.length_map, List.length_take, List.length_drop, reachBytes] at h2
        have hbs := bs_of_cells hl hm hz' hcell hwz
        exact ⟨z, some y, l, c, _, rfl, hw, hbs, by rw [hbs.len]; omega⟩
/-- one by value -/
theorem item_open (E : ItemT P e q f0 f1) {r : Reach} {b0 : Nat} {v : Value} (hval : Value.okWide P W r b0 e v) (h : DataW.Trod enc P W 0 (fun _ => true) true e v d p) (hr : ∀ n ∈ d.weights P e, n ≤ reachBytes) :
    ∃ (z : Int) (A : Option Addr) (m c : Nat) (l : List UInt8), v = .agg #[.int .i64 z, .slice A m c] ∧ (Lit.int .i64 z).wf = true ∧ Bs W W.heap.size A m c l ∧ l.length ≤ 140737488351232 := by
  obtain ⟨cs, rfl, hs⟩ := okWide_struct E.ty hval
  obtain ⟨fuel, hf⟩ := h
  obtain ⟨z, A, m, c, l, e1, h1, h2, h3⟩ := item_read E hf hr
  refine ⟨z, A, m, c, l, ?_, h1, h2, h3⟩
  obtain ⟨cl⟩ := cs
  simp [Value.cells] at e1
  rw [e1]
/-- a list of them -/
theorem its_open (E : ItemT P e q f0 f1) (ht : P.underlying t = some (.slice e)) (h : DataW.Trod enc P W 0 (fun _ => true) true t (.slice a len cap) d p) (hr : ∀ n ∈ d.weights P t, n ≤ reachBytes) :
    ∃ its, Its W W.heap.size a len cap its ∧ (∀ x ∈ its, x.2.length ≤ 140737488351232) := by
  obtain ⟨fuel, hf⟩ := h
  rcases DataW.trod_slice ht hf with ⟨hcs, _⟩ | ⟨a', l', c', elems, rest, n, _, hcs, hx, hb, hl, hm, hlen, hel, _, _⟩
  · simp [Value.cells] at hcs
    obtain ⟨rfl, rfl, rfl⟩ := hcs
    exact ⟨[], ⟨rfl, Nat.le_refl _, Nat.zero_le _, fun _ => rfl, (fun x hx => by cases hx), fun h => absurd h (by omega)⟩, fun x hx => by cases hx⟩
  · simp [Value.cells] at hcs
    obtain ⟨rfl, rfl, rfl⟩ := hcs
    obtain ⟨rfl, _⟩ := Prod.mk.inj hx
    have each : ∀ r, r < len → ∃ y : (Int × List UInt8) × (Option Addr × Nat × Nat), W.cell? (a'.add (r * 2)) = some (.int .i64 y.1.1) ∧ W.cell? (a'.add (r * 2 + 1)) = some (.slice y.2.1 y.2.2.1 y.2.2.2) ∧ (Lit.int .i64 y.1.1).wf = true ∧ Bs W W.heap.size y.2.1 y.2.2.1 y.2.2.2 y.1.2 ∧ y.1.2.length ≤ 140737488351232 := by
      intro r hr'
      have h1 := hel r hr'
      rw [E.ce, List.getElem?_eq_getElem (by omega)] at h1
      obtain ⟨cs, hc, ht2⟩ := Option.bind_eq_some_iff.1 h1
      obtain ⟨z, A, m, c, l, e1, h2, h3, h4⟩ := item_read E ht2 (slice_reach_in ht hr _ (List.mem_map.2 ⟨_, List.getElem_mem (by omega), rfl⟩))
      have hcell := (World.cells?_some hc).2.2
      subst e1
      refine ⟨((z, l), (A, m, c)), ?_, ?_, h2, h3, h4⟩
      · have h5 := hcell 0 (by omega)
        rw [add_none] at h5
        exact h5
      · have h5 := hcell 1 (by omega)
        have e5 : (a'.add (r * 2)).add 1 = a'.add (r * 2 + 1) := by
          by_cases h0 : r * 2 = 0
          · rw [h0, add_none]
          · simp [Addr.add, h0, Nat.add_assoc]
        rw [e5] at h5
        exact h5
    obtain ⟨y, hy⟩ := choose_lt each
    refine ⟨(List.range len).map fun r => (y r).1, ⟨by simp, hl, hm, (fun h => by cases h), fun x hx => ?_, fun h0 => ?_⟩, fun x hx => ?_⟩
    · obtain ⟨r, hr1, rfl⟩ := List.mem_map.1 hx
      exact (hy r (List.mem_range.1 hr1)).2.2.1
    · have h1 := (hy 0 h0).1
      rw [Nat.zero_mul, add_none] at h1
      have hs := spot_of_cell h1
      refine ⟨a'.block, a'.off, by rw [← addr_lit hs], World.block_lt_of_cell? W a' h1, fun j hj => ?_⟩
      have hj' : j < len := by simpa using hj
      obtain ⟨k1, k2, _, k3, _⟩ := hy j hj'
      rw [addr_lit hs, Addr.add_lit] at k1 k2
      refine ⟨_, _, _, by simpa using k1, by simpa [Nat.add_assoc] using k2, by simpa using k3⟩
    · obtain ⟨r, hr1, rfl⟩ := List.mem_map.1 hx
      exact (hy r (List.mem_range.1 hr1)).2.2.2.2
end
end Go.Proofs.Ytjllfaeamjadcaa
