/- The document's Long and All of the fifth chapter.
   What four arrays in memory are, carried over calls; '==' of two arrays.
   '==' of two arrays, guarded; what the four last laws of the chapter share.
   What the last three laws of the chapter share.
   Rows of things cut in two, turned round, and read one by one: for the law of orders.
   The walk of AuditBegins. -/
import Derived.Test.YthpfiieaanioeaaG10
import Derived.Test.YthpfiieaanioeaaG15
import Derived.Test.YthpfiieaanioeaaG09
namespace Go.Proofs.Ythpfiieaanioeaa
open Go.RowKit

/-- how many bytes there are -/
def longN (its : List (Int × List UInt8)) : Nat := (its.map fun x => 1 + x.2.length).sum
theorem longN_next (its : List (Int × List UInt8)) (k : Nat) (h : k < its.length) : longN (its.take (k + 1)) = longN (its.take k) + 1 + its[k].2.length := by
  unfold longN
  rw [List.take_succ_eq_append_getElem h, List.map_append, List.sum_append]
  simp; omega
theorem longN_mem (its : List (Int × List UInt8)) : ∀ x ∈ its, x.2.length < longN its := by
  induction its with
  | nil => intro x h; cases h
  | cons y ys ih =>
    intro x h
    have e : longN (y :: ys) = 1 + y.2.length + longN ys := by simp [longN]
    rw [e]
    rcases List.mem_cons.1 h with rfl | h
    · omega
    · have := ih x h; omega
theorem longN_le (its : List (Int × List UInt8)) (M : Nat) (h : ∀ x ∈ its, x.2.length ≤ M) (k : Nat) (hk : k ≤ its.length) : longN (its.take k) ≤ k * (M + 1) := by
  induction k with
  | zero => simp [longN]
  | succ k ih =>
    rw [longN_next its k (by omega)]
    have := h _ (List.getElem_mem (show k < its.length by omega))
    have := ih (by omega)
    rw [Nat.succ_mul]; omega
theorem sumD_next (pre : List D32) (x : D32) : addL (sumD pre) x.1 = sumD (pre ++ [x]) := by
  unfold sumD addL
  refine getN_inj (by rw [putN_length, putN_length]) ?_
  rw [getN_putN, getN_putN, getN_putN, sumN_snoc, Nat.mod_add_mod]
theorem sumD_nil : sumD [] = z32 := by decide +kernel
set_option maxHeartbeats 1000000 in
theorem reflong_any (A : Option Addr) (m c : Nat) (its : List (Int × List UInt8)) (w : World) (B : Nat) (hI : Its w B A m c its) (hm : m ≤ 20) (hb : ∀ x ∈ its, x.2.length ≤ 140737488351232) :
    Calls Try.prog 7 #[.slice A m c] w fun e w' => e = .returned (.int .i64 ((longN its : Nat) : Int)) ∧ w' = w := by
  have HL : Kp _ := ⟨hI.len⟩
  have HB : Kp _ := ⟨hb⟩
  have HI : Kp _ := ⟨hI⟩
  have hm63 := hI.le
  clear hI hb
  go_enter Try.func7, Try.ntmps7
  go_wp2
  go_loop [3, 4] (fun s i => ∃ k : Nat, k ≤ m ∧ i = .int .i64 k ∧ s = .int .i64 ((longN (its.take k) : Nat) : Int)) (fun _ i => m - (intOf i).toNat)
  case atStart => exact ⟨0, Nat.zero_le _, rfl, rfl⟩
  case round =>
    obtain ⟨k, hk, rfl, rfl⟩ := hrel
    by_cases hlt : k < m
    · obtain ⟨b, o, A', n', c', rfl, _, hc1, hc2, hbs⟩ := HI.out.at hlt
      have hki : k < its.length := by rw [HL.out]; exact hlt
      have HNx : Kp _ := ⟨longN_next its k hki⟩
      have h1 := longN_le its 140737488351232 HB.out k (by omega)
      have h2 := HB.out _ (List.getElem_mem hki)
      have h3 : (its[k]'hki).2.length = n' := hbs.len
      rw [h3] at h2 HNx
      have h4 : longN (its.take k) ≤ 2814749767024640 := Nat.le_trans h1 (by omega)
      have hn63 := hbs.le
      generalize longN (its.take k) = s at *
      clear h1 h3 hbs
      go_wp2
      go_round
      case rel => exact ⟨k + 1, by omega, by go_num, by rw [HNx.out]; go_num⟩
      case measure => simp [intOf]; omega
    · obtain rfl : k = m := by omega
      have HE : Kp (its.take k = its) := ⟨List.take_of_length_le (by rw [HL.out]; exact Nat.le_refl _)⟩
      rw [HE.out]
      go_wp2
      go_ret
      exact ⟨rfl, rfl⟩
set_option maxRecDepth 100000 in
set_option maxHeartbeats 4000000 in
theorem refall_any (K : Option Addr) (kn kc : Nat) (key : List UInt8) (A : Option Addr) (m c : Nat) (its : List (Int × List UInt8)) (w : World) (hK : Bs w w.heap.size K kn kc key) (hI : Its w w.heap.size A m c its)
    (hkn : kn ≤ 524288) (hb : ∀ x ∈ its, x.2.length ≤ 523000) :
    Calls Try.prog 38 #[.slice K kn kc, .slice A m c] w fun e w' => e = .returned (.agg (cells8 (allL key its)).toArray) ∧ Below w.heap.size w w' := by
  have HK : Kp _ := ⟨hK⟩
  have HI : Kp _ := ⟨hI⟩
  have HB : Kp _ := ⟨hb⟩
  have HL : Kp _ := ⟨hI.len⟩
  have hm63 := hI.le
  obtain ⟨L, hL⟩ : ∃ L, L = allL key its := ⟨_, rfl⟩
  have HLL : Kp (sumD ((comeL key its).take m) = L) := ⟨by rw [hL, List.take_of_length_le (by rw [comeL_length, HL.out]; exact Nat.le_refl _)]; rfl⟩
  have HLr : Kp ((cells8 L).length = 32) := ⟨by rw [hL, cells8_length, allL_length]⟩
  rw [← hL]
  have HB0 : Kp ((Try.prog).built 43 [] = some (cells8 (sumD ((comeL key its).take 0))).toArray) := ⟨by rw [List.take_zero, sumD_nil]; exact dig_built0⟩
  have HLZ : Kp ((cells8 (sumD ((comeL key its).take 0))).length = 32) := ⟨by rw [cells8_length, sumD_length]⟩
  have HZz : Kp (zero32.length = 32) := ⟨rfl⟩
  clear hL hK hI hb
  go_enter Try.func38, Try.ntmps38
  go_wp2_with (with_reducible refine wpList_alloc (o := ⟨some 4, _, _, _, _, _⟩) tyDig rfl rfl ?_)
  intro w1 hk1 hb1 hs1
  have HR1 : Kp _ := ⟨hk1⟩
  clear hk1 hs1
  obtain ⟨Z, hZ⟩ : ∃ Z, Z = sumD ((comeL key its).take 0) := ⟨_, rfl⟩
  have HZ : Kp _ := ⟨hZ⟩
  rw [← hZ] at HB0 HLZ
  clear hZ
  go_wp2_with (first
    | (refine wpList_build0 (o := ⟨some 7, _, _, _, _, _⟩) rfl rfl HB0.out ?_)
    | (with_reducible refine wpList_alloc (o := ⟨some 5, _, _, _, _, _⟩) tyDig rfl rfl ?_))
  intro w2 hk2 hb2 hs2
  have HO2 : Kp _ := ⟨hk2⟩
  have HR2 : Kp _ := ⟨HR1.out.below hb2 HR1.out.lt⟩
  have hB2 := hb1.trans (hb2.mono hb1.size)
  have n1 : w.heap.size < w1.heap.size := HR1.out.lt
  obtain ⟨go, hgo⟩ : ∃ g, g = w1.heap.size := ⟨_, rfl⟩
  rw [← hgo] at HO2 n1 ⊢
  clear hk2 hs2 hb1 hb2 HR1 hgo
  go_wp2_with (refine wpList_storeAll (o := ⟨none, _, _, _, _, _⟩) (vs := cells8 Z) rwDig rfl (.tmp 5) (.tmp 7) rfl rfl HO2.out HZz.out HLZ.out (cells8_one _) rfl ?_)
  intro w3 hk3 ho3
  have HO3 : Kp (Blk w3 go 43 (cells8 (sumD ((comeL key its).take 0)))) := ⟨by rw [← HZ.out]; exact hk3⟩
  have HR3 : Kp _ := ⟨HR2.out.only ho3 (by omega)⟩
  have hB3 := hB2.trans (ho3.below (by omega))
  clear hk3 ho3 HO2 HR2 hB2
  go_wp2
  go_loopg [6] m (fun gk vi wr => ∃ k : Nat, k + gk = m ∧ vi = .int .i64 k ∧ Kp (Blk wr go 43 (cells8 (sumD ((comeL key its).take k)))) ∧ Kp (Blk wr w.heap.size 43 zero32) ∧ Below w.heap.size w wr)
  case atStart => exact ⟨0, by omega, rfl, HO3, HR3, hB3⟩
  case round =>
    clear HO3 HR3 hB3
    obtain ⟨k, hk, rfl, HO, HR, hB⟩ := hrel
    cases gk with
    | zero =>
      obtain rfl : k = m := by omega
      have HD : Kp (Blk wr go 43 (cells8 L)) := ⟨by rw [← HLL.out]; exact HO.out⟩
      clear HO
      go_wp2_with (first
        | (with_reducible refine wpList_loadAll (o := ⟨some 28, _, _, _, _, _⟩) rwDig rfl (.tmp 5) rfl rfl HD.out HLr.out ?_)
        | (with_reducible refine wpList_storeAll (o := ⟨none, _, _, _, _, _⟩) (vs := cells8 L) rwDig rfl (.tmp 4) (.tmp 28) rfl rfl HR.out HZz.out HLr.out (cells8_one _) rfl ?_))
      intro w7 hk7 ho7
      have HK7 : Kp _ := ⟨hk7⟩
      clear hk7
      go_wp2
      exact ret_arr rfl rwDig rfl HK7.out HLr.out rfl ⟨rfl, hB.trans (ho7.below (Nat.le_refl _))⟩
    | succ g2 =>
      have hlt : k < m := by omega
      have hki : k < its.length := by rw [HL.out]; exact hlt
      obtain ⟨b, o, A', n', c', rfl, hbl, hc1, hc2, hbs⟩ := (HI.out.below hB).at hlt
      obtain ⟨z, hz⟩ : ∃ z, z = (its[k]'hki).1 := ⟨_, rfl⟩
      obtain ⟨bb, hbb⟩ : ∃ z, z = (its[k]'hki).2 := ⟨_, rfl⟩
      have hn5 : n' ≤ 523000 := by
        have h := HB.out _ (List.getElem_mem hki)
        rw [hbs.len] at h
        exact h
      rw [← hz] at hc1
      rw [← hbb] at hbs
      obtain ⟨O, hO⟩ : ∃ O, O = sumD ((comeL key its).take k) := ⟨_, rfl⟩
      obtain ⟨X, hX⟩ : ∃ X, X = ofL key z bb := ⟨_, rfl⟩
      have HOl : Kp (O.length = 32) := ⟨by rw [hO, sumD_length]⟩
      have HXl : Kp (X.length = 32) := ⟨by rw [hX, ofL_length]⟩
      obtain ⟨N, hN⟩ : ∃ N, N = addL O X := ⟨_, rfl⟩
      have HN : Kp (sumD ((comeL key its).take (k + 1)) = N) := ⟨by
        rw [comeL_next key its k hki, ← sumD_next, hN, hO]
        congr 1
        rw [hX, hz, hbb]⟩
      have HLO : Kp ((cells8 O).length = 32) := ⟨by rw [cells8_length]; exact HOl.out⟩
      have HLN : Kp ((cells8 N).length = 32) := ⟨by rw [cells8_length, hN, addL_length]⟩
      have HBs : Kp _ := ⟨hbs⟩
      have HKr : Kp _ := ⟨HK.out.below hB⟩
      have hwr := hB.size
      have C1 : Kp (∀ W, Below wr.heap.size wr W → Calls Try.prog 49 #[.slice K kn kc, .int .i64 z, .slice A' n' c'] W fun e w' => e = .returned (.agg (cells8 X).toArray) ∧ Below W.heap.size W w') := ⟨fun W hW => by
        have h := refof_any K kn kc key z A' n' c' bb W ((HKr.out.below (hW.mono hwr)).more (Nat.le_trans hwr hW.size)) ((HBs.out.below (hW.mono hwr)).more (Nat.le_trans hwr hW.size)) hkn hn5
        rw [← hX] at h; exact h⟩
      have C2 : Kp (∀ W, Calls Try.prog 48 #[.agg (cells8 O).toArray, .agg (cells8 X).toArray] W fun e w' => e = .returned (.agg (cells8 N).toArray) ∧ Below W.heap.size W w') := ⟨fun W => by
        have h := refadd_any O X W HOl.out HXl.out
        rw [← hN] at h; exact h⟩
      have HOb : Kp (Blk wr go 43 (cells8 O)) := ⟨by rw [hO]; exact HO.out⟩
      have hgl : go < wr.heap.size := HO.out.lt
      have hbw : b < wr.heap.size := Nat.lt_of_lt_of_le hbl hwr
      clear hz hbb hO hX hN hbs HO
      obtain ⟨wa, rfl⟩ : ∃ x, x = wr := ⟨wr, rfl⟩
      go_wp2_with fail
      have hBW : Below wa.heap.size wa wa := Below.refl _ _
      refine wp_region_any (by kernel_rfl) ?_
      change wpAny _ _ _ _ _ _ _ wa.drew
      replace HOb : Kp _ := ⟨HOb.out.drew⟩
      replace HR : Kp _ := ⟨HR.out.drew⟩
      replace hBW := hBW.drew
      generalize wa.drew = wS at *
      refine wpAny_take (i := 1) (oi := ⟨some 15, _, _, _, _, _⟩) (v := ?_) rfl (by kernel_rfl) (by kernel_rfl) (by kernel_rfl) (fun _ _ _ h => h) (Or.inl ⟨by rfl, by intro w; go_simp; try rfl⟩) ?_
      try simp only [Act.put, List.setIfInBounds_toArray, List.set_cons_zero, List.set_cons_succ]
      refine wpAny_take (i := 2) (oi := ⟨some 16, _, _, _, _, _⟩) (v := ?_) rfl (by kernel_rfl) (by kernel_rfl) (by kernel_rfl) (fun _ _ _ h => h) (Or.inl ⟨by rfl, by intro w; go_simp; try rfl⟩) ?_
      try simp only [Act.put, List.setIfInBounds_toArray, List.set_cons_zero, List.set_cons_succ]
      refine wpAny_take (i := 3) (oi := ⟨some 17, _, _, _, _, _⟩) (v := ?_) rfl (by kernel_rfl) (by kernel_rfl) (by kernel_rfl) (fun _ _ _ h => h) (Or.inl ⟨by rfl, by intro w; go_simp; try rfl⟩) ?_
      try simp only [Act.put, List.setIfInBounds_toArray, List.set_cons_zero, List.set_cons_succ]
      refine wpAny_take (i := 4) (oi := ⟨some 18, _, _, _, _, _⟩) (v := ?_) rfl (by kernel_rfl) (by kernel_rfl) (by kernel_rfl) (fun _ _ _ h => h) (Or.inl ⟨by rfl, by intro w; go_simp; try rfl⟩) ?_
      try simp only [Act.put, List.setIfInBounds_toArray, List.set_cons_zero, List.set_cons_succ]
      refine wpAny_take (i := 5) (oi := ⟨some 19, _, _, _, _, _⟩) (v := ?_) rfl (by kernel_rfl) (by kernel_rfl) (by kernel_rfl) (fun _ _ _ h => h) (Or.inl ⟨by rfl, by intro w; go_simp; try rfl⟩) ?_
      try simp only [Act.put, List.setIfInBounds_toArray, List.set_cons_zero, List.set_cons_succ]
      refine wpAny_take (i := 7) (oi := ⟨some 21, _, _, _, _, _⟩) (v := ?_) rfl (by kernel_rfl) (by kernel_rfl) (by kernel_rfl) (fun _ _ _ h => h) (Or.inl ⟨by rfl, by intro w; go_simp; try rfl⟩) ?_
      try simp only [Act.put, List.setIfInBounds_toArray, List.set_cons_zero, List.set_cons_succ]
      refine wpAny_take (i := 8) (oi := ⟨some 22, _, _, _, _, _⟩) (v := ?_) rfl (by kernel_rfl) (by kernel_rfl) (by kernel_rfl) (fun _ _ _ h => h) (Or.inl ⟨by rfl, by intro w; go_simp; try rfl⟩) ?_
      try simp only [Act.put, List.setIfInBounds_toArray, List.set_cons_zero, List.set_cons_succ]
      refine wpAny_take (i := 9) (oi := ⟨some 23, _, _, _, _, _⟩) (v := ?_) rfl (by kernel_rfl) (by kernel_rfl) (by kernel_rfl) (fun _ _ _ h => h) (Or.inl ⟨by rfl, by intro w; go_simp; try rfl⟩) ?_
      try simp only [Act.put, List.setIfInBounds_toArray, List.set_cons_zero, List.set_cons_succ]
      refine wpAny_take (i := 10) (oi := ⟨some 24, _, _, _, _, _⟩) (v := ?_) rfl (by kernel_rfl) (by kernel_rfl) (by kernel_rfl) (fun _ _ _ h => h) (Or.inl ⟨by rfl, by intro w; go_simp; try rfl⟩) ?_
      try simp only [Act.put, List.setIfInBounds_toArray, List.set_cons_zero, List.set_cons_succ]
      refine wpAny_ready (rs := [0, 6, 11]) (by kernel_rfl) (by simp) ?_
      refine AllReady.cons (o := ⟨some 14, _, _, _, _, _⟩) rfl (fun K hK => ?_) (AllReady.cons (o := ⟨some 20, _, _, _, _, _⟩) rfl (fun K hK => ?_) (AllReady.cons (o := ⟨some 25, _, _, _, _, _⟩) rfl (fun K hK => ?_) AllReady.nil))
      · refine step_load rwDig rfl (.tmp 5) rfl rfl HOb.out (fit_all32 HLO.out) (take_all32 HLO.out) ?_
        refine hK _ _ ?_
        clear hK K
        try simp only [Act.put, List.setIfInBounds_toArray, List.set_cons_zero, List.set_cons_succ]
        refine wpAny_ready (rs := [6, 11]) (by kernel_rfl) (by simp) ?_
        refine AllReady.cons (o := ⟨some 20, _, _, _, _, _⟩) rfl (fun K hK => ?_) (AllReady.cons (o := ⟨some 25, _, _, _, _, _⟩) rfl (fun K hK => ?_) AllReady.nil)
        · have hq := (hBW.cell (p := ⟨b, o + k * 2, none⟩) hbw).trans hc1
          go_simp
          refine hK _ _ ?_
          clear hK K hq
          try simp only [Act.put, List.setIfInBounds_toArray, List.set_cons_zero, List.set_cons_succ]
          refine wpAny_ready (rs := [11]) (by kernel_rfl) (by simp) ?_
          refine AllReady.cons (o := ⟨some 25, _, _, _, _, _⟩) rfl (fun K hK => ?_) AllReady.nil
          have hq := (hBW.cell (p := ⟨b, o + k * 2 + 1, none⟩) hbw).trans hc2
          go_simp
          refine hK _ _ ?_
          clear hK K hq
          try simp only [Act.put, List.setIfInBounds_toArray, List.set_cons_zero, List.set_cons_succ]
          refine wpAny_ready (rs := [12]) (by kernel_rfl) (by simp) ?_
          refine AllReady.cons (o := ⟨some 26, _, _, _, _, _⟩) rfl (fun K hK => ?_) AllReady.nil
          go_simp
          refine (C1.out wS hBW).mono ?_
          rintro e w63 ⟨rfl, hb'⟩
          refine hK _ _ ?_
          clear hK K
          try simp only [Act.put, List.setIfInBounds_toArray, List.set_cons_zero, List.set_cons_succ]
          replace HOb : Kp _ := ⟨HOb.out.below hb' HOb.out.lt⟩
          replace HR : Kp _ := ⟨HR.out.below hb' HR.out.lt⟩
          replace hBW := hBW.trans (hb'.mono hBW.size)
          clear hb'
          refine wpAny_ready (rs := [13]) (by kernel_rfl) (by simp) ?_
          refine AllReady.cons (o := ⟨some 27, _, _, _, _, _⟩) rfl (fun K hK => ?_) AllReady.nil
          go_simp
          refine (C2.out w63).mono ?_
          rintro e w64 ⟨rfl, hb'⟩
          refine hK _ _ ?_
          clear hK K
          try simp only [Act.put, List.setIfInBounds_toArray, List.set_cons_zero, List.set_cons_succ]
          replace HOb : Kp _ := ⟨HOb.out.below hb' HOb.out.lt⟩
          replace HR : Kp _ := ⟨HR.out.below hb' HR.out.lt⟩
          replace hBW := hBW.trans (hb'.mono hBW.size)
          clear hb'
          refine wpAny_ready (rs := [14]) (by kernel_rfl) (by simp) ?_
          refine AllReady.cons (o := ⟨none, _, _, _, _, _⟩) rfl (fun K hK => ?_) AllReady.nil
          refine step_store rwDig rfl (.tmp 5) (.tmp 27) rfl rfl rfl HOb.out HLN.out (fit_all32 HLO.out) (cells8_one _) ?_
          intro w65 hk ho
          refine hK _ _ ?_
          clear hK K
          try simp only [Act.put]
          rw [store_all32 (n := 32) HLO.out] at hk
          have HO9 : Kp _ := ⟨hk⟩
          have HR9 : Kp (Blk w65 w.heap.size 43 zero32) := ⟨HR.out.only ho (by omega)⟩
          have hB9 : Below w.heap.size w w65 := (hB.trans (hBW.mono hwr)).trans (ho.below (by omega))
          clear hk ho
          refine wpAny_done (by kernel_rfl) ?_ _
          go_wp2
          go_roundg g2
          case rel => exact ⟨k + 1, by omega, by go_num, ⟨by rw [HN.out]; exact HO9.out⟩, HR9, hB9⟩
          case measure => omega
        · have hq := (hBW.cell (p := ⟨b, o + k * 2 + 1, none⟩) hbw).trans hc2
          go_simp
          refine hK _ _ ?_
          clear hK K hq
          try simp only [Act.put, List.setIfInBounds_toArray, List.set_cons_zero, List.set_cons_succ]
          refine wpAny_ready (rs := [6]) (by kernel_rfl) (by simp) ?_
          refine AllReady.cons (o := ⟨some 20, _, _, _, _, _⟩) rfl (fun K hK => ?_) AllReady.nil
          have hq := (hBW.cell (p := ⟨b, o + k * 2, none⟩) hbw).trans hc1
          go_simp
          refine hK _ _ ?_
          clear hK K hq
          try simp only [Act.put, List.setIfInBounds_toArray, List.set_cons_zero, List.set_cons_succ]
          refine wpAny_ready (rs := [12]) (by kernel_rfl) (by simp) ?_
          refine AllReady.cons (o := ⟨some 26, _, _, _, _, _⟩) rfl (fun K hK => ?_) AllReady.nil
          go_simp
          refine (C1.out wS hBW).mono ?_
          rintro e w68 ⟨rfl, hb'⟩
          refine hK _ _ ?_
          clear hK K
          try simp only [Act.put, List.setIfInBounds_toArray, List.set_cons_zero, List.set_cons_succ]
          replace HOb : Kp _ := ⟨HOb.out.below hb' HOb.out.lt⟩
          replace HR : Kp _ := ⟨HR.out.below hb' HR.out.lt⟩
          replace hBW := hBW.trans (hb'.mono hBW.size)
          clear hb'
          refine wpAny_ready (rs := [13]) (by kernel_rfl) (by simp) ?_
          refine AllReady.cons (o := ⟨some 27, _, _, _, _, _⟩) rfl (fun K hK => ?_) AllReady.nil
          go_simp
          refine (C2.out w68).mono ?_
          rintro e w69 ⟨rfl, hb'⟩
          refine hK _ _ ?_
          clear hK K
          try simp only [Act.put, List.setIfInBounds_toArray, List.set_cons_zero, List.set_cons_succ]
          replace HOb : Kp _ := ⟨HOb.out.below hb' HOb.out.lt⟩
          replace HR : Kp _ := ⟨HR.out.below hb' HR.out.lt⟩
          replace hBW := hBW.trans (hb'.mono hBW.size)
          clear hb'
          refine wpAny_ready (rs := [14]) (by kernel_rfl) (by simp) ?_
          refine AllReady.cons (o := ⟨none, _, _, _, _, _⟩) rfl (fun K hK => ?_) AllReady.nil
          refine step_store rwDig rfl (.tmp 5) (.tmp 27) rfl rfl rfl HOb.out HLN.out (fit_all32 HLO.out) (cells8_one _) ?_
          intro w70 hk ho
          refine hK _ _ ?_
          clear hK K
          try simp only [Act.put]
          rw [store_all32 (n := 32) HLO.out] at hk
          have HO9 : Kp _ := ⟨hk⟩
          have HR9 : Kp (Blk w70 w.heap.size 43 zero32) := ⟨HR.out.only ho (by omega)⟩
          have hB9 : Below w.heap.size w w70 := (hB.trans (hBW.mono hwr)).trans (ho.below (by omega))
          clear hk ho
          refine wpAny_done (by kernel_rfl) ?_ _
          go_wp2
          go_roundg g2
          case rel => exact ⟨k + 1, by omega, by go_num, ⟨by rw [HN.out]; exact HO9.out⟩, HR9, hB9⟩
          case measure => omega
      · have hq := (hBW.cell (p := ⟨b, o + k * 2, none⟩) hbw).trans hc1
        go_simp
        refine hK _ _ ?_
        clear hK K hq
        try simp only [Act.put, List.setIfInBounds_toArray, List.set_cons_zero, List.set_cons_succ]
        refine wpAny_ready (rs := [0, 11]) (by kernel_rfl) (by simp) ?_
        refine AllReady.cons (o := ⟨some 14, _, _, _, _, _⟩) rfl (fun K hK => ?_) (AllReady.cons (o := ⟨some 25, _, _, _, _, _⟩) rfl (fun K hK => ?_) AllReady.nil)
        · refine step_load rwDig rfl (.tmp 5) rfl rfl HOb.out (fit_all32 HLO.out) (take_all32 HLO.out) ?_
          refine hK _ _ ?_
          clear hK K
          try simp only [Act.put, List.setIfInBounds_toArray, List.set_cons_zero, List.set_cons_succ]
          refine wpAny_ready (rs := [11]) (by kernel_rfl) (by simp) ?_
          refine AllReady.cons (o := ⟨some 25, _, _, _, _, _⟩) rfl (fun K hK => ?_) AllReady.nil
          have hq := (hBW.cell (p := ⟨b, o + k * 2 + 1, none⟩) hbw).trans hc2
          go_simp
          refine hK _ _ ?_
          clear hK K hq
          try simp only [Act.put, List.setIfInBounds_toArray, List.set_cons_zero, List.set_cons_succ]
          refine wpAny_ready (rs := [12]) (by kernel_rfl) (by simp) ?_
          refine AllReady.cons (o := ⟨some 26, _, _, _, _, _⟩) rfl (fun K hK => ?_) AllReady.nil
          go_simp
          refine (C1.out wS hBW).mono ?_
          rintro e w73 ⟨rfl, hb'⟩
          refine hK _ _ ?_
          clear hK K
          try simp only [Act.put, List.setIfInBounds_toArray, List.set_cons_zero, List.set_cons_succ]
          replace HOb : Kp _ := ⟨HOb.out.below hb' HOb.out.lt⟩
          replace HR : Kp _ := ⟨HR.out.below hb' HR.out.lt⟩
          replace hBW := hBW.trans (hb'.mono hBW.size)
          clear hb'
          refine wpAny_ready (rs := [13]) (by kernel_rfl) (by simp) ?_
          refine AllReady.cons (o := ⟨some 27, _, _, _, _, _⟩) rfl (fun K hK => ?_) AllReady.nil
          go_simp
          refine (C2.out w73).mono ?_
          rintro e w74 ⟨rfl, hb'⟩
          refine hK _ _ ?_
          clear hK K
          try simp only [Act.put, List.setIfInBounds_toArray, List.set_cons_zero, List.set_cons_succ]
          replace HOb : Kp _ := ⟨HOb.out.below hb' HOb.out.lt⟩
          replace HR : Kp _ := ⟨HR.out.below hb' HR.out.lt⟩
          replace hBW := hBW.trans (hb'.mono hBW.size)
          clear hb'
          refine wpAny_ready (rs := [14]) (by kernel_rfl) (by simp) ?_
          refine AllReady.cons (o := ⟨none, _, _, _, _, _⟩) rfl (fun K hK => ?_) AllReady.nil
          refine step_store rwDig rfl (.tmp 5) (.tmp 27) rfl rfl rfl HOb.out HLN.out (fit_all32 HLO.out) (cells8_one _) ?_
          intro w75 hk ho
          refine hK _ _ ?_
          clear hK K
          try simp only [Act.put]
          rw [store_all32 (n := 32) HLO.out] at hk
          have HO9 : Kp _ := ⟨hk⟩
          have HR9 : Kp (Blk w75 w.heap.size 43 zero32) := ⟨HR.out.only ho (by omega)⟩
          have hB9 : Below w.heap.size w w75 := (hB.trans (hBW.mono hwr)).trans (ho.below (by omega))
          clear hk ho
          refine wpAny_done (by kernel_rfl) ?_ _
          go_wp2
          go_roundg g2
          case rel => exact ⟨k + 1, by omega, by go_num, ⟨by rw [HN.out]; exact HO9.out⟩, HR9, hB9⟩
          case measure => omega
        · have hq := (hBW.cell (p := ⟨b, o + k * 2 + 1, none⟩) hbw).trans hc2
          go_simp
          refine hK _ _ ?_
          clear hK K hq
          try simp only [Act.put, List.setIfInBounds_toArray, List.set_cons_zero, List.set_cons_succ]
          refine wpAny_ready (rs := [0, 12]) (by kernel_rfl) (by simp) ?_
          refine AllReady.cons (o := ⟨some 14, _, _, _, _, _⟩) rfl (fun K hK => ?_) (AllReady.cons (o := ⟨some 26, _, _, _, _, _⟩) rfl (fun K hK => ?_) AllReady.nil)
          · refine step_load rwDig rfl (.tmp 5) rfl rfl HOb.out (fit_all32 HLO.out) (take_all32 HLO.out) ?_
            refine hK _ _ ?_
            clear hK K
            try simp only [Act.put, List.setIfInBounds_toArray, List.set_cons_zero, List.set_cons_succ]
            refine wpAny_ready (rs := [12]) (by kernel_rfl) (by simp) ?_
            refine AllReady.cons (o := ⟨some 26, _, _, _, _, _⟩) rfl (fun K hK => ?_) AllReady.nil
            go_simp
            refine (C1.out wS hBW).mono ?_
            rintro e w77 ⟨rfl, hb'⟩
            refine hK _ _ ?_
            clear hK K
            try simp only [Act.put, List.setIfInBounds_toArray, List.set_cons_zero, List.set_cons_succ]
            replace HOb : Kp _ := ⟨HOb.out.below hb' HOb.out.lt⟩
            replace HR : Kp _ := ⟨HR.out.below hb' HR.out.lt⟩
            replace hBW := hBW.trans (hb'.mono hBW.size)
            clear hb'
            refine wpAny_ready (rs := [13]) (by kernel_rfl) (by simp) ?_
            refine AllReady.cons (o := ⟨some 27, _, _, _, _, _⟩) rfl (fun K hK => ?_) AllReady.nil
            go_simp
            refine (C2.out w77).mono ?_
            rintro e w78 ⟨rfl, hb'⟩
            refine hK _ _ ?_
            clear hK K
            try simp only [Act.put, List.setIfInBounds_toArray, List.set_cons_zero, List.set_cons_succ]
            replace HOb : Kp _ := ⟨HOb.out.below hb' HOb.out.lt⟩
            replace HR : Kp _ := ⟨HR.out.below hb' HR.out.lt⟩
            replace hBW := hBW.trans (hb'.mono hBW.size)
            clear hb'
            refine wpAny_ready (rs := [14]) (by kernel_rfl) (by simp) ?_
            refine AllReady.cons (o := ⟨none, _, _, _, _, _⟩) rfl (fun K hK => ?_) AllReady.nil
            refine step_store rwDig rfl (.tmp 5) (.tmp 27) rfl rfl rfl HOb.out HLN.out (fit_all32 HLO.out) (cells8_one _) ?_
            intro w79 hk ho
            refine hK _ _ ?_
            clear hK K
            try simp only [Act.put]
            rw [store_all32 (n := 32) HLO.out] at hk
            have HO9 : Kp _ := ⟨hk⟩
            have HR9 : Kp (Blk w79 w.heap.size 43 zero32) := ⟨HR.out.only ho (by omega)⟩
            have hB9 : Below w.heap.size w w79 := (hB.trans (hBW.mono hwr)).trans (ho.below (by omega))
            clear hk ho
            refine wpAny_done (by kernel_rfl) ?_ _
            go_wp2
            go_roundg g2
            case rel => exact ⟨k + 1, by omega, by go_num, ⟨by rw [HN.out]; exact HO9.out⟩, HR9, hB9⟩
            case measure => omega
          · go_simp
            refine (C1.out wS hBW).mono ?_
            rintro e w80 ⟨rfl, hb'⟩
            refine hK _ _ ?_
            clear hK K
            try simp only [Act.put, List.setIfInBounds_toArray, List.set_cons_zero, List.set_cons_succ]
            replace HOb : Kp _ := ⟨HOb.out.below hb' HOb.out.lt⟩
            replace HR : Kp _ := ⟨HR.out.below hb' HR.out.lt⟩
            replace hBW := hBW.trans (hb'.mono hBW.size)
            clear hb'
            refine wpAny_ready (rs := [0]) (by kernel_rfl) (by simp) ?_
            refine AllReady.cons (o := ⟨some 14, _, _, _, _, _⟩) rfl (fun K hK => ?_) AllReady.nil
            refine step_load rwDig rfl (.tmp 5) rfl rfl HOb.out (fit_all32 HLO.out) (take_all32 HLO.out) ?_
            refine hK _ _ ?_
            clear hK K
            try simp only [Act.put, List.setIfInBounds_toArray, List.set_cons_zero, List.set_cons_succ]
            refine wpAny_ready (rs := [13]) (by kernel_rfl) (by simp) ?_
            refine AllReady.cons (o := ⟨some 27, _, _, _, _, _⟩) rfl (fun K hK => ?_) AllReady.nil
            go_simp
            refine (C2.out w80).mono ?_
            rintro e w81 ⟨rfl, hb'⟩
            refine hK _ _ ?_
            clear hK K
            try simp only [Act.put, List.setIfInBounds_toArray, List.set_cons_zero, List.set_cons_succ]
            replace HOb : Kp _ := ⟨HOb.out.below hb' HOb.out.lt⟩
            replace HR : Kp _ := ⟨HR.out.below hb' HR.out.lt⟩
            replace hBW := hBW.trans (hb'.mono hBW.size)
            clear hb'
            refine wpAny_ready (rs := [14]) (by kernel_rfl) (by simp) ?_
            refine AllReady.cons (o := ⟨none, _, _, _, _, _⟩) rfl (fun K hK => ?_) AllReady.nil
            refine step_store rwDig rfl (.tmp 5) (.tmp 27) rfl rfl rfl HOb.out HLN.out (fit_all32 HLO.out) (cells8_one _) ?_
            intro w82 hk ho
            refine hK _ _ ?_
            clear hK K
            try simp only [Act.put]
            rw [store_all32 (n := 32) HLO.out] at hk
            have HO9 : Kp _ := ⟨hk⟩
            have HR9 : Kp (Blk w82 w.heap.size 43 zero32) := ⟨HR.out.only ho (by omega)⟩
            have hB9 : Below w.heap.size w w82 := (hB.trans (hBW.mono hwr)).trans (ho.below (by omega))
            clear hk ho
            refine wpAny_done (by kernel_rfl) ?_ _
            go_wp2
            go_roundg g2
            case rel => exact ⟨k + 1, by omega, by go_num, ⟨by rw [HN.out]; exact HO9.out⟩, HR9, hB9⟩
            case measure => omega
      · have hq := (hBW.cell (p := ⟨b, o + k * 2 + 1, none⟩) hbw).trans hc2
        go_simp
        refine hK _ _ ?_
        clear hK K hq
        try simp only [Act.put, List.setIfInBounds_toArray, List.set_cons_zero, List.set_cons_succ]
        refine wpAny_ready (rs := [0, 6]) (by kernel_rfl) (by simp) ?_
        refine AllReady.cons (o := ⟨some 14, _, _, _, _, _⟩) rfl (fun K hK => ?_) (AllReady.cons (o := ⟨some 20, _, _, _, _, _⟩) rfl (fun K hK => ?_) AllReady.nil)
        · refine step_load rwDig rfl (.tmp 5) rfl rfl HOb.out (fit_all32 HLO.out) (take_all32 HLO.out) ?_
          refine hK _ _ ?_
          clear hK K
          try simp only [Act.put, List.setIfInBounds_toArray, List.set_cons_zero, List.set_cons_succ]
          refine wpAny_ready (rs := [6]) (by kernel_rfl) (by simp) ?_
          refine AllReady.cons (o := ⟨some 20, _, _, _, _, _⟩) rfl (fun K hK => ?_) AllReady.nil
          have hq := (hBW.cell (p := ⟨b, o + k * 2, none⟩) hbw).trans hc1
          go_simp
          refine hK _ _ ?_
          clear hK K hq
          try simp only [Act.put, List.setIfInBounds_toArray, List.set_cons_zero, List.set_cons_succ]
          refine wpAny_ready (rs := [12]) (by kernel_rfl) (by simp) ?_
          refine AllReady.cons (o := ⟨some 26, _, _, _, _, _⟩) rfl (fun K hK => ?_) AllReady.nil
          go_simp
          refine (C1.out wS hBW).mono ?_
          rintro e w85 ⟨rfl, hb'⟩
          refine hK _ _ ?_
          clear hK K
          try simp only [Act.put, List.setIfInBounds_toArray, List.set_cons_zero, List.set_cons_succ]
          replace HOb : Kp _ := ⟨HOb.out.below hb' HOb.out.lt⟩
          replace HR : Kp _ := ⟨HR.out.below hb' HR.out.lt⟩
          replace hBW := hBW.trans (hb'.mono hBW.size)
          clear hb'
          refine wpAny_ready (rs := [13]) (by kernel_rfl) (by simp) ?_
          refine AllReady.cons (o := ⟨some 27, _, _, _, _, _⟩) rfl (fun K hK => ?_) AllReady.nil
          go_simp
          refine (C2.out w85).mono ?_
          rintro e w86 ⟨rfl, hb'⟩
          refine hK _ _ ?_
          clear hK K
          try simp only [Act.put, List.setIfInBounds_toArray, List.set_cons_zero, List.set_cons_succ]
          replace HOb : Kp _ := ⟨HOb.out.below hb' HOb.out.lt⟩
          replace HR : Kp _ := ⟨HR.out.below hb' HR.out.lt⟩
          replace hBW := hBW.trans (hb'.mono hBW.size)
          clear hb'
          refine wpAny_ready (rs := [14]) (by kernel_rfl) (by simp) ?_
          refine AllReady.cons (o := ⟨none, _, _, _, _, _⟩) rfl (fun K hK => ?_) AllReady.nil
          refine step_store rwDig rfl (.tmp 5) (.tmp 27) rfl rfl rfl HOb.out HLN.out (fit_all32 HLO.out) (cells8_one _) ?_
          intro w87 hk ho
          refine hK _ _ ?_
          clear hK K
          try simp only [Act.put]
          rw [store_all32 (n := 32) HLO.out] at hk
          have HO9 : Kp _ := ⟨hk⟩
          have HR9 : Kp (Blk w87 w.heap.size 43 zero32) := ⟨HR.out.only ho (by omega)⟩
          have hB9 : Below w.heap.size w w87 := (hB.trans (hBW.mono hwr)).trans (ho.below (by omega))
          clear hk ho
          refine wpAny_done (by kernel_rfl) ?_ _
          go_wp2
          go_roundg g2
          case rel => exact ⟨k + 1, by omega, by go_num, ⟨by rw [HN.out]; exact HO9.out⟩, HR9, hB9⟩
          case measure => omega
        · have hq := (hBW.cell (p := ⟨b, o + k * 2, none⟩) hbw).trans hc1
          go_simp
          refine hK _ _ ?_
          clear hK K hq
          try simp only [Act.put, List.setIfInBounds_toArray, List.set_cons_zero, List.set_cons_succ]
          refine wpAny_ready (rs := [0, 12]) (by kernel_rfl) (by simp) ?_
          refine AllReady.cons (o := ⟨some 14, _, _, _, _, _⟩) rfl (fun K hK => ?_) (AllReady.cons (o := ⟨some 26, _, _, _, _, _⟩) rfl (fun K hK => ?_) AllReady.nil)
          · refine step_load rwDig rfl (.tmp 5) rfl rfl HOb.out (fit_all32 HLO.out) (take_all32 HLO.out) ?_
            refine hK _ _ ?_
            clear hK K
            try simp only [Act.put, List.setIfInBounds_toArray, List.set_cons_zero, List.set_cons_succ]
            refine wpAny_ready (rs := [12]) (by kernel_rfl) (by simp) ?_
            refine AllReady.cons (o := ⟨some 26, _, _, _, _, _⟩) rfl (fun K hK => ?_) AllReady.nil
            go_simp
            refine (C1.out wS hBW).mono ?_
            rintro e w89 ⟨rfl, hb'⟩
            refine hK _ _ ?_
            clear hK K
            try simp only [Act.put, List.setIfInBounds_toArray, List.set_cons_zero, List.set_cons_succ]
            replace HOb : Kp _ := ⟨HOb.out.below hb' HOb.out.lt⟩
            replace HR : Kp _ := ⟨HR.out.below hb' HR.out.lt⟩
            replace hBW := hBW.trans (hb'.mono hBW.size)
            clear hb'
            refine wpAny_ready (rs := [13]) (by kernel_rfl) (by simp) ?_
            refine AllReady.cons (o := ⟨some 27, _, _, _, _, _⟩) rfl (fun K hK => ?_) AllReady.nil
            go_simp
            refine (C2.out w89).mono ?_
            rintro e w90 ⟨rfl, hb'⟩
            refine hK _ _ ?_
            clear hK K
            try simp only [Act.put, List.setIfInBounds_toArray, List.set_cons_zero, List.set_cons_succ]
            replace HOb : Kp _ := ⟨HOb.out.below hb' HOb.out.lt⟩
            replace HR : Kp _ := ⟨HR.out.below hb' HR.out.lt⟩
            replace hBW := hBW.trans (hb'.mono hBW.size)
            clear hb'
            refine wpAny_ready (rs := [14]) (by kernel_rfl) (by simp) ?_
            refine AllReady.cons (o := ⟨none, _, _, _, _, _⟩) rfl (fun K hK => ?_) AllReady.nil
            refine step_store rwDig rfl (.tmp 5) (.tmp 27) rfl rfl rfl HOb.out HLN.out (fit_all32 HLO.out) (cells8_one _) ?_
            intro w91 hk ho
            refine hK _ _ ?_
            clear hK K
            try simp only [Act.put]
            rw [store_all32 (n := 32) HLO.out] at hk
            have HO9 : Kp _ := ⟨hk⟩
            have HR9 : Kp (Blk w91 w.heap.size 43 zero32) := ⟨HR.out.only ho (by omega)⟩
            have hB9 : Below w.heap.size w w91 := (hB.trans (hBW.mono hwr)).trans (ho.below (by omega))
            clear hk ho
            refine wpAny_done (by kernel_rfl) ?_ _
            go_wp2
            go_roundg g2
            case rel => exact ⟨k + 1, by omega, by go_num, ⟨by rw [HN.out]; exact HO9.out⟩, HR9, hB9⟩
            case measure => omega
          · go_simp
            refine (C1.out wS hBW).mono ?_
            rintro e w92 ⟨rfl, hb'⟩
            refine hK _ _ ?_
            clear hK K
            try simp only [Act.put, List.setIfInBounds_toArray, List.set_cons_zero, List.set_cons_succ]
            replace HOb : Kp _ := ⟨HOb.out.below hb' HOb.out.lt⟩
            replace HR : Kp _ := ⟨HR.out.below hb' HR.out.lt⟩
            replace hBW := hBW.trans (hb'.mono hBW.size)
            clear hb'
            refine wpAny_ready (rs := [0]) (by kernel_rfl) (by simp) ?_
            refine AllReady.cons (o := ⟨some 14, _, _, _, _, _⟩) rfl (fun K hK => ?_) AllReady.nil
            refine step_load rwDig rfl (.tmp 5) rfl rfl HOb.out (fit_all32 HLO.out) (take_all32 HLO.out) ?_
            refine hK _ _ ?_
            clear hK K
            try simp only [Act.put, List.setIfInBounds_toArray, List.set_cons_zero, List.set_cons_succ]
            refine wpAny_ready (rs := [13]) (by kernel_rfl) (by simp) ?_
            refine AllReady.cons (o := ⟨some 27, _, _, _, _, _⟩) rfl (fun K hK => ?_) AllReady.nil
            go_simp
            refine (C2.out w92).mono ?_
            rintro e w93 ⟨rfl, hb'⟩
            refine hK _ _ ?_
            clear hK K
            try simp only [Act.put, List.setIfInBounds_toArray, List.set_cons_zero, List.set_cons_succ]
            replace HOb : Kp _ := ⟨HOb.out.below hb' HOb.out.lt⟩
            replace HR : Kp _ := ⟨HR.out.below hb' HR.out.lt⟩
            replace hBW := hBW.trans (hb'.mono hBW.size)
            clear hb'
            refine wpAny_ready (rs := [14]) (by kernel_rfl) (by simp) ?_
            refine AllReady.cons (o := ⟨none, _, _, _, _, _⟩) rfl (fun K hK => ?_) AllReady.nil
            refine step_store rwDig rfl (.tmp 5) (.tmp 27) rfl rfl rfl HOb.out HLN.out (fit_all32 HLO.out) (cells8_one _) ?_
            intro w94 hk ho
            refine hK _ _ ?_
            clear hK K
            try simp only [Act.put]
            rw [store_all32 (n := 32) HLO.out] at hk
            have HO9 : Kp _ := ⟨hk⟩
            have HR9 : Kp (Blk w94 w.heap.size 43 zero32) := ⟨HR.out.only ho (by omega)⟩
            have hB9 : Below w.heap.size w w94 := (hB.trans (hBW.mono hwr)).trans (ho.below (by omega))
            clear hk ho
            refine wpAny_done (by kernel_rfl) ?_ _
            go_wp2
            go_roundg g2
            case rel => exact ⟨k + 1, by omega, by go_num, ⟨by rw [HN.out]; exact HO9.out⟩, HR9, hB9⟩
            case measure => omega
end Go.Proofs.Ythpfiieaanioeaa

namespace Go.Proofs.Ythpfiieaanioeaa
open Go.RowKit

/-- four blocks as they are -/
structure Keep4 (w : World) (g0 g1 g2 g3 : Nat) (t : TypeId) (c0 c1 c2 c3 : List Value) (W : World) : Prop where
  a : Blk W g0 t c0
  b : Blk W g1 t c1
  c : Blk W g2 t c2
  d : Blk W g3 t c3
  below : Below w.heap.size w W
section
variable {w W W' : World} {g0 g1 g2 g3 : Nat} {t : TypeId} {c0 c1 c2 c3 : List Value}
theorem Keep4.next (h : Keep4 w g0 g1 g2 g3 t c0 c1 c2 c3 W) (hb : Below W.heap.size W W') : Keep4 w g0 g1 g2 g3 t c0 c1 c2 c3 W' := ⟨h.a.below hb h.a.lt, h.b.below hb h.b.lt, h.c.below hb h.c.lt, h.d.below hb h.d.lt, h.below.trans (hb.mono h.below.size)⟩
theorem Keep4.drew (h : Keep4 w g0 g1 g2 g3 t c0 c1 c2 c3 W) : Keep4 w g0 g1 g2 g3 t c0 c1 c2 c3 W.drew := ⟨h.a.drew, h.b.drew, h.c.drew, h.d.drew, h.below.drew⟩
end
section
variable {P : Program} {w : World} {ops : Array Oper} {rest : List Oper} {o : Oper} {a : Act} {Q : Exit → Act → World → Prop} {t e t' : TypeId} {n : Nat}
theorem wpList_eql (hg : o.guard = none) (E : EqB P t e n) (hG : P.eqGuardType P.depth t = false) (x y : Operand) (ho : o.op = .binOp .eql t x y t') (l m : List UInt8)
    (hx : a.eval x = .agg (cells8 l).toArray) (hy : a.eval y = .agg (cells8 m).toArray) (hl : l.length = n) (hm : m.length = n) {b : Bool} (hb : (l == m) = b) (h : wpList P ops Q rest (a.put o.dst (.bool b)) w) : wpList P ops Q (o :: rest) a w := by
  refine wpList_plain hg fun K hK => ?_
  unfold Oper.wp execOp
  simp only [ho, hx, hy, Sem.run_bind, run_eqGuard_agg (w := w) _ _ _ _ _ _ hG, Result.andThen_ok, run_eql_bytes E w l m hl hm, hb, Sem.run_pure]
  exact hK _ _ h
end
theorem beq_false {a b : List UInt8} (h : getN a ≠ getN b) : (a == b) = false := by
  cases hq : (a == b) with
  | false => rfl
  | true => exact absurd (by rw [beq_iff_eq.1 hq]) h
theorem lessL_true {a b : List UInt8} (h : getN a < getN b) : lessL a b = true := decide_eq_true h
theorem lessL_false {a b : List UInt8} (h : ¬ getN a < getN b) : lessL a b = false := decide_eq_false h
end Go.Proofs.Ythpfiieaanioeaa

namespace Go.Proofs.Ythpfiieaanioeaa
open Go.RowKit

section
variable {P : Program} {w : World} {ops : Array Oper} {rest : List Oper} {o : Oper} {a : Act} {Q : Exit → Act → World → Prop} {t e t' : TypeId} {n : Nat}
theorem wpList_eql_g (hg : Region.wanted o (yielded ops a.tmps) = true) (E : EqB P t e n) (hG : P.eqGuardType P.depth t = false) (x y : Operand) (ho : o.op = .binOp .eql t x y t') (l m : List UInt8)
    (hx : a.eval x = .agg (cells8 l).toArray) (hy : a.eval y = .agg (cells8 m).toArray) (hl : l.length = n) (hm : m.length = n) {b : Bool} (hb : (l == m) = b) (h : wpList P ops Q rest (a.put o.dst (.bool b)) w) : wpList P ops Q (o :: rest) a w := by
  refine wpList_step fun K hK => ?_
  rw [if_pos hg]
  unfold Oper.wp execOp
  simp only [ho, hx, hy, Sem.run_bind, run_eqGuard_agg (w := w) _ _ _ _ _ _ hG, Result.andThen_ok, run_eql_bytes E w l m hl hm, hb, Sem.run_pure]
  exact hK _ _ h
end
end Go.Proofs.Ythpfiieaanioeaa

namespace Go.Proofs.Ythpfiieaanioeaa
open Go.RowKit

theorem item_info : ∃ i, (Try.prog).info? 30 = some i ∧ i.zero = some (.agg #[.int .i64 0, .slice none 0 0]) ∧ i.size = 2 ∧ i.bytes = 32 := by
  have h : ((Try.prog).info? 30).map (fun i => (i.zero, i.size, i.bytes)) = some (some (.agg #[.int .i64 0, .slice none 0 0]), 2, 32) := by kernel_rfl
  cases hq : (Try.prog).info? 30 with
  | none => rw [hq] at h; cases h
  | some i =>
    rw [hq] at h
    simp only [Option.map_some, Option.some.injEq, Prod.mk.injEq] at h
    exact ⟨i, rfl, h.1, h.2.1, h.2.2⟩
theorem two_cells (w : World) (t : TypeId) (z : Int) (A : Option Addr) (n c : Nat) : ∀ ad, some (⟨w.heap.size, 0, none⟩ : Addr) = some ad → ∀ j u, (hdCells [(z, A, n, c)])[j]? = some u → (w.alloc (.cells #[.int .i64 z, .slice A n c] t)).cell? (ad.add j) = some u := by
  intro ad had j u hu
  obtain rfl := Option.some.inj had
  obtain ⟨i, hi, ⟨rfl, rfl⟩ | ⟨rfl, rfl⟩⟩ := hdCells_some hu
  · obtain rfl : i = 0 := by simp at hi; omega
    rw [Addr.add_lit, World.cell?_alloc_at _ _ _ _ rfl]; rfl
  · obtain rfl : i = 0 := by simp at hi; omega
    rw [Addr.add_lit, World.cell?_alloc_at _ _ _ _ rfl]; rfl
theorem comeL_append (key : List UInt8) (a b : List (Int × List UInt8)) : comeL key (a ++ b) = comeL key a ++ comeL key b := by simp [comeL]
theorem sumN_append (a b : List D32) : sumN (a ++ b) = sumN a + sumN b := by simp [sumN]
theorem put_add (a b : Nat) : putN (a + b) 32 = putN (getN (putN a 32) + getN (putN b 32)) 32 := by
  refine getN_inj (by rw [putN_length, putN_length]) ?_
  rw [getN_putN, getN_putN, getN_putN, getN_putN, Nat.mod_add_mod, Nat.add_mod_mod]
theorem sumD_append (a b : List D32) : sumD (a ++ b) = addL (sumD a) (sumD b) := by
  unfold sumD addL
  rw [sumN_append]
  exact put_add _ _
theorem allL_append (key : List UInt8) (a b : List (Int × List UInt8)) : allL key (a ++ b) = addL (allL key a) (allL key b) := by
  unfold allL
  rw [comeL_append]
  exact sumD_append _ _
theorem sumD_one (x : D32) : sumD [x] = x.1 := by
  have h1 : sumN [x] = getN x.1 := by simp [sumN]
  have h2 := putN_getN x.1
  rw [x.2] at h2
  unfold sumD
  rw [h1]
  exact h2
theorem allL_one (key : List UInt8) (z : Int) (b : List UInt8) : allL key [(z, b)] = ofL key z b := sumD_one ⟨ofL key z b, ofL_length _ _ _⟩
theorem allL_nil (key : List UInt8) : allL key [] = z32 := sumD_nil
end Go.Proofs.Ythpfiieaanioeaa

namespace Go.Proofs.Ythpfiieaanioeaa
open Go.RowKit

section
variable {w : World} {B : Nat} {A : Option Addr} {n c : Nat} {its : List (Int × List UInt8)}
theorem Its.upto (h : Its w B A n c its) {r : Nat} (hr : r ≤ n) : Its w B A r c (its.take r) := by
  have hl := h.len
  refine ⟨by rw [List.length_take]; omega, Nat.le_trans hr h.cap, h.max, h.nil, fun x hx => h.wf x (List.mem_of_mem_take hx), fun h0 => ?_⟩
  obtain ⟨b, o, hA, hb, hc⟩ := h.cells (by omega)
  refine ⟨b, o, hA, hb, fun j hj => ?_⟩
  simp only [List.getElem_take]
  exact hc j (by rw [List.length_take] at hj; omega)
theorem Its.from (h : Its w B A n c its) {r : Nat} (hr : r ≤ n) : Its w B (if c = r then A else A.map (·.add (r * 2))) (n - r) (c - r) (its.drop r) := by
  have hl := h.len
  have hcap := h.cap
  refine ⟨by rw [List.length_drop]; omega, by omega, by have := h.max; omega, fun hn => ?_, fun x hx => h.wf x (List.mem_of_mem_drop hx), fun h0 => ?_⟩
  · by_cases hc : c = r
    · omega
    · rw [if_neg hc] at hn
      have := h.nil (by simpa using hn)
      omega
  · obtain ⟨b, o, hA, hb, hc⟩ := h.cells (by omega)
    refine ⟨b, o + r * 2, ?_, hb, fun j hj => ?_⟩
    · rw [if_neg (by omega), hA]
      simp only [Option.map_some, Addr.add_lit]
    · obtain ⟨A', n', c', h1, h2, h3⟩ := hc (r + j) (by rw [List.length_drop] at hj; omega)
      simp only [List.getElem_drop]
      rw [show o + r * 2 + j * 2 = o + (r + j) * 2 by omega]
      exact ⟨A', n', c', h1, h2, h3⟩
theorem Leads.two_at (h : Its w B A n c its) {i : Nat} (hi : i < n) : ∃ b o A' n' c', A = some ⟨b, o, none⟩ ∧ b < B ∧ w.rangeAt b (o + i * 2) [.int .i64 (its[i]'(by have := h.len; omega)).1, .slice A' n' c'] ∧ Bs w B A' n' c' (its[i]'(by have := h.len; omega)).2 := by
  obtain ⟨b, o, A', n', c', hA, hb, h1, h2, h3⟩ := h.at hi
  refine ⟨b, o, A', n', c', hA, hb, fun j v hv => ?_, h3⟩
  match j, hv with
  | 0, hv => obtain rfl := Option.some.inj hv; exact h1
  | 1, hv => obtain rfl := Option.some.inj hv; exact h2
end
section
variable {P : Program} {w : World} {ops : Array Oper} {rest : List Oper} {o : Oper} {a : Act} {Q : Exit → Act → World → Prop}
theorem wpList_loadMid (hgd : o.guard = none) (ty : TypeId) (x : Operand) (ho : o.op = .load ty x) {b off : Nat} (hx : a.eval x = .pointer (some ⟨b, off, none⟩)) {cs : List Value} {d : TypeDesc} (hS : w.rangeAt b off cs)
    (hu : P.underlying ty = some d) (hd : d.isRow = true) (hi : (P.info? ty).map (·.size) = some cs.length) (h : wpList P ops Q rest (a.put o.dst (.agg cs.toArray)) w) : wpList P ops Q (o :: rest) a w := by
  refine wpList_plain hgd fun K hK => ?_
  unfold Oper.wp execOp
  simp only [ho, hx, Instr.loadAt, Instr.sureAddr, Sem.run_bind, Sem.run_pure, Result.andThen_ok, run_loadVar_mid w b off ty cs d hS hu hd hi]
  exact hK _ _ h
variable {S : World → Prop} {op : Oper} {t e : TypeId} {i : TypeInfo}
theorem elem_of (hty : P.underlying t = some (.slice e)) : P.elem t = e := by
  unfold Program.elem
  simp [hty]
theorem size_two (hi : P.info? e = some i) (hs : i.size = 2) (u : World) : (sizeOf e).run P u = .ok 2 u := by
  simp [Go.sizeOf, typeInfo, hi, hs]
/-- x[lo:] of things of two cells -/
theorem yieldsIf_cut2_l (hw : Region.wanted op (yielded ops a.tmps) = true) (hty : P.underlying t = some (.slice e)) (hi : P.info? e = some i) (hs : i.size = 2) (x lo : Operand) (ho : op.op = .slice t x (some lo) none none)
    {A : Option Addr} {n c : Nat} (hx : a.eval x = .slice A n c) {k : IntKind} {I : Int} (hlo : a.eval lo = .int k I) (r : Nat) (hI : I = r) (hr : r ≤ n) {A' : Option Addr} {n' c' : Nat} (hA' : (if c = r then A else A.map (·.add (r * 2))) = A') (hn' : n - r = n') (hc' : c - r = c') : YieldsIf P ops S op (.slice A' n' c') a := by
  subst hI hA' hn' hc'
  refine .inl ⟨hw, fun w _ => ?_⟩
  have ht' : P.underlying t = some (.slice (P.elem t)) := by rw [elem_of hty]; exact hty
  have hrun := run_slice_l (P := P) (w := w) t A n c ht' k (r : Int) (by omega) (by omega)
  rw [elem_of hty, size_two hi hs] at hrun
  unfold execOp
  simp [ho, hx, hlo, run_sliceAt_slice (P := P) (w := w) t _ _ _ _ ht', hrun, Result.andThen, sliced]
/-- x[:hi] of things of two cells -/
theorem yieldsIf_cut2_h (hw : Region.wanted op (yielded ops a.tmps) = true) (hty : P.underlying t = some (.slice e)) (hi : P.info? e = some i) (hs : i.size = 2) (x hh : Operand) (ho : op.op = .slice t x none (some hh) none)
    {A : Option Addr} {n c : Nat} (hx : a.eval x = .slice A n c) {k : IntKind} {I : Int} (hhi : a.eval hh = .int k I) (r : Nat) (hI : I = r) (hr : r ≤ c) : YieldsIf P ops S op (.slice A r c) a := by
  subst hI
  refine .inl ⟨hw, fun w _ => ?_⟩
  have ht' : P.underlying t = some (.slice (P.elem t)) := by rw [elem_of hty]; exact hty
  have hrun := run_slice_h (P := P) (w := w) t A n c ht' k (r : Int) (by omega) (by omega)
  rw [elem_of hty, size_two hi hs] at hrun
  unfold execOp
  simp [ho, hx, hhi, run_sliceAt_slice (P := P) (w := w) t _ _ _ _ ht', hrun, Result.andThen, sliced]
  try (cases A <;> simp [Addr.add])
end
theorem allL_back (key : List UInt8) : ∀ its : List (Int × List UInt8), allL key its.reverse = allL key its
  | [] => rfl
  | x :: l => by
    rw [List.reverse_cons, allL_append, allL_back key l, addL_comm, ← allL_append]
    rfl
theorem allL_cut (key : List UInt8) (its : List (Int × List UInt8)) (r : Nat) : addL (allL key (its.take r)) (allL key (its.drop r)) = allL key its := by
  rw [← allL_append, List.take_append_drop]
theorem allL_less (key : List UInt8) (its : List (Int × List UInt8)) (r : Nat) : subL (allL key its) (allL key (its.drop r)) = allL key (its.take r) :=
  sub_of_add (allL_length _ _) (allL_length _ _) (allL_cut key its r).symm
theorem drop_back {α : Type} (l : List α) (g : Nat) (h : g < l.length) : (l.drop g).reverse = (l.drop (g + 1)).reverse ++ [l[g]] := by
  rw [List.drop_eq_getElem_cons h, List.reverse_cons]
theorem rem_le (z p : Nat) : ∃ r : Nat, ((z : Nat) : Int).tmod ((p : Int) + 1) = (r : Nat) ∧ r ≤ p := by
  refine ⟨z % (p + 1), ?_, ?_⟩
  · rw [show ((p : Int) + 1) = ((p + 1 : Nat) : Int) by simp]
    exact (Int.ofNat_tmod z (p + 1)).symm
  · have := Nat.mod_lt z (show 0 < p + 1 by omega)
    omega
/-- 32 bytes in memory, and what was there ahead -/
structure Keep1 (wb : World) (g : Nat) (t : TypeId) (cs : List Value) (W : World) : Prop where
  d : Blk W g t cs
  below : Below wb.heap.size wb W
theorem Keep1.next {wb W W' : World} {g : Nat} {t : TypeId} {cs : List Value} (h : Keep1 wb g t cs W) (hb : Below W.heap.size W W') : Keep1 wb g t cs W' := ⟨h.d.below hb h.d.lt, h.below.trans (hb.mono h.below.size)⟩
theorem Keep1.drew {wb W : World} {g : Nat} {t : TypeId} {cs : List Value} (h : Keep1 wb g t cs W) : Keep1 wb g t cs W.drew := ⟨h.d.drew, h.below.drew⟩
end Go.Proofs.Ythpfiieaanioeaa

namespace Go.Proofs.Ythpfiieaanioeaa
open Go.RowKit

section
variable {P : Program} {w : World} {ops : Array Oper} {rest : List Oper} {o : Oper} {a : Act} {Q : Exit → Act → World → Prop} {t e : TypeId}
theorem size_4 {i : TypeInfo} (hi : P.info? e = some i) (hs : i.size = 4) (u : World) : (sizeOf e).run P u = .ok 4 u := by
  simp [sizeOf, typeInfo, hi, hs]
/-- x[:k] of what was traced, guarded -/
theorem wpList_cutQ_g {i : TypeInfo} (hg : Region.wanted o (yielded ops a.tmps) = true) (hty : P.underlying t = some (.slice e)) (hi : P.info? e = some i) (hs : i.size = 4) (x hh : Operand) (hop : o.op = Op.slice t x none (some hh) none)
    {B : Nat} {A : Option Addr} {n c : Nat} {ts : List Tq} (hx : a.eval x = .slice A n c) (hb : Trs w B A n c ts) (kk : IntKind) (I : Int) (k : Nat) (hhi : a.eval hh = .int kk I) (hI : I = k) (hk : k ≤ n)
    (h : ∀ A', Trs w B A' k c (ts.take k) → wpList P ops Q rest (a.put o.dst (.slice A' k c)) w) : wpList P ops Q (o :: rest) a w := by
  subst hI
  refine wpList_step fun K hK => ?_
  rw [if_pos hg]
  have ht' : P.underlying t = some (.slice (P.elem t)) := by rw [elem_of hty]; exact hty
  have hrun := run_slice_h (P := P) (w := w) t A n c ht' kk (k : Int) (by omega) (by have := hb.cap; omega)
  rw [elem_of hty, size_4 hi hs] at hrun
  have h2 := hb.cut hk
  unfold Oper.wp
  simp [execOp, hop, hx, hhi, run_sliceAt_slice (P := P) (w := w) t _ _ _ _ ht', hrun, Result.andThen, sliced]
  refine hK _ _ (h _ ?_)
  cases A with
  | none => simpa using h2
  | some ad => simpa [Addr.add] using h2
end
theorem infTq : ∃ i, (Try.prog).info? 46 = some i ∧ i.size = 4 := by
  obtain ⟨i, h1, _, h2, _⟩ := info_parts infTr4
  exact ⟨i, h1, h2⟩
set_option maxRecDepth 100000 in
set_option maxHeartbeats 4000000 in
theorem law_auditBegins (A : Option Addr) (n c : Nat) (ts : List Tq) (B : Option Addr) (m d : Nat) (us : List Tq) (W : World) (hI : Trs W W.heap.size A n c ts ∧ ∀ x ∈ ts, x.bs.length ≤ 140737488351232) (hK : Trs W W.heap.size B m d us ∧ ∀ x ∈ us, x.bs.length ≤ 140737488351232) (r0 : c * 48 ≤ 140737488351232) (r1 : d * 48 ≤ 140737488351232) :
    Calls Try.prog 6 #[.slice A n c, .slice B m d] W fun e w' => e = .returned (.bool true) ∧ Below W.heap.size W w' := by
  have HI : Kp _ := ⟨hI.1⟩
  have HIb : Kp _ := ⟨hI.2⟩
  have HK : Kp _ := ⟨hK.1⟩
  have HKb : Kp _ := ⟨hK.2⟩
  have hn : n ≤ 2932031007402 := by have := hI.1.cap; omega
  have hm : m ≤ 2932031007402 := by have := hK.1.cap; omega
  have HIl : Kp (ts.length = n) := ⟨hI.1.len⟩
  have HKl : Kp (us.length = m) := ⟨hK.1.len⟩
  clear hI hK r0 r1
  go_enter Try.func6, Try.ntmps6
  by_cases h60 : (60 : Int) < (n : Int) + (m : Int)
  · go_wp2_with fail
    refine (known_any _).mono ?_
    rintro e wz ⟨rfl, hz⟩
    go_wp2
    go_ret
    exact ⟨rfl, hz⟩
  have dh := decide_eq_false h60
  have hn60 : n ≤ 60 := by omega
  have hm60 : m ≤ 60 := by omega
  obtain ⟨s0, hs0⟩ : ∃ s, s = lonN ts := ⟨_, rfl⟩
  obtain ⟨s1, hs1⟩ : ∃ s, s = lonN us := ⟨_, rfl⟩
  have b0 : s0 ≤ 9007199254740992 := by
    have h := lonN_le ts 140737488351232 HIb.out ts.length (Nat.le_refl _)
    rw [List.take_length, HIl.out] at h
    rw [hs0]
    exact Nat.le_trans h (by omega)
  have b1 : s1 ≤ 9007199254740992 := by
    have h := lonN_le us 140737488351232 HKb.out us.length (Nat.le_refl _)
    rw [List.take_length, HKl.out] at h
    rw [hs1]
    exact Nat.le_trans h (by omega)
  have S0 : Kp (∀ w, Below W.heap.size W w → Calls Try.prog 16 #[.slice A n c] w fun e w' => e = .returned (.int .i64 ((s0 : Nat) : Int)) ∧ w' = w) := ⟨fun w hw => by rw [hs0]; exact reflong10_any A n c ts w W.heap.size (HI.out.below hw) (by omega) HIb.out⟩
  have S1 : Kp (∀ w, Below W.heap.size W w → Calls Try.prog 16 #[.slice B m d] w fun e w' => e = .returned (.int .i64 ((s1 : Nat) : Int)) ∧ w' = w) := ⟨fun w hw => by rw [hs1]; exact reflong10_any B m d us w W.heap.size (HK.out.below hw) (by omega) HKb.out⟩
  clear hs0 hs1 HIb HKb
  go_wp2_with fail
  refine (S0.out W (Below.refl _ _)).mono ?_
  rintro e w1 ⟨rfl, rfl⟩
  go_wp2_with fail
  refine (S1.out w1 (Below.refl _ _)).mono ?_
  rintro e w2 ⟨rfl, rfl⟩
  clear S0 S1
  by_cases h6 : (6000 : Int) < (s0 : Int) + (s1 : Int)
  · go_wp2_with fail
    refine (known_any _).mono ?_
    rintro e wz ⟨rfl, hz⟩
    go_wp2
    go_ret
    exact ⟨rfl, hz⟩
  clear b0 b1 dh
  obtain ⟨S, hS⟩ : ∃ z, z = strL ts := ⟨_, rfl⟩
  obtain ⟨U, hU⟩ : ∃ z, z = strL (ts ++ us) := ⟨_, rfl⟩
  have HS : Kp (S = strL ts) := ⟨hS⟩
  have HU : Kp (U = strL (ts ++ us)) := ⟨hU⟩
  clear hS hU
  go_wp2_with fail
  refine (straight_any A n c ts w2 HI.out (by omega)).mono ?_
  rw [← HS.out]
  rintro e w3 ⟨rfl, hb3⟩
  obtain ⟨L0, hL0, hc0⟩ := (HI.out.below hb3).heads
  obtain ⟨L1, hL1, hc1⟩ := (HK.out.below hb3).heads
  have hl0 : L0.length = n := by rw [hL0.len, HIl.out]
  have hl1 : L1.length = m := by rw [hL1.len, HKl.out]
  have HL0 : Kp _ := ⟨hL0⟩
  have HL1 : Kp _ := ⟨hL1⟩
  have HC0 : Kp _ := ⟨hc0⟩
  have HC1 : Kp _ := ⟨hc1⟩
  have Hl0 : Kp _ := ⟨hl0⟩
  have Hl1 : Kp _ := ⟨hl1⟩
  have hN0 : A = none → n = 0 ∧ c = 0 := fun h => by have h1 := HI.out.nil h; have h2 := HI.out.cap; exact ⟨by omega, h1⟩
  have hN1 : B = none → m = 0 ∧ d = 0 := fun h => by have h1 := HK.out.nil h; have h2 := HK.out.cap; exact ⟨by omega, h1⟩
  have HN0 : Kp _ := ⟨hN0⟩
  have HN1 : Kp _ := ⟨hN1⟩
  clear hL0 hL1 hc0 hc1 hl0 hl1 hN0 hN1
  go_wp2_with (at_builtin; refine wpList_appQ (o := ⟨some 27, _, _, _, _, _⟩) Try.underlying32 infTr4 rfl rfl (.tmp 25) (.tmp 26) rfl w3.heap.size (.slice none 0 0) 0 [] rfl (World.ownsRow_nil _ _ _ _) A n c L0 rfl Hl0.out HN0.out HC0.out (by simp only [maxLen]; omega) (by omega) (Nat.le_refl _) ?_)
  intro v4 w4 hown4 hg4
  have hb34 : Below w3.heap.size w3 w4 := grown_belowQ (World.ownsRow_nil w3 w3.heap.size 46 4) (Nat.le_refl _) hg4
  have HO4 : Kp _ := ⟨hown4⟩
  have hb4 : Below w2.heap.size w2 w4 := hb3.trans (hb34.mono hb3.size)
  have HC1' : Kp (∀ ad, B = some ad → ∀ j u, (hqCells L1)[j]? = some u → w4.cell? (ad.add j) = some u) := ⟨fun ad had j u hu => by
    have h1 := HC1.out ad had j u hu
    have h2 := spot_of_cell h1
    have h3 := World.block_lt_of_cell? w3 _ h1
    rw [← h1]
    exact hb34.cell h3⟩
  have HL4 : Kp (LdQ w4 w2.heap.size L0 ts) := ⟨HL0.out.below (hb34.mono hb3.size)⟩
  have HL5 : Kp (LdQ w4 w2.heap.size L1 us) := ⟨HL1.out.below (hb34.mono hb3.size)⟩
  have hs3 : w3.heap.size ≤ w4.heap.size := hb34.size
  have hs2 : w2.heap.size ≤ w3.heap.size := hb3.size
  clear hown4 hg4 HL0 HL1 HC0 HC1 HN0
  go_wp2_with (at_builtin; refine wpList_appQ (o := ⟨some 30, _, _, _, _, _⟩) Try.underlying32 infTr4 rfl rfl (.tmp 28) (.tmp 29) rfl w3.heap.size v4 n L0 rfl HO4.out B m d L1 rfl Hl1.out HN1.out HC1'.out (by simp only [maxLen]; omega) (by omega) hs3 ?_)
  intro v5 w5 hown5 hg5
  have hb45 : Below w3.heap.size w4 w5 := grown_belowQ HO4.out hs3 hg5
  have hb5 : Below w2.heap.size w2 w5 := hb4.trans (hb45.mono hs2)
  obtain ⟨A5, c5, rfl, hT5⟩ := Trs.of_own hown5 ((HL4.out.append HL5.out).below (hb45.mono hs2)) hb5.size
  have HT5 : Kp _ := ⟨hT5⟩
  clear hown5 hg5 HO4 HC1' HL4 HL5 hb34 hb45 hb3 hb4 hs3 hs2 hT5 Hl0 Hl1 HN1
  go_wp2_with fail
  refine (straight_any A5 (n + m) c5 (ts ++ us) w5 HT5.out (by omega)).mono ?_
  rw [← HU.out]
  rintro e w6 ⟨rfl, hb6⟩
  have hB6 : Below w2.heap.size w2 w6 := hb5.trans (hb6.mono hb5.size)
  clear hb6 hb5 HT5
  rcases strL_cases ts with ⟨h9, _⟩ | ⟨k, hk, h9, _⟩
  · obtain rfl : S = -1 := by rw [HS.out, h9]
    have HX : Kp (U = -1 ∨ (n : Int) ≤ U) := ⟨by
      have h := strL_none ts us h9
      rw [HIl.out] at h
      rw [HU.out]; exact h⟩
    clear h9 HS HU
    by_cases hu : U = -1
    · subst hu
      go_wp2_with fail
      refine (known_any _).mono ?_
      rintro e wz ⟨rfl, hz⟩
      have hBz := hB6.trans (hz.mono hB6.size)
      clear hz hB6
      go_wp2
      go_ret
      exact ⟨rfl, hBz⟩
    · have hle : (n : Int) ≤ U := by rcases HX.out with h | h; exact absurd h hu; exact h
      have db := decide_eq_false hu
      have dc := decide_eq_true hle
      go_wp2_with fail
      refine (known_any _).mono ?_
      rintro e wz ⟨rfl, hz⟩
      have hBz := hB6.trans (hz.mono hB6.size)
      clear hz hB6
      go_wp2
      go_ret
      exact ⟨rfl, hBz⟩
  · obtain rfl : S = (k : Int) := by rw [HS.out, h9]
    obtain rfl : U = (k : Int) := by rw [HU.out]; exact strL_app ts us k h9
    have hkn : k < n := by rw [← HIl.out]; exact hk
    obtain ⟨t1, t2⟩ := strL_take ts k h9
    have HT1 : Kp _ := ⟨t1⟩
    have HT2 : Kp _ := ⟨t2⟩
    have hk0 : (0 : Int) ≤ (k : Int) := by omega
    have HTr : Kp (Trs w6 w6.heap.size A n c ts) := ⟨(HI.out.below hB6).more hB6.size⟩
    obtain ⟨ti, hti, htz⟩ := infTq
    have HTi : Kp _ := ⟨And.intro hti htz⟩
    have HKn : Kp (k ≤ n) := ⟨by omega⟩
    have HKn1 : Kp (k + 1 ≤ n) := ⟨by omega⟩
    clear h9 hk t1 t2 HS HU hti htz
    go_wp2_with (refine wpList_cutQ_g (o := ⟨some 41, _, _, _, _, _⟩) rfl Try.underlying32 HTi.out.1 HTi.out.2 (.tmp 39) (.tmp 40) rfl rfl HTr.out .i64 _ k rfl rfl HKn.out ?_)
    intro A7 hT7
    have HT7 : Kp _ := ⟨hT7⟩
    clear hT7
    go_wp2_with fail
    refine (straight_any A7 k c (ts.take k) w6 HT7.out (by omega)).mono ?_
    rw [HT1.out]
    rintro e w7 ⟨rfl, hb7⟩
    have HTr7 : Kp (Trs w7 w7.heap.size A n c ts) := ⟨(HTr.out.below hb7).more hb7.size⟩
    have hB7 := hB6.trans (hb7.mono hB6.size)
    clear hb7 hB6 HT7 HTr HT1
    go_wp2_with (refine wpList_cutQ_g (o := ⟨some 49, _, _, _, _, _⟩) rfl Try.underlying32 HTi.out.1 HTi.out.2 (.tmp 46) (.tmp 48) rfl rfl HTr7.out .i64 _ (k + 1) rfl rfl HKn1.out ?_)
    intro A8 hT8
    have HT8 : Kp _ := ⟨hT8⟩
    clear hT8
    go_wp2_with fail
    refine (straight_any A8 (k + 1) c (ts.take (k + 1)) w7 HT8.out (by omega)).mono ?_
    rw [HT2.out]
    rintro e w8 ⟨rfl, hb8⟩
    have hB8 := hB7.trans (hb8.mono hB7.size)
    clear hb8 hB7 HT8 HTr7 HT2
    go_wp2_with fail
    refine (known_any _).mono ?_
    rintro e wz ⟨rfl, hz⟩
    have hBz := hB8.trans (hz.mono hB8.size)
    clear hz hB8
    go_wp2
    go_ret
    exact ⟨rfl, hBz⟩
end Go.Proofs.Ythpfiieaanioeaa
