/- The walk of ShaPads. -/
import Derived.Test.YtnpodomdagodbaaWrite
import Derived.Test.YtnpodomdagodbaaLawSums
import Derived.Deep.RegionHeld3
import Derived.Test.YtnpodomdagodbaaHeld
namespace Go.Proofs.Ytnpodomdagodbaa
open Go.RowKit

/-- K bytes, the first j of them b -/
def padB (b : UInt8) (K j : Nat) : List UInt8 := List.replicate j b ++ List.replicate (K - j) 0
theorem padB_length (b : UInt8) (K j : Nat) (h : j ≤ K) : (padB b K j).length = K := by simp [padB]; omega
theorem padB_next (b : UInt8) (K j : Nat) (h : j < K) : (cells8 (padB b K j)).set j (.int .u8 (b.toNat : Int)) = cells8 (padB b K (j + 1)) := by
  unfold padB
  rw [show K - j = (K - (j + 1)) + 1 by omega, List.replicate_succ, cells8_append, List.set_append_right _ _ (by rw [cells8_length, List.length_replicate]; omega), cells8_length, List.length_replicate, Nat.sub_self]
  rw [List.replicate_succ', cells8_append, cells8_append]
  simp [cells8]

set_option maxRecDepth 100000 in
set_option maxHeartbeats 4000000 in
theorem walk_shaPads (x y : Int) (w : World) (hx : (Lit.int .u8 x).wf = true) (hy : (Lit.int .u8 y).wf = true) :
    Calls Try.prog 8 #[.int .u8 x, .int .u8 y] w fun e w' => e = .returned (.bool true) ∧ Below w.heap.size w w' := by
  have hxb : 0 ≤ x ∧ x ≤ 255 := by simpa [Lit.wf, IntKind.min, IntKind.max, IntKind.signed, IntKind.bits] using hx
  have hyb : 0 ≤ y ∧ y ≤ 255 := by simpa [Lit.wf, IntKind.min, IntKind.max, IntKind.signed, IntKind.bits] using hy
  obtain ⟨b, rfl⟩ : ∃ b : UInt8, x = (b.toNat : Int) := ⟨UInt8.ofNat x.toNat, by rw [ofNat_toNat]; omega⟩
  obtain ⟨z, rfl⟩ := Int.eq_ofNat_of_zero_le hyb.1
  obtain ⟨K, hK⟩ : ∃ K, K = 50 + z % 90 := ⟨_, rfl⟩
  have hz : (z : Int) ≤ 255 := hyb.2
  have hKi : 50 + (z : Int) % 90 = (K : Int) := by omega
  have hK1 : K ≤ 139 := by omega
  have hK2 : 50 ≤ K := by omega
  have HKK : Kp _ := ⟨hK⟩
  clear hx hy hxb hyb hK
  go_enter Try.func8, Try.ntmps8
  go_wp2_with (with_reducible refine wpList_mk (o := ⟨some 15, _, _, _, _, _⟩) el8 rfl (.tmp 14) (.tmp 14) rfl w.heap.size .i64 .i64 _ _ K rfl rfl rfl rfl (by omega) (by simp only [maxLen]; omega) (Nat.le_refl _) ?_)
  intro w1 hown1 hg1
  have hb1 : Below w.heap.size w w1 := (Below.refl _ _).grown hg1 (Nat.le_refl _) (by simp)
  have HB1 : Kp (Blk w1 w.heap.size 5 (cells8 (padB b K 0))) := ⟨by
    have h1 := (own_full hown1).1
    have e : cells8 (padB b K 0) = List.replicate K (Value.int .u8 0) := by simp [padB, cells8]
    rw [e]
    exact ⟨h1⟩⟩
  clear hown1 hg1
  go_wp2
  go_loopw [7] (fun v wr => ∃ j : Nat, j ≤ K ∧ v = .int .i64 j ∧ Kp (Blk wr w.heap.size 5 (cells8 (padB b K j))) ∧ Below w.heap.size w wr) (fun v _ => K - (intOf v).toNat)
  case atStart => exact ⟨0, Nat.zero_le _, rfl, HB1, hb1⟩
  case round =>
    clear HB1 hb1
    obtain ⟨j, hj, rfl, HB, hBr⟩ := hrel
    by_cases hlt : j < K
    · have hcx := HB.out.cell (i := j) (by rw [cells8_length, padB_length _ _ _ hj]; exact hlt)
      have hfx := HB.out.frozen j
      have HN : Kp _ := ⟨padB_next b K j hlt⟩
      generalize (cells8 (padB b K j))[j]'(by rw [cells8_length, padB_length _ _ _ hj]; exact hlt) = old at hcx
      go_wp2
      refine ⟨⟨j + 1, by omega, by go_num, ⟨?_⟩, hBr.setCell (Nat.le_refl _) _⟩, by simp [intOf]; omega⟩
      have h3 := HB.out.set j (.int .u8 (b.toNat : Int))
      rw [HN.out] at h3
      exact h3
    · have HJ : Kp (j = K) := ⟨by omega⟩
      obtain ⟨l, hl⟩ : ∃ l, l = padB b K K := ⟨_, rfl⟩
      have HL : Kp (l.length = K) := ⟨by rw [hl]; exact padB_length _ _ _ (Nat.le_refl _)⟩
      have HB2 : Kp (Blk wr w.heap.size 5 (cells8 l)) := ⟨by
        have h1 := HB.out
        rw [HJ.out, ← hl] at h1
        exact h1⟩
      have hlr := HB.out.lt
      have HBs : Kp (Bs wr wr.heap.size (some ⟨w.heap.size, 0, none⟩) K K l) := ⟨HB2.out.bytes hlr (by rw [List.drop_zero, List.take_of_length_le (by rw [cells8_length, HL.out]; exact Nat.le_refl _)]) HL.out K (Nat.le_refl _) (by simp only [maxLen]; omega)⟩
      obtain ⟨w3, rfl⟩ : ∃ x, x = wr := ⟨wr, rfl⟩
      clear HB HB2 hl
      go_wp2_with fail
      refine (new_any w3).mono ?_
      rintro e w4 ⟨rfl, hh4, hB4⟩
      have HH4 : Kp _ := ⟨hh4⟩
      have HBs4 : Kp _ := ⟨HBs.out.below hB4⟩
      have hB34 := hB4
      clear hh4 hB4
      obtain ⟨q, hq⟩ : ∃ q, q = K / 2 := ⟨_, rfl⟩
      have hqi : (K : Int) / 2 = (q : Int) := by omega
      have hqK : q ≤ K := by omega
      clear hq
      go_wp2_with (with_reducible refine wpList_cut_h (o := ⟨some 30, _, _, _, _, _⟩) el8 rfl _ _ rfl rfl HBs4.out _ _ q rfl rfl hqK ?_)
      intro A5 hbs5
      have HBs5 : Kp _ := ⟨BsA.of_bs hbs5 (Nat.le_refl _) hB34.size⟩
      clear hbs5
      go_wp2_with fail
      refine (write_any w3.heap.size [] A5 q K (l.take q) _ HH4.out HBs5.out (by simp only [List.length_nil, List.length_take, HL.out]; omega)).mono ?_
      rintro e w5 ⟨rfl, hh5, hg5⟩
      have HH5 : Kp (HashIs w5 w3.heap.size (l.take q)) := ⟨by simpa using hh5⟩
      have hB35 : Below w3.heap.size w3 w5 := hB34.trans (below_grown hg5 (Nat.le_refl _) hB34.size)
      have HBs6 : Kp _ := ⟨HBs.out.below hB35⟩
      clear hh5 hg5 HBs5 HBs4 HH4 hB34
      go_wp2_with (with_reducible refine wpList_cut_l (o := ⟨some 36, _, _, _, _, _⟩) el8 rfl _ _ rfl rfl HBs6.out _ _ q rfl rfl hqK ?_)
      intro A6 m6 d6 hbs6
      have HBs7 : Kp _ := ⟨BsA.of_bs hbs6 (Nat.le_refl _) hB35.size⟩
      have HTD : Kp _ := ⟨List.take_append_drop q l⟩
      clear hbs6
      go_wp2_with fail
      refine (write_any w3.heap.size (l.take q) A6 m6 d6 (l.drop q) _ HH5.out HBs7.out (by rw [← List.length_append, HTD.out, HL.out]; omega)).mono ?_
      rintro e w6 ⟨rfl, hh6, hg6⟩
      have HH6 : Kp (HashIs w6 w3.heap.size l) := ⟨by rw [HTD.out] at hh6; exact hh6⟩
      have hB36 : Below w3.heap.size w3 w6 := hB35.trans (below_grown hg6 (Nat.le_refl _) hB35.size)
      clear hh6 hg6 HBs7 HH5 hB35 HTD HBs6
      go_wp2_with fail
      refine (refsum_any _ K K l _ ((HBs.out.below hB36).more hB36.size) (by omega)).mono ?_
      rintro e w7 ⟨rfl, hB7⟩
      have HH7 : Kp _ := ⟨HH6.out.below hB7 HH6.out.lt⟩
      have hB37 : Below w3.heap.size w3 w7 := hB36.trans (hB7.mono hB36.size)
      have heq := eql_self (shaL l) (shaL_length _)
      have HD32 : Kp ((cells8 (shaL l)).length = 32) := ⟨by rw [cells8_length, shaL_length]⟩
      generalize hD : shaL l = D at *
      have HD : Kp _ := ⟨hD⟩
      have HZ32 : Kp (zero32.length = 32) := ⟨rfl⟩
      clear hD HH6 hB36 hB7
      go_wp2_with (with_reducible refine wpList_alloc (o := ⟨some 9, _, _, _, _, _⟩) tyDig rfl rfl ?_)
      intro w8 hk8 hb8 hs8
      have HK8 : Kp _ := ⟨hk8⟩
      clear hk8
      go_wp2_with (with_reducible refine wpList_storeAll (o := ⟨none, _, _, _, _, _⟩) (vs := cells8 D) rwDig rfl (.tmp 9) (.tmp 39) rfl rfl HK8.out HZ32.out HD32.out (cells8_one _) rfl ?_)
      intro w9 hk9 ho9
      have hs9 := ho9.size
      have hB79 : Below w7.heap.size w7 w9 := hb8.trans (ho9.below (Nat.le_refl _))
      have HH9 : Kp _ := ⟨HH7.out.below hB79 HH7.out.lt⟩
      have hB39 : Below w3.heap.size w3 w9 := hB37.trans (hB79.mono hB37.size)
      have hrg : w9.rangeAt w7.heap.size 0 (cells8 D) := hk9.range (n := 32) (by rw [List.drop_zero, List.take_of_length_le (by rw [HD32.out]; exact Nat.le_refl _)])
      have hgl : w7.heap.size < w9.heap.size := by omega
      have HRG : Kp _ := ⟨hrg⟩
      clear hk9 ho9 HK8 hb8 hs8 HH7 hB37 hB79 hrg
      have C1 : Kp (∀ W, Below w9.heap.size w9 W → Calls Try.prog 21 #[.pointer (some ⟨w3.heap.size, 0, none⟩)] W fun e w' => e = .returned (.agg (cells8 D).toArray) ∧ Below W.heap.size W w') := ⟨fun W hW => by
        have h := sum_any w3.heap.size l W (HH9.out.below hW HH9.out.lt) (by rw [HL.out]; omega)
        rw [HD.out] at h
        exact h⟩
      have C2 : Kp (∀ W : World, Below w9.heap.size w9 (W.alloc (.cells #[.slice (some ⟨w.heap.size, 0, none⟩) K K] 23)) → Calls Try.prog 17 #[.slice (some ⟨W.heap.size, 0, none⟩) 1 1] (W.alloc (.cells #[.slice (some ⟨w.heap.size, 0, none⟩) K K] 23)) fun e w' => e = .returned (.agg (cells8 D).toArray) ∧ Below (W.alloc (.cells #[.slice (some ⟨w.heap.size, 0, none⟩) K K] 23)).heap.size (W.alloc (.cells #[.slice (some ⟨w.heap.size, 0, none⟩) K K] 23)) w') := ⟨fun W hW => by
        have h := sumf1' (some ⟨w.heap.size, 0, none⟩) K K l W 23 ((HBs.out.below (hB39.trans (hW.mono hB39.size))).more (Nat.le_trans hB39.size hW.size)) (by rw [HL.out]; omega)
        rw [HD.out] at h
        exact h⟩
      have hu : (Try.prog).underlying 27 = some (.array 32 5) := rwDig.ty
      have hi32 : ((Try.prog).info? 27).map (·.size) = some (cells8 D).length := by rw [HD32.out]; exact rwDig.size
      have hB09 : Below w.heap.size w w9 := hBr.trans (hB39.mono (by have := hlr; omega))
      go_wp2_with fail
      refine wp_region_held_drew (S := fun W => Below w9.heap.size w9 W ∧ W.rangeAt w7.heap.size 0 (cells8 D)) (by kernel_rfl) ⟨(Below.refl _ _).drew, HRG.out⟩ (fun hHeld => ?_)
      refine wpAnyH_take (i := 0) (oi := ⟨some 40, _, _, _, _, _⟩) (v := ?_) rfl (by kernel_rfl) (by kernel_rfl) (by kernel_rfl) (fun _ _ _ h => h) (Or.inl ⟨by rfl, by intro w hSw; go_simp; try rfl⟩) (by assumption) ?_
      try simp only [Act.put, List.setIfInBounds_toArray, List.set_cons_zero, List.set_cons_succ]
      refine wpAnyH_take (i := 2) (oi := ⟨some 42, _, _, _, _, _⟩) (v := _) rfl (by kernel_rfl) (by kernel_rfl) (by kernel_rfl) (fun _ _ _ h => h) (yieldsIf_load_mid (by rfl) _ (.tmp 9) rfl _ _ rfl (cells8 D) _ (fun W hW => hW.2) hu rfl hi32) (by assumption) ?_
      try simp only [Act.put, List.setIfInBounds_toArray, List.set_cons_zero, List.set_cons_succ]
      refine wpAnyH_ready (rs := [1]) (by kernel_rfl) (by simp) ?_
      refine AllReadyH.cons (o := ⟨some 41, _, _, _, _, _⟩) rfl (fun K hK => ?_) AllReadyH.nil
      go_simp
      refine (C1.out _ hHeld.1).mono ?_
      rintro e w10 ⟨rfl, hb'⟩
      refine hK.out _ _ (keep_call (by assumption) hgl hb') (fun hHeld2 => ?_)
      clear hK K hb'
      clear hHeld
      have hHeld := hHeld2
      clear hHeld2
      try simp only [Act.put, List.setIfInBounds_toArray, List.set_cons_zero, List.set_cons_succ]
      refine wpAnyH_take (i := 3) (oi := ⟨some 43, _, _, _, _, _⟩) (v := ?_) rfl (by kernel_rfl) (by kernel_rfl) (by kernel_rfl) (fun _ _ _ h => h) (Or.inl ⟨by rfl, by intro w hSw; go_simp; try rfl⟩) (by assumption) ?_
      try simp only [Act.put, List.setIfInBounds_toArray, List.set_cons_zero, List.set_cons_succ]
      refine wpAnyH_take (i := 4) (oi := ⟨some 44, _, _, _, _, _⟩) (v := ?_) rfl (by kernel_rfl) (by kernel_rfl) (by kernel_rfl) (fun _ _ _ h => h) (Or.inl ⟨by rfl, by intro w hSw; go_simp; try rfl⟩) (by assumption) ?_
      try simp only [Act.put, List.setIfInBounds_toArray, List.set_cons_zero, List.set_cons_succ]
      refine wpAnyH_take (i := 5) (oi := ⟨some 45, _, _, _, _, _⟩) (v := ?_) rfl (by kernel_rfl) (by kernel_rfl) (by kernel_rfl) (fun _ _ _ h => h) (Or.inl ⟨by rfl, by intro w hSw; go_simp; try rfl⟩) (by assumption) ?_
      try simp only [Act.put, List.setIfInBounds_toArray, List.set_cons_zero, List.set_cons_succ]
      refine wpAnyH_take (i := 8) (oi := ⟨some 48, _, _, _, _, _⟩) (v := _) rfl (by kernel_rfl) (by kernel_rfl) (by kernel_rfl) (fun _ _ _ h => h) (yieldsIf_load_mid (by rfl) _ (.tmp 9) rfl _ _ rfl (cells8 D) _ (fun W hW => hW.2) hu rfl hi32) (by assumption) ?_
      try simp only [Act.put, List.setIfInBounds_toArray, List.set_cons_zero, List.set_cons_succ]
      refine wpAnyH_ready (rs := [6]) (by kernel_rfl) (by simp) ?_
      refine AllReadyH.cons (o := ⟨some 46, _, _, _, _, _⟩) rfl (fun K hK => ?_) AllReadyH.nil
      go_simp
      refine hK.out _ _ (keep_alloc hHeld _) (fun hHeld2 => ?_)
      clear hK K hHeld
      have hHeld := hHeld2
      clear hHeld2
      try simp only [Act.put, List.setIfInBounds_toArray, List.set_cons_zero, List.set_cons_succ]
      refine wpAnyH_ready (rs := [7]) (by kernel_rfl) (by simp) ?_
      refine AllReadyH.cons (o := ⟨some 47, _, _, _, _, _⟩) rfl (fun K hK => ?_) AllReadyH.nil
      go_simp
      refine (C2.out _ hHeld.1).mono ?_
      rintro e w11 ⟨rfl, hb'⟩
      refine hK.out _ _ (keep_call hHeld hgl hb') (fun hHeld2 => ?_)
      clear hK K hHeld
      have hHeld := hHeld2
      clear hHeld2
      try simp only [Act.put, List.setIfInBounds_toArray, List.set_cons_zero, List.set_cons_succ]
      refine wpAnyH_take (i := 9) (oi := ⟨some 49, _, _, _, _, _⟩) (v := ?_) rfl (by kernel_rfl) (by kernel_rfl) (by kernel_rfl) (fun _ _ _ h => h) (Or.inl ⟨by rfl, by intro w hSw; go_simp; try rfl⟩) (by assumption) ?_
      try simp only [Act.put, List.setIfInBounds_toArray, List.set_cons_zero, List.set_cons_succ]
      refine wpAnyH_take (i := 10) (oi := ⟨some 50, _, _, _, _, _⟩) (v := ?_) rfl (by kernel_rfl) (by kernel_rfl) (by kernel_rfl) (fun _ _ _ h => h) (Or.inl ⟨by rfl, by intro w hSw; go_simp; try rfl⟩) (by assumption) ?_
      try simp only [Act.put, List.setIfInBounds_toArray, List.set_cons_zero, List.set_cons_succ]
      refine wpAnyH_take (i := 11) (oi := ⟨some 51, _, _, _, _, _⟩) (v := ?_) rfl (by kernel_rfl) (by kernel_rfl) (by kernel_rfl) (fun _ _ _ h => h) (Or.inl ⟨by rfl, by intro w hSw; go_simp; try rfl⟩) (by assumption) ?_
      try simp only [Act.put, List.setIfInBounds_toArray, List.set_cons_zero, List.set_cons_succ]
      refine wpAnyH_ready (rs := [12]) (by kernel_rfl) (by simp) ?_
      refine AllReadyH.cons (o := ⟨some 52, _, _, _, _, _⟩) rfl (fun K hK => ?_) AllReadyH.nil
      go_simp
      refine (known2_any _).mono ?_
      rintro e w12 ⟨rfl, hb'⟩
      refine hK.out _ _ (keep_call hHeld hgl hb') (fun hHeld2 => ?_)
      clear hK K hHeld
      have hHeld := hHeld2
      clear hHeld2
      try simp only [Act.put, List.setIfInBounds_toArray, List.set_cons_zero, List.set_cons_succ]
      refine wpAnyH_take (i := 13) (oi := ⟨some 53, _, _, _, _, _⟩) (v := ?_) rfl (by kernel_rfl) (by kernel_rfl) (by kernel_rfl) (fun _ _ _ h => h) (Or.inl ⟨by rfl, by intro w hSw; go_simp; try rfl⟩) (by assumption) ?_
      try simp only [Act.put, List.setIfInBounds_toArray, List.set_cons_zero, List.set_cons_succ]
      refine wpAnyH_take (i := 14) (oi := ⟨some 4, _, _, _, _, _⟩) (v := ?_) rfl (by kernel_rfl) (by kernel_rfl) (by kernel_rfl) (fun _ _ _ h => h) (Or.inl ⟨by rfl, by intro w hSw; go_simp; try rfl⟩) (by assumption) ?_
      try simp only [Act.put, List.setIfInBounds_toArray, List.set_cons_zero, List.set_cons_succ]
      refine wpAnyH_done (by kernel_rfl) ?_ _
      go_wp2
      go_ret
      exact ⟨rfl, hB09.trans (hHeld.1.mono hB09.size)⟩
theorem law_shaPads (x y : Int) (w : World) (hx : (Lit.int .u8 x).wf = true) (hy : (Lit.int .u8 y).wf = true) :
    Calls Try.prog 8 #[.int .u8 x, .int .u8 y] w fun e w' => e = .returned (.bool true) ∧ Below w.heap.size w w' :=
  walk_shaPads x y w hx hy

end Go.Proofs.Ytnpodomdagodbaa
