/- The contracts of Last, the program's and the document's; of the document's Join. -/
import Derived.Test.YtaedlaeflliibaaDoorPtW
namespace Go.Proofs.YtaedlaeflliibaaDoor
open Go.RowKit Go.Shelf Go.Deep

def okL (l : List Nm) : Bool := match l.getLast? with | none => false | some x => !(x == dotsL)
def lastN (l : List Nm) : Nm := if okL l then l.getLastD [] else []
def lastL (l : List Nm) : List Nm := if okL l then l.dropLast else []
def lastE (l : List Nm) : Int := if okL l then 0 else 11
def lastB (b : Bool) (l : List Nm) : Bool := okL l && b
theorem last_no {l : List Nm} (h : okL l = false) (b : Bool) : lastN l = [] ∧ lastL l = [] ∧ lastE l = 11 ∧ lastB b l = false := by
  unfold lastN lastL lastE lastB
  rw [h]; exact ⟨rfl, rfl, rfl, rfl⟩
theorem okL_nil : okL [] = false := rfl
theorem okL_at {l : List Nm} {k : Nat} (hk : l.length = k + 1) : okL l = !(l[k] == dotsL) := by
  have e : l[l.length - 1]? = some l[k] := by
    rw [show l.length - 1 = k by omega]; exact List.getElem?_eq_getElem _
  unfold okL
  rw [List.getLast?_eq_getElem?, e]
theorem last_yes {l : List Nm} {k : Nat} (hk : l.length = k + 1) (h : okL l = true) (b : Bool) : lastN l = l[k] ∧ lastL l = l.take k ∧ lastE l = 0 ∧ lastB b l = b := by
  have e : l[l.length - 1]? = some l[k] := by
    rw [show l.length - 1 = k by omega]; exact List.getElem?_eq_getElem _
  unfold lastN lastL lastE lastB
  rw [h]
  refine ⟨?_, ?_, rfl, by simp⟩
  · rw [if_pos rfl, List.getLastD_eq_getLast?, List.getLast?_eq_getElem?, e]; rfl
  · rw [if_pos rfl, List.dropLast_eq_take, hk]; rfl
section
set_option maxRecDepth 100000
set_option maxHeartbeats 4000000
theorem lastPt_any (b : Bool) (A : Option Addr) (n c : Nat) (l : List Nm) (w : World) (L : Nat) (ha : Ss w L A n c l) (hL : L ≤ w.heap.size) (hn : n ≤ 8796093022208) :
    Calls Tryd.prog 15 #[.agg #[.bool b, .slice A n c]] w fun e w' => ∃ A' n' c', e = .returned (.tuple #[.agg #[.bool (lastB b l), .slice A' n' c'], .string ⟨(lastN l).toArray⟩, .int .i64 (lastE l)]) ∧ Ss w' w'.heap.size A' n' c' (lastL l) ∧ Below w.heap.size w w' := by
  have hx2 := box_two w [.bool b, .slice A n c] [.bool false, .slice none 0 0]
  have HA : Kp (∀ W, Below w.heap.size w W → Ss W L A n c l) := ⟨fun W h => ha.below (h.mono hL)⟩
  have HOk : Kp _ := ⟨ha.ok⟩
  have HX : Kp (l.length = n) := ⟨ha.len⟩
  have HCp : Kp (n ≤ c) := ⟨ha.cap⟩
  have hn63 := ha.le
  have H2 : Kp _ := ⟨hx2⟩
  have HLw : Kp (L ≤ w.heap.size) := ⟨hL⟩
  clear hx2 hL
  rcases Nat.eq_zero_or_pos n with h0 | h0
  · subst h0
    obtain rfl : l = [] := List.eq_nil_of_length_eq_zero HX.out
    clear ha
    go_enter Tryd.func15, Tryd.ntmps15
    go_wp2
    refine bodyPost_ret (results_pt3 rfl Tryd.underlying25 rfl rfl H2.out.2.1 szPt) rfl ?_
    exact ⟨none, 0, 0, rfl, Ss.zero _ _, H2.out.2.2⟩
  obtain ⟨k, hkn⟩ : ∃ k, n = k + 1 := ⟨n - 1, by omega⟩
  have hin : k < n := by omega
  have hkl : k < l.length := by rw [HX.out]; exact hin
  obtain ⟨b1, o1, rfl, hb1, hc0⟩ := ha.at hin
  obtain ⟨x, hx⟩ : ∃ x, x = l[k] := ⟨_, rfl⟩
  rw [← hx] at hc0
  have HKl : Kp (l.length = k + 1) := ⟨by rw [HX.out, hkn]⟩
  have HOL : Kp (okL l = !(x == dotsL)) := ⟨by rw [hx]; exact okL_at HKl.out⟩
  have HXe : Kp (x = l[k]) := ⟨hx⟩
  have hq1 : (n : Int) - 1 = (k : Int) := by omega
  have hq2 : IntKind.i64.wrap ((n : Int) - 1) = (k : Int) := by rw [hq1, IntKind.wrap_i64]; omega
  have hq3 : IntKind.i64.wrap (k : Int) = (k : Int) := by rw [IntKind.wrap_i64]; omega
  have hki : (k : Int) < (n : Int) := by omega
  have HC : Kp (∀ W, Below w.heap.size w W → W.cell? ⟨b1, o1 + k, none⟩ = some (.string ⟨x.toArray⟩)) := ⟨fun W h => (h.cell (p := ⟨b1, o1 + k, none⟩) (by have := HLw.out; show b1 < w.heap.size; omega)).trans hc0⟩
  have hc1 : (((w.alloc (.cells #[.bool b, .slice (some ⟨b1, o1, none⟩) n c] 25)).alloc (.cells #[.bool false, .slice none 0 0] 25))).cell? ⟨b1, o1 + k, none⟩ = some (.string ⟨x.toArray⟩) := HC.out _ H2.out.2.2
  have HN : Kp (n = k + 1 ∧ b1 < w.heap.size) := ⟨hkn, by have := HLw.out; omega⟩
  have heq := eqs_str x [46, 46]
  have hn0 : ¬ (n : Int) = 0 := by omega
  clear ha hx hkn hb1 hc0
  by_cases hd : x = [46, 46]
  · subst hd
    have HNo : Kp (okL l = false) := ⟨by rw [HOL.out]; rfl⟩
    clear heq hq2 hq3
    go_enter Tryd.func15, Tryd.ntmps15
    go_wp2
    obtain ⟨e1, e2, e3, e4⟩ := last_no HNo.out b
    refine bodyPost_ret (results_pt3 rfl Tryd.underlying25 rfl rfl H2.out.2.1 szPt) rfl ?_
    exact ⟨none, 0, 0, by rw [e1, e3, e4]; rfl, by rw [e2]; exact Ss.zero _ _, H2.out.2.2⟩
  · have HYes : Kp (okL l = true) := ⟨by
      rw [HOL.out]
      simp only [Bool.not_eq_true', beq_eq_false_iff_ne]
      exact hd⟩
    have hi3 : (x == [46, 46]) = false := by simpa using hd
    rw [hi3] at heq
    go_enter Tryd.func15, Tryd.ntmps15
    go_upto_region 4 with fail
    obtain ⟨w1, hw1⟩ : ∃ w1, w1 = (w.alloc (.cells #[.bool b, .slice (some ⟨b1, o1, none⟩) n c] 25)).alloc (.cells #[.bool false, .slice none 0 0] 25) := ⟨_, rfl⟩
    rw [← hw1]
    have HQ : Kp _ := ⟨H2.out⟩
    rw [← hw1] at HQ
    obtain ⟨G, hG⟩ : ∃ G, G = w.heap.size := ⟨_, rfl⟩
    rw [← hG] at HQ ⊢
    have HG : Kp (w.heap.size = G ∧ G + 1 < w1.heap.size) := ⟨hG.symm, HQ.out.2.1.lt⟩
    have hkc : k ≤ c := by have := HCp.out; omega
    have hc0 : 0 < c := by have := HCp.out; omega
    clear hw1 H2 hG hc1 heq hi3 hd hn0
    refine wp_region_held_drew (S := fun WW => Blk WW G 25 [.bool b, .slice (some ⟨b1, o1, none⟩) n c] ∧ (∃ es, es.length = 2 ∧ Blk WW (G + 1) 25 es) ∧ Below G w WW) (by kernel_rfl) (⟨HQ.out.1.drew, ⟨_, rfl, HQ.out.2.1.drew⟩, HQ.out.2.2.drew⟩) (fun hHeld => ?_)
    generalize w1.drew = wS at *
    refine wpAnyH_take (i := 0) (oi := ⟨some 21, _, _, _, _, _⟩) (v := ?_) rfl (by kernel_rfl) (by kernel_rfl) (by kernel_rfl) (fun _ _ _ h => h) (Or.inl ⟨by rfl, by intro w hSw; go_simp; try rfl⟩) (by assumption) ?_
    try simp only [Act.put, List.setIfInBounds_toArray, List.set_cons_zero, List.set_cons_succ]
    refine wpAnyH_take (i := 1) (oi := ⟨some 22, _, _, _, _, _⟩) (v := _) rfl (by kernel_rfl) (by kernel_rfl) (by kernel_rfl) (fun _ _ _ h => h) (yieldsIf_ldB rfl _ rfl rfl b (fun W h => h.1.cell? 0)) (by assumption) ?_
    try simp only [Act.put, List.setIfInBounds_toArray, List.set_cons_zero, List.set_cons_succ]
    refine wpAnyH_take (i := 2) (oi := ⟨some 23, _, _, _, _, _⟩) (v := ?_) rfl (by kernel_rfl) (by kernel_rfl) (by kernel_rfl) (fun _ _ _ h => h) (Or.inl ⟨by rfl, by intro w hSw; go_simp; try rfl⟩) (by assumption) ?_
    try simp only [Act.put, List.setIfInBounds_toArray, List.set_cons_zero, List.set_cons_succ]
    refine wpAnyH_take (i := 3) (oi := ⟨some 24, _, _, _, _, _⟩) (v := _) rfl (by kernel_rfl) (by kernel_rfl) (by kernel_rfl) (fun _ _ _ h => h) (yieldsIf_ldL rfl _ rfl rfl (some ⟨b1, o1, none⟩) n c (fun W h => h.1.cell? 1)) (by assumption) ?_
    try simp only [Act.put, List.setIfInBounds_toArray, List.set_cons_zero, List.set_cons_succ]
    refine wpAnyH_take (i := 4) (oi := ⟨some 25, _, _, _, _, _⟩) (v := ?_) rfl (by kernel_rfl) (by kernel_rfl) (by kernel_rfl) (fun _ _ _ h => h) (Or.inl ⟨by rfl, by intro w hSw; go_simp; try rfl⟩) (by assumption) ?_
    try simp only [Act.put, List.setIfInBounds_toArray, List.set_cons_zero, List.set_cons_succ]
    refine wpAnyH_take (i := 5) (oi := ⟨some 26, _, _, _, _, _⟩) (v := _) rfl (by kernel_rfl) (by kernel_rfl) (by kernel_rfl) (fun _ _ _ h => h) (yieldsIf_cutSt rfl _ _ rfl rfl rfl hkc) (by assumption) ?_
    try simp only [Act.put, List.setIfInBounds_toArray, List.set_cons_zero, List.set_cons_succ]
    refine wpAnyH_take (i := 8) (oi := ⟨some 29, _, _, _, _, _⟩) (v := ?_) rfl (by kernel_rfl) (by kernel_rfl) (by kernel_rfl) (fun _ _ _ h => h) (Or.inl ⟨by rfl, by intro w hSw; go_simp; try rfl⟩) (by assumption) ?_
    try simp only [Act.put, List.setIfInBounds_toArray, List.set_cons_zero, List.set_cons_succ]
    refine wpAnyH_take (i := 9) (oi := ⟨some 30, _, _, _, _, _⟩) (v := _) rfl (by kernel_rfl) (by kernel_rfl) (by kernel_rfl) (fun _ _ _ h => h) (yieldsIf_ldL rfl _ rfl rfl (some ⟨b1, o1, none⟩) n c (fun W h => h.1.cell? 1)) (by assumption) ?_
    try simp only [Act.put, List.setIfInBounds_toArray, List.set_cons_zero, List.set_cons_succ]
    refine wpAnyH_take (i := 10) (oi := ⟨some 31, _, _, _, _, _⟩) (v := ?_) rfl (by kernel_rfl) (by kernel_rfl) (by kernel_rfl) (fun _ _ _ h => h) (Or.inl ⟨by rfl, by intro w hSw; go_simp; try rfl⟩) (by assumption) ?_
    try simp only [Act.put, List.setIfInBounds_toArray, List.set_cons_zero, List.set_cons_succ]
    refine wpAnyH_take (i := 11) (oi := ⟨some 32, _, _, _, _, _⟩) (v := ?_) rfl (by kernel_rfl) (by kernel_rfl) (by kernel_rfl) (fun _ _ _ h => h) (Or.inl ⟨by rfl, by intro w hSw; go_simp; try rfl⟩) (by assumption) ?_
    try simp only [Act.put, List.setIfInBounds_toArray, List.set_cons_zero, List.set_cons_succ]
    refine wpAnyH_take (i := 12) (oi := ⟨some 33, _, _, _, _, _⟩) (v := _) rfl (by kernel_rfl) (by kernel_rfl) (by kernel_rfl) (fun _ _ _ h => h) (yieldsIf_ldS rfl _ rfl rfl ⟨x.toArray⟩ (fun W h => HC.out W (by rw [HG.out.1]; exact h.2.2))) (by assumption) ?_
    try simp only [Act.put, List.setIfInBounds_toArray, List.set_cons_zero, List.set_cons_succ]
    refine wpAnyH_ready (rs := [6]) (by kernel_rfl) (by simp) ?_
    refine AllReadyH.cons (o := ⟨some 27, _, _, _, _, _⟩) rfl (fun K hK => ?_) AllReadyH.nil
    go_simp
    refine (cloneSt_any (some ⟨b1, o1, none⟩) k c (l.take k) wS L ((HA.out _ (by rw [HG.out.1]; exact hHeld.2.2)).upto (by have := HN.out.1; omega)) (by have h1 := HLw.out; have h2 := hHeld.2.2.size; have h3 := HG.out.1; omega) (by have := HN.out.1; omega)).mono ?_
    rintro e w51 ⟨v5, rfl, hown, hb'⟩
    obtain ⟨A5, c5, rfl⟩ := own_sl hown
    obtain ⟨b5, hb5⟩ : ∃ x, x = wS.heap.size := ⟨_, rfl⟩
    rw [← hb5] at hown hb'
    have HB5 : Kp (G + 1 < b5 ∧ b5 ≤ w51.heap.size) := ⟨by obtain ⟨es, h1, h2⟩ := hHeld.2.1; have := h2.lt; have := hb'.size; omega⟩
    have HO5 : Kp _ := ⟨hown⟩
    refine hK.out _ _ (⟨hHeld.1.below hb' (by have := HB5.out; omega), (by obtain ⟨es, h1, h2⟩ := hHeld.2.1; exact ⟨es, h1, h2.below hb' HB5.out.1⟩), hHeld.2.2.trans (hb'.mono (by have := HB5.out; omega))⟩) (fun hHeld2 => ?_)
    clear hown hb' hb5
    clear hK K hHeld
    have hHeld := hHeld2
    clear hHeld2
    try simp only [Act.put, List.setIfInBounds_toArray, List.set_cons_zero, List.set_cons_succ]
    refine wpAnyH_take (i := 7) (oi := ⟨some 28, _, _, _, _, _⟩) (v := _) rfl (by kernel_rfl) (by kernel_rfl) (by kernel_rfl) (fun _ _ _ h => h) (yieldsIf_build2 rfl 0 1 _ _ rfl rfl rfl (cs := [.bool b, .slice A5 k c5]) (built_pt2 b A5 k c5)) (by assumption) ?_
    try simp only [Act.put, List.setIfInBounds_toArray, List.set_cons_zero, List.set_cons_succ]
    refine wpAnyH_ready (rs := [13]) (by kernel_rfl) (by simp) ?_
    refine AllReadyH.cons (o := ⟨none, _, _, _, _, _⟩) rfl (fun K hK => ?_) AllReadyH.nil
    obtain ⟨es, he1, he2⟩ := hHeld.2.1
    refine step_store rwPt rfl (.tmp 2) (.tmp 28) rfl rfl rfl he2 rfl (by rw [he1]; exact Nat.le_refl 2) (one_pt b A5 k c5) ?_
    intro w52 hk9 ho9
    rw [show es.take 0 ++ [Value.bool b, .slice A5 k c5] ++ es.drop (0 + 2) = [Value.bool b, .slice A5 k c5] by rw [List.drop_eq_nil_of_le (by omega)]; simp] at hk9
    have HR9 : Kp _ := ⟨hk9⟩
    have HO9 : Kp _ := ⟨ownS_only HO5.out ho9 (fun e => by have := ownS_low HO5.out _ e; have := HB5.out; omega)⟩
    refine hK.out _ _ (⟨hHeld.1.only ho9 (by omega), ⟨_, rfl, hk9⟩, hHeld.2.2.trans (ho9.below (by omega))⟩) (fun hHeld2 => ?_)
    clear hk9 ho9 he1 he2
    clear hK K hHeld
    have hHeld := hHeld2
    clear hHeld2
    try simp only [Act.put]
    refine wpAnyH_take (i := 14) (oi := ⟨some 3, _, _, _, _, _⟩) (v := ?_) rfl (by kernel_rfl) (by kernel_rfl) (by kernel_rfl) (fun _ _ _ h => h) (Or.inl ⟨by rfl, by intro w hSw; go_simp; try rfl⟩) (by assumption) ?_
    try simp only [Act.put, List.setIfInBounds_toArray, List.set_cons_zero, List.set_cons_succ]
    refine wpAnyH_take (i := 15) (oi := ⟨some 4, _, _, _, _, _⟩) (v := ?_) rfl (by kernel_rfl) (by kernel_rfl) (by kernel_rfl) (fun _ _ _ h => h) (Or.inl ⟨by rfl, by intro w hSw; go_simp; try rfl⟩) (by assumption) ?_
    try simp only [Act.put, List.setIfInBounds_toArray, List.set_cons_zero, List.set_cons_succ]
    refine wpAnyH_done (by kernel_rfl) ?_ _
    go_wp2
    refine bodyPost_ret (results_pt3 rfl Tryd.underlying25 rfl rfl HR9.out szPt) rfl ?_
    obtain ⟨e1, e2, e3, e4⟩ := last_yes HKl.out HYes.out b
    rw [e1, e2, e3, e4, ← HXe.out]
    obtain ⟨A7, c7, e7, hsp⟩ := Ss.of_own HO9.out (fun y hy => HOk.out y (List.mem_of_mem_take hy))
    cases e7
    exact ⟨A5, k, c5, rfl, hsp, by rw [HG.out.1]; exact hHeld.2.2⟩
theorem reflast_any (b : Bool) (A : Option Addr) (n c : Nat) (l : List Nm) (w : World) (L : Nat) (ha : Ss w L A n c l) (hL : L ≤ w.heap.size) (hn : n ≤ 8796093022208) :
    Calls Tryd.prog 16 #[.agg #[.bool b, .slice A n c]] w fun e w' => ∃ A' n' c', e = .returned (.tuple #[.agg #[.bool (lastB b l), .slice A' n' c'], .string ⟨(lastN l).toArray⟩, .int .i64 (lastE l)]) ∧ Ss w' w'.heap.size A' n' c' (lastL l) ∧ Below w.heap.size w w' := by
  have hx2 := box_two w [.bool b, .slice A n c] [.bool false, .slice none 0 0]
  have HA : Kp (∀ W, Below w.heap.size w W → Ss W L A n c l) := ⟨fun W h => ha.below (h.mono hL)⟩
  have HOk : Kp _ := ⟨ha.ok⟩
  have HX : Kp (l.length = n) := ⟨ha.len⟩
  have HCp : Kp (n ≤ c) := ⟨ha.cap⟩
  have hn63 := ha.le
  have H2 : Kp _ := ⟨hx2⟩
  have HLw : Kp (L ≤ w.heap.size) := ⟨hL⟩
  clear hx2 hL
  rcases Nat.eq_zero_or_pos n with h0 | h0
  · subst h0
    obtain rfl : l = [] := List.eq_nil_of_length_eq_zero HX.out
    clear ha
    go_enter Tryd.func16, Tryd.ntmps16
    go_wp2
    refine bodyPost_ret (results_pt3 rfl Tryd.underlying25 rfl rfl H2.out.2.1 szPt) rfl ?_
    exact ⟨none, 0, 0, rfl, Ss.zero _ _, H2.out.2.2⟩
  obtain ⟨k, hkn⟩ : ∃ k, n = k + 1 := ⟨n - 1, by omega⟩
  have hin : k < n := by omega
  have hkl : k < l.length := by rw [HX.out]; exact hin
  obtain ⟨b1, o1, rfl, hb1, hc0⟩ := ha.at hin
  obtain ⟨x, hx⟩ : ∃ x, x = l[k] := ⟨_, rfl⟩
  rw [← hx] at hc0
  have HKl : Kp (l.length = k + 1) := ⟨by rw [HX.out, hkn]⟩
  have HOL : Kp (okL l = !(x == dotsL)) := ⟨by rw [hx]; exact okL_at HKl.out⟩
  have HXe : Kp (x = l[k]) := ⟨hx⟩
  have hq1 : (n : Int) - 1 = (k : Int) := by omega
  have hq2 : IntKind.i64.wrap ((n : Int) - 1) = (k : Int) := by rw [hq1, IntKind.wrap_i64]; omega
  have hq3 : IntKind.i64.wrap (k : Int) = (k : Int) := by rw [IntKind.wrap_i64]; omega
  have hki : (k : Int) < (n : Int) := by omega
  have HC : Kp (∀ W, Below w.heap.size w W → W.cell? ⟨b1, o1 + k, none⟩ = some (.string ⟨x.toArray⟩)) := ⟨fun W h => (h.cell (p := ⟨b1, o1 + k, none⟩) (by have := HLw.out; show b1 < w.heap.size; omega)).trans hc0⟩
  have hc1 : (((w.alloc (.cells #[.bool b, .slice (some ⟨b1, o1, none⟩) n c] 25)).alloc (.cells #[.bool false, .slice none 0 0] 25))).cell? ⟨b1, o1 + k, none⟩ = some (.string ⟨x.toArray⟩) := HC.out _ H2.out.2.2
  have HN : Kp (n = k + 1 ∧ b1 < w.heap.size) := ⟨hkn, by have := HLw.out; omega⟩
  have heq := eqs_str x [46, 46]
  have hn0 : ¬ (n : Int) = 0 := by omega
  clear ha hx hkn hb1 hc0
  by_cases hd : x = [46, 46]
  · subst hd
    have HNo : Kp (okL l = false) := ⟨by rw [HOL.out]; rfl⟩
    clear heq hq2 hq3
    go_enter Tryd.func16, Tryd.ntmps16
    go_wp2
    obtain ⟨e1, e2, e3, e4⟩ := last_no HNo.out b
    refine bodyPost_ret (results_pt3 rfl Tryd.underlying25 rfl rfl H2.out.2.1 szPt) rfl ?_
    exact ⟨none, 0, 0, by rw [e1, e3, e4]; rfl, by rw [e2]; exact Ss.zero _ _, H2.out.2.2⟩
  · have HYes : Kp (okL l = true) := ⟨by
      rw [HOL.out]
      simp only [Bool.not_eq_true', beq_eq_false_iff_ne]
      exact hd⟩
    have hi3 : (x == [46, 46]) = false := by simpa using hd
    rw [hi3] at heq
    go_enter Tryd.func16, Tryd.ntmps16
    go_upto_region 4 with fail
    obtain ⟨w1, hw1⟩ : ∃ w1, w1 = (w.alloc (.cells #[.bool b, .slice (some ⟨b1, o1, none⟩) n c] 25)).alloc (.cells #[.bool false, .slice none 0 0] 25) := ⟨_, rfl⟩
    rw [← hw1]
    have HQ : Kp _ := ⟨H2.out⟩
    rw [← hw1] at HQ
    obtain ⟨G, hG⟩ : ∃ G, G = w.heap.size := ⟨_, rfl⟩
    rw [← hG] at HQ ⊢
    have HG : Kp (w.heap.size = G ∧ G + 1 < w1.heap.size) := ⟨hG.symm, HQ.out.2.1.lt⟩
    have hkc : k ≤ c := by have := HCp.out; omega
    have hc0 : 0 < c := by have := HCp.out; omega
    clear hw1 H2 hG hc1 heq hi3 hd hn0
    refine wp_region_held_drew (S := fun WW => Blk WW G 25 [.bool b, .slice (some ⟨b1, o1, none⟩) n c] ∧ (∃ es, es.length = 2 ∧ Blk WW (G + 1) 25 es) ∧ Below G w WW) (by kernel_rfl) (⟨HQ.out.1.drew, ⟨_, rfl, HQ.out.2.1.drew⟩, HQ.out.2.2.drew⟩) (fun hHeld => ?_)
    generalize w1.drew = wS at *
    refine wpAnyH_take (i := 0) (oi := ⟨some 21, _, _, _, _, _⟩) (v := ?_) rfl (by kernel_rfl) (by kernel_rfl) (by kernel_rfl) (fun _ _ _ h => h) (Or.inl ⟨by rfl, by intro w hSw; go_simp; try rfl⟩) (by assumption) ?_
    try simp only [Act.put, List.setIfInBounds_toArray, List.set_cons_zero, List.set_cons_succ]
    refine wpAnyH_take (i := 1) (oi := ⟨some 22, _, _, _, _, _⟩) (v := _) rfl (by kernel_rfl) (by kernel_rfl) (by kernel_rfl) (fun _ _ _ h => h) (yieldsIf_ldB rfl _ rfl rfl b (fun W h => h.1.cell? 0)) (by assumption) ?_
    try simp only [Act.put, List.setIfInBounds_toArray, List.set_cons_zero, List.set_cons_succ]
    refine wpAnyH_take (i := 2) (oi := ⟨some 23, _, _, _, _, _⟩) (v := ?_) rfl (by kernel_rfl) (by kernel_rfl) (by kernel_rfl) (fun _ _ _ h => h) (Or.inl ⟨by rfl, by intro w hSw; go_simp; try rfl⟩) (by assumption) ?_
    try simp only [Act.put, List.setIfInBounds_toArray, List.set_cons_zero, List.set_cons_succ]
    refine wpAnyH_take (i := 3) (oi := ⟨some 24, _, _, _, _, _⟩) (v := _) rfl (by kernel_rfl) (by kernel_rfl) (by kernel_rfl) (fun _ _ _ h => h) (yieldsIf_ldL rfl _ rfl rfl (some ⟨b1, o1, none⟩) n c (fun W h => h.1.cell? 1)) (by assumption) ?_
    try simp only [Act.put, List.setIfInBounds_toArray, List.set_cons_zero, List.set_cons_succ]
    refine wpAnyH_take (i := 4) (oi := ⟨some 25, _, _, _, _, _⟩) (v := ?_) rfl (by kernel_rfl) (by kernel_rfl) (by kernel_rfl) (fun _ _ _ h => h) (Or.inl ⟨by rfl, by intro w hSw; go_simp; try rfl⟩) (by assumption) ?_
    try simp only [Act.put, List.setIfInBounds_toArray, List.set_cons_zero, List.set_cons_succ]
    refine wpAnyH_take (i := 5) (oi := ⟨some 26, _, _, _, _, _⟩) (v := ?_) rfl (by kernel_rfl) (by kernel_rfl) (by kernel_rfl) (fun _ _ _ h => h) (Or.inl ⟨by rfl, by intro w hSw; go_simp; try rfl⟩) (by assumption) ?_
    try simp only [Act.put, List.setIfInBounds_toArray, List.set_cons_zero, List.set_cons_succ]
    refine wpAnyH_take (i := 6) (oi := ⟨some 27, _, _, _, _, _⟩) (v := _) rfl (by kernel_rfl) (by kernel_rfl) (by kernel_rfl) (fun _ _ _ h => h) (yieldsIf_cutSt rfl _ _ rfl rfl rfl hkc) (by assumption) ?_
    try simp only [Act.put, List.setIfInBounds_toArray, List.set_cons_zero, List.set_cons_succ]
    refine wpAnyH_take (i := 7) (oi := ⟨some 28, _, _, _, _, _⟩) (v := _) rfl (by kernel_rfl) (by kernel_rfl) (by kernel_rfl) (fun _ _ _ h => h) (yieldsIf_build2 rfl 0 1 _ _ rfl rfl rfl (cs := [.bool b, .slice (some ⟨b1, o1, none⟩) k c]) (built_pt2 b (some ⟨b1, o1, none⟩) k c)) (by assumption) ?_
    try simp only [Act.put, List.setIfInBounds_toArray, List.set_cons_zero, List.set_cons_succ]
    refine wpAnyH_take (i := 8) (oi := ⟨some 29, _, _, _, _, _⟩) (v := ?_) rfl (by kernel_rfl) (by kernel_rfl) (by kernel_rfl) (fun _ _ _ h => h) (Or.inl ⟨by rfl, by intro w hSw; go_simp; try rfl⟩) (by assumption) ?_
    try simp only [Act.put, List.setIfInBounds_toArray, List.set_cons_zero, List.set_cons_succ]
    refine wpAnyH_take (i := 9) (oi := ⟨some 30, _, _, _, _, _⟩) (v := _) rfl (by kernel_rfl) (by kernel_rfl) (by kernel_rfl) (fun _ _ _ h => h) (yieldsIf_ldL rfl _ rfl rfl (some ⟨b1, o1, none⟩) n c (fun W h => h.1.cell? 1)) (by assumption) ?_
    try simp only [Act.put, List.setIfInBounds_toArray, List.set_cons_zero, List.set_cons_succ]
    refine wpAnyH_take (i := 10) (oi := ⟨some 31, _, _, _, _, _⟩) (v := ?_) rfl (by kernel_rfl) (by kernel_rfl) (by kernel_rfl) (fun _ _ _ h => h) (Or.inl ⟨by rfl, by intro w hSw; go_simp; try rfl⟩) (by assumption) ?_
    try simp only [Act.put, List.setIfInBounds_toArray, List.set_cons_zero, List.set_cons_succ]
    refine wpAnyH_take (i := 11) (oi := ⟨some 32, _, _, _, _, _⟩) (v := ?_) rfl (by kernel_rfl) (by kernel_rfl) (by kernel_rfl) (fun _ _ _ h => h) (Or.inl ⟨by rfl, by intro w hSw; go_simp; try rfl⟩) (by assumption) ?_
    try simp only [Act.put, List.setIfInBounds_toArray, List.set_cons_zero, List.set_cons_succ]
    refine wpAnyH_take (i := 12) (oi := ⟨some 33, _, _, _, _, _⟩) (v := ?_) rfl (by kernel_rfl) (by kernel_rfl) (by kernel_rfl) (fun _ _ _ h => h) (Or.inl ⟨by rfl, by intro w hSw; go_simp; try rfl⟩) (by assumption) ?_
    try simp only [Act.put, List.setIfInBounds_toArray, List.set_cons_zero, List.set_cons_succ]
    refine wpAnyH_take (i := 13) (oi := ⟨some 34, _, _, _, _, _⟩) (v := _) rfl (by kernel_rfl) (by kernel_rfl) (by kernel_rfl) (fun _ _ _ h => h) (yieldsIf_ldS rfl _ rfl rfl ⟨x.toArray⟩ (fun W h => HC.out W (by rw [HG.out.1]; exact h.2.2))) (by assumption) ?_
    try simp only [Act.put, List.setIfInBounds_toArray, List.set_cons_zero, List.set_cons_succ]
    refine wpAnyH_ready (rs := [14]) (by kernel_rfl) (by simp) ?_
    refine AllReadyH.cons (o := ⟨none, _, _, _, _, _⟩) rfl (fun K hK => ?_) AllReadyH.nil
    obtain ⟨es, he1, he2⟩ := hHeld.2.1
    refine step_store rwPt rfl (.tmp 2) (.tmp 28) rfl rfl rfl he2 rfl (by rw [he1]; exact Nat.le_refl 2) (one_pt b (some ⟨b1, o1, none⟩) k c) ?_
    intro w51 hk9 ho9
    rw [show es.take 0 ++ [Value.bool b, .slice (some ⟨b1, o1, none⟩) k c] ++ es.drop (0 + 2) = [Value.bool b, .slice (some ⟨b1, o1, none⟩) k c] by rw [List.drop_eq_nil_of_le (by omega)]; simp] at hk9
    have HR9 : Kp _ := ⟨hk9⟩
    refine hK.out _ _ (⟨hHeld.1.only ho9 (by omega), ⟨_, rfl, hk9⟩, hHeld.2.2.trans (ho9.below (by omega))⟩) (fun hHeld2 => ?_)
    clear hk9 ho9 he1 he2
    clear hK K hHeld
    have hHeld := hHeld2
    clear hHeld2
    try simp only [Act.put]
    refine wpAnyH_take (i := 15) (oi := ⟨some 3, _, _, _, _, _⟩) (v := ?_) rfl (by kernel_rfl) (by kernel_rfl) (by kernel_rfl) (fun _ _ _ h => h) (Or.inl ⟨by rfl, by intro w hSw; go_simp; try rfl⟩) (by assumption) ?_
    try simp only [Act.put, List.setIfInBounds_toArray, List.set_cons_zero, List.set_cons_succ]
    refine wpAnyH_take (i := 16) (oi := ⟨some 4, _, _, _, _, _⟩) (v := ?_) rfl (by kernel_rfl) (by kernel_rfl) (by kernel_rfl) (fun _ _ _ h => h) (Or.inl ⟨by rfl, by intro w hSw; go_simp; try rfl⟩) (by assumption) ?_
    try simp only [Act.put, List.setIfInBounds_toArray, List.set_cons_zero, List.set_cons_succ]
    refine wpAnyH_done (by kernel_rfl) ?_ _
    go_wp2
    refine bodyPost_ret (results_pt3 rfl Tryd.underlying25 rfl rfl HR9.out szPt) rfl ?_
    obtain ⟨e1, e2, e3, e4⟩ := last_yes HKl.out HYes.out b
    rw [e1, e2, e3, e4, ← HXe.out]
    exact ⟨_, k, c, rfl, ((HA.out _ (by rw [HG.out.1]; exact hHeld.2.2)).upto (by have := HN.out.1; omega)).more (by have h1 := HLw.out; have h2 := hHeld.2.2.size; have h3 := HG.out.1; omega), by rw [HG.out.1]; exact hHeld.2.2⟩

end
end Go.Proofs.YtaedlaeflliibaaDoor
