/- The contracts of Find, Put, Drop. -/
import Derived.Test.YtaedlaeflliibaaEnH
namespace Go.Proofs.Ytaedlaeflliibaa
open Go.RowKit Go.Deep

theorem placeE_no {l : List En} {n : List UInt8} (h : hasE l n = false) : placeE l n = (aboveE l n, false) := by unfold placeE; rw [h]; rfl
theorem placeE_yes {l : List En} {n : List UInt8} (h : hasE l n = true) : placeE l n = (idxE l n, true) := by unfold placeE; rw [h]; rfl
set_option maxHeartbeats 1000000 in
theorem find_any (A : Option Addr) (n c : Nat) (l : List En) (nm : List UInt8) (w : World) (ha : Ens w w.heap.size A n c l) (hn : n ≤ 5864062014805) :
    Calls Try.prog 19 #[.slice A n c, .string ⟨nm.toArray⟩] w fun e w' => e = .returned (.tuple #[.int .i64 (findE l nm).1, .bool (findE l nm).2]) ∧ Below w.heap.size w w' := by
  have HI : Kp _ := ⟨ha⟩
  have HL : Kp _ := ⟨ha.len⟩
  have HC : Kp _ := ⟨place_any A n c l nm w ha hn⟩
  obtain ⟨f, hf⟩ : ∃ f, f = findE l nm := ⟨_, rfl⟩
  rw [← hf]
  clear ha
  cases hq : hasE l nm with
  | false =>
    rw [placeE_no hq] at HC
    have HF : Kp (f = (0, false)) := ⟨by rw [hf]; unfold findE; rw [hq]; rfl⟩
    clear hf
    go_enter Try.func19, Try.ntmps19
    go_wp2_with (go_at_call 37; refine HC.out.mono ?_; rintro e w2 ⟨rfl, hb2⟩)
    go_wp2
    go_ret2
    exact ⟨by rw [HF.out]; rfl, hb2⟩
  | true =>
    rw [placeE_yes hq] at HC
    have hi := idxE_lt.2 hq
    have HF : Kp (f = (l[idxE l nm].2, true)) := ⟨by rw [hf]; unfold findE; rw [if_pos hq, List.getD_eq_getElem?_getD, List.getElem?_eq_getElem hi]; rfl⟩
    have hin : idxE l nm < n := by rw [HL.out] at hi; exact hi
    obtain ⟨b1, o1, rfl, hlt, c0, c1⟩ := HI.out.at hin
    have HC1 : Kp _ := ⟨c1⟩
    generalize (l[idxE l nm]'(by have := HL.out; omega)).2 = z at *
    generalize idxE l nm = k at *
    clear hf c0 c1
    go_enter Try.func19, Try.ntmps19
    go_wp2_with (go_at_call 37; refine HC.out.mono ?_; rintro e w2 ⟨rfl, hb2⟩; have c2 := (hb2.cell (p := ⟨b1, o1 + k * 2 + 1, none⟩) hlt).trans HC1.out)
    go_wp2
    go_ret2
    exact ⟨by rw [HF.out]; rfl, hb2⟩
set_option maxRecDepth 100000 in
set_option maxHeartbeats 2000000 in
theorem drop_any (A : Option Addr) (n c : Nat) (l : List En) (nm : List UInt8) (w : World) (ha : Ens w w.heap.size A n c l) (hn : n ≤ 5864062014805) :
    Calls Try.prog 23 #[.slice A n c, .string ⟨nm.toArray⟩] w fun e w' => ∃ A' n' c', e = .returned (.tuple #[.slice A' n' c', .bool (hasE l nm)]) ∧ Ens w' w'.heap.size A' n' c' (dropE l nm) ∧ Below w.heap.size w w' := by
  have HI : Kp _ := ⟨ha⟩
  have HL : Kp _ := ⟨ha.len⟩
  have hcap := ha.cap
  have HC : Kp _ := ⟨place_any A n c l nm w ha hn⟩
  have hle := ha.le
  clear ha
  cases hq : hasE l nm with
  | false =>
    rw [placeE_no hq] at HC
    have HD : Kp _ := ⟨dropE_none hq⟩
    rw [HD.out]
    go_enter Try.func23, Try.ntmps23
    go_wp2_with (go_at_call 37; refine HC.out.mono ?_; rintro e w2 ⟨rfl, hb2⟩)
    have HB2 : Kp _ := ⟨hb2⟩
    have HI2 : Kp _ := ⟨HI.out.next hb2 (Nat.le_refl _)⟩
    clear hb2
    go_wp2_with (go_at_call 40; refine (cloneE_any A n c l _ HI2.out hn).mono ?_; rintro e w3 ⟨v3, rfl, hown, hb3⟩)
    obtain ⟨A3, c3, rfl, h3⟩ := Ens.of_own hown HI.out.ok
    have H3 : Kp _ := ⟨h3⟩
    have HB3 : Kp (Below w.heap.size w w3) := ⟨HB2.out.trans (hb3.mono HB2.out.size)⟩
    clear hown hb3 h3
    go_wp2
    go_ret2
    exact ⟨_, _, _, rfl, H3.out, HB3.out⟩
  | true =>
    rw [placeE_yes hq] at HC
    have hi := idxE_lt.2 hq
    have hin : idxE l nm < n := by rw [HL.out] at hi; exact hi
    have HD : Kp (dropE l nm = [l.take (idxE l nm), l.drop (idxE l nm + 1)].flatten) := ⟨by simp [dropE]⟩
    have HDl : Kp ([l.take (idxE l nm), l.drop (idxE l nm + 1)].flatten.length ≤ 5864062014805) := ⟨by have := HL.out; simp; omega⟩
    rw [HD.out]
    have HOk : Kp (∀ x ∈ [l.take (idxE l nm), l.drop (idxE l nm + 1)].flatten, EnOk x) := ⟨fun x hx => by
      rw [List.flatten_cons, List.flatten_cons, List.flatten_nil, List.append_nil] at hx
      rcases List.mem_append.1 hx with h | h
      · exact HI.out.ok x (List.mem_of_mem_take h)
      · exact HI.out.ok x (List.mem_of_mem_drop h)⟩
    have H1 : Kp (∀ W, Below w.heap.size w W → Ens W W.heap.size A (idxE l nm) c (l.take (idxE l nm))) := ⟨fun W hb => (HI.out.next hb (Nat.le_refl _)).upto (by omega)⟩
    obtain ⟨r, hr⟩ : ∃ r, r = idxE l nm + 1 := ⟨_, rfl⟩
    obtain ⟨A2, hA2⟩ : ∃ A2, A2 = fromA A c r := ⟨_, rfl⟩
    obtain ⟨n2, hn2⟩ : ∃ n2, n2 = n - r := ⟨_, rfl⟩
    obtain ⟨c2, hc2⟩ : ∃ c2, c2 = c - r := ⟨_, rfl⟩
    have H2 : Kp (∀ W, Below w.heap.size w W → Ens W W.heap.size A2 n2 c2 (l.drop r)) := ⟨fun W hb => by
      rw [hA2, hn2, hc2]; exact (HI.out.next hb (Nat.le_refl _)).tail (by omega)⟩
    rw [← hr] at HD HDl HOk ⊢
    obtain ⟨i, hii, _, hs2, _⟩ := infE
    generalize idxE l nm = k at *
    have HR : Kp _ := ⟨hr⟩
    have w1 : IntKind.i64.wrap ((k : Int) + 1) = (r : Int) := by rw [IntKind.wrap_i64]; omega
    have hrn : r ≤ n := by omega
    have HA2 : Kp _ := ⟨hA2⟩
    have HN2 : Kp _ := ⟨hn2⟩
    have HC2 : Kp _ := ⟨hc2⟩
    clear hi hA2 hn2 hc2 hr
    go_enter Try.func23, Try.ntmps23
    go_wp2_with (go_at_call 37; refine HC.out.mono ?_; rintro e w2 ⟨rfl, hb2⟩)
    have HB2 : Kp _ := ⟨hb2⟩
    clear hb2
    have HB2' : Kp (∀ W, Below w2.heap.size w2 W → Below w.heap.size w W) := ⟨fun W hW => HB2.out.trans (hW.mono HB2.out.size)⟩
    refine wp_region_held_drew (S := fun W => Below w2.heap.size w2 W) (by kernel_rfl) ((Below.refl _ _).drew) (fun hHeld => ?_)
    generalize w2.drew = wS at *
    refine wpAnyH_take (i := 0) (oi := ⟨some 18, _, _, _, _, _⟩) (v := ?_) rfl (by kernel_rfl) (by kernel_rfl) (by kernel_rfl) (fun _ _ _ h => h) (Or.inl ⟨by rfl, by intro w hSw; go_simp; try rfl⟩) (by assumption) ?_
    try simp only [Act.put, List.setIfInBounds_toArray, List.set_cons_zero, List.set_cons_succ]
    refine wpAnyH_take (i := 1) (oi := ⟨some 19, _, _, _, _, _⟩) (v := ?_) rfl (by kernel_rfl) (by kernel_rfl) (by kernel_rfl) (fun _ _ _ h => h) (Or.inl ⟨by rfl, by intro w hSw; go_simp; try rfl⟩) (by assumption) ?_
    try simp only [Act.put, List.setIfInBounds_toArray, List.set_cons_zero, List.set_cons_succ]
    refine wpAnyH_take (i := 2) (oi := ⟨some 20, _, _, _, _, _⟩) (v := _) rfl (by kernel_rfl) (by kernel_rfl) (by kernel_rfl) (fun _ _ _ h => h) (yieldsIf_cut2_h (by rfl) Try.underlying22 hii hs2 (.tmp 18) (.tmp 19) rfl rfl rfl k rfl (by omega)) (by assumption) ?_
    try simp only [Act.put, List.setIfInBounds_toArray, List.set_cons_zero, List.set_cons_succ]
    refine wpAnyH_take (i := 3) (oi := ⟨some 21, _, _, _, _, _⟩) (v := ?_) rfl (by kernel_rfl) (by kernel_rfl) (by kernel_rfl) (fun _ _ _ h => h) (Or.inl ⟨by rfl, by intro w hSw; go_simp; try rfl⟩) (by assumption) ?_
    try simp only [Act.put, List.setIfInBounds_toArray, List.set_cons_zero, List.set_cons_succ]
    refine wpAnyH_take (i := 4) (oi := ⟨some 22, _, _, _, _, _⟩) (v := ?_) rfl (by kernel_rfl) (by kernel_rfl) (by kernel_rfl) (fun _ _ _ h => h) (Or.inl ⟨by rfl, by intro w hSw; go_simp; try rfl⟩) (by assumption) ?_
    try simp only [Act.put, List.setIfInBounds_toArray, List.set_cons_zero, List.set_cons_succ]
    refine wpAnyH_take (i := 5) (oi := ⟨some 23, _, _, _, _, _⟩) (v := ?_) rfl (by kernel_rfl) (by kernel_rfl) (by kernel_rfl) (fun _ _ _ h => h) (Or.inl ⟨by rfl, by intro w hSw; go_simp; try rfl⟩) (by assumption) ?_
    try simp only [Act.put, List.setIfInBounds_toArray, List.set_cons_zero, List.set_cons_succ]
    refine wpAnyH_take (i := 6) (oi := ⟨some 24, _, _, _, _, _⟩) (v := _) rfl (by kernel_rfl) (by kernel_rfl) (by kernel_rfl) (fun _ _ _ h => h) (yieldsIf_cut2_l (by rfl) Try.underlying22 hii hs2 (.tmp 21) (.tmp 23) rfl rfl rfl r rfl (by omega) (A' := A2) (n' := n2) (c' := c2) HA2.out.symm HN2.out.symm HC2.out.symm) (by assumption) ?_
    try simp only [Act.put, List.setIfInBounds_toArray, List.set_cons_zero, List.set_cons_succ]
    refine wpAnyH_ready (rs := [7]) (by kernel_rfl) (by simp) ?_
    refine AllReadyH.cons (o := ⟨some 25, _, _, _, _, _⟩) rfl (fun K hK => ?_) AllReadyH.nil
    go_simp
    have LS : Kp _ := ⟨enss_two wS 22 (H1.out _ (HB2'.out _ hHeld)) (H2.out _ (HB2'.out _ hHeld))⟩
    refine hK.out _ _ (hHeld.alloc hHeld.size _) (fun hHeld2 => ?_)
    clear hK K hHeld
    have hHeld := hHeld2
    clear hHeld2
    generalize (wS).alloc (.cells #[.slice A k c, .slice A2 n2 c2] 22) = w51 at *
    try simp only [Act.put, List.setIfInBounds_toArray, List.set_cons_zero, List.set_cons_succ]
    refine wpAnyH_ready (rs := [8]) (by kernel_rfl) (by simp) ?_
    refine AllReadyH.cons (o := ⟨some 26, _, _, _, _, _⟩) rfl (fun K hK => ?_) AllReadyH.nil
    go_simp
    refine (concatE_any _ 2 2 _ w51 LS.out HDl.out).mono ?_
    rintro e w52 ⟨v9, rfl, hown9, hb'⟩
    clear LS
    refine hK.out _ _ (hHeld.trans (hb'.mono hHeld.size)) (fun hHeld2 => ?_)
    clear hK K hHeld
    have hHeld := hHeld2
    clear hHeld2
    try simp only [Act.put, List.setIfInBounds_toArray, List.set_cons_zero, List.set_cons_succ]
    refine wpAnyH_take (i := 9) (oi := ⟨some 4, _, _, _, _, _⟩) (v := ?_) rfl (by kernel_rfl) (by kernel_rfl) (by kernel_rfl) (fun _ _ _ h => h) (Or.inl ⟨by rfl, by intro w hSw; go_simp; try rfl⟩) (by assumption) ?_
    try simp only [Act.put, List.setIfInBounds_toArray, List.set_cons_zero, List.set_cons_succ]
    refine wpAnyH_take (i := 10) (oi := ⟨some 5, _, _, _, _, _⟩) (v := ?_) rfl (by kernel_rfl) (by kernel_rfl) (by kernel_rfl) (fun _ _ _ h => h) (Or.inl ⟨by rfl, by intro w hSw; go_simp; try rfl⟩) (by assumption) ?_
    try simp only [Act.put, List.setIfInBounds_toArray, List.set_cons_zero, List.set_cons_succ]
    refine wpAnyH_done (by kernel_rfl) ?_ _
    go_wp2
    obtain ⟨A9, c9, rfl, h9⟩ := Ens.of_own hown9 HOk.out
    go_ret2
    exact ⟨_, _, _, rfl, h9, HB2'.out _ hHeld⟩
set_option maxRecDepth 100000 in
set_option maxHeartbeats 2000000 in
theorem put_any_en (A : Option Addr) (n c : Nat) (l : List En) (nm : List UInt8) (z : Int) (w : World) (ha : Ens w w.heap.size A n c l) (hn : n ≤ 5864062014804) (hx : EnOk (nm, z)) :
    Calls Try.prog 21 #[.slice A n c, .agg (enOne (nm, z)).toArray] w fun e w' => ∃ A' n' c', e = .returned (.tuple #[.slice A' n' c', .int .i64 (putC l (nm, z))]) ∧ Ens w' w'.heap.size A' n' c' (putR l (nm, z)) ∧ Below w.heap.size w w' := by
  have HI : Kp _ := ⟨ha⟩
  have HL : Kp _ := ⟨ha.len⟩
  have HX : Kp _ := ⟨hx⟩
  have hcap := ha.cap
  have hle := ha.le
  have HC : Kp (∀ W, Below w.heap.size w W → Calls Try.prog 37 #[.slice A n c, .string ⟨nm.toArray⟩] W fun e w' => e = .returned (.tuple #[.int .i64 ((placeE l nm).1 : Nat), .bool (placeE l nm).2]) ∧ Below W.heap.size W w') := ⟨fun W hb => place_any A n c l nm W (ha.next hb (Nat.le_refl _)) (by omega)⟩
  have HN : Kp (∀ W, Calls Try.prog 25 #[.string ⟨nm.toArray⟩] W fun e w' => e = .returned (.bool (okNm nm)) ∧ Below W.heap.size W w') := ⟨fun W => named_any nm W hx.len⟩
  clear ha hx
  cases hq1 : okNm nm with
  | false =>
    rw [hq1] at HN
    have HP : Kp (putC l (nm, z) = 11 ∧ putR l (nm, z) = []) := ⟨by unfold putC putR; simp only [hq1]; exact ⟨rfl, rfl⟩⟩
    rw [HP.out.1, HP.out.2]
    go_enter Try.func21, Try.ntmps21
    go_wp2_with (with_reducible refine wpList_box (o := ⟨some 3, _, _, _, _, _⟩) (cs := enOne (nm, z)) rfl (.tmp 1) rfl rfl ?_)
    intro w1 hk1 hb1 hs1
    have HB1 : Kp _ := ⟨hb1⟩
    have HK1 : Kp _ := ⟨hk1⟩
    have c0 : w1.cell? ⟨w.heap.size, 0, none⟩ = some (.string ⟨nm.toArray⟩) := hk1.cell? 0
    clear hk1 hb1 hs1
    go_wp2_with (go_at_call 25; refine (HN.out _).mono ?_; rintro e w2 ⟨rfl, hb2⟩)
    have HB2 : Kp (Below w.heap.size w w2) := ⟨HB1.out.trans (hb2.mono HB1.out.size)⟩
    go_wp2
    go_ret2
    exact ⟨none, 0, 0, rfl, Ens.zero _ _, HB2.out⟩
  | true =>
    rw [hq1] at HN
    cases hq : hasE l nm with
    | true =>
      rw [placeE_yes hq] at HC
      have HP : Kp (putC l (nm, z) = 13 ∧ putR l (nm, z) = []) := ⟨by unfold putC putR; simp only [hq1, hq]; exact ⟨rfl, rfl⟩⟩
      rw [HP.out.1, HP.out.2]
      go_enter Try.func21, Try.ntmps21
      go_wp2_with (with_reducible refine wpList_box (o := ⟨some 3, _, _, _, _, _⟩) (cs := enOne (nm, z)) rfl (.tmp 1) rfl rfl ?_)
      intro w1 hk1 hb1 hs1
      have HB1 : Kp _ := ⟨hb1⟩
      have HK1 : Kp _ := ⟨hk1⟩
      have c0 : w1.cell? ⟨w.heap.size, 0, none⟩ = some (.string ⟨nm.toArray⟩) := hk1.cell? 0
      clear hk1 hb1 hs1
      go_wp2_with (go_at_call 25; refine (HN.out _).mono ?_; rintro e w2 ⟨rfl, hb2⟩; have c2 : w2.cell? ⟨w.heap.size, 0, none⟩ = some (.string ⟨nm.toArray⟩) := (HK1.out.below hb2 HK1.out.lt).cell? 0)
      have HB2 : Kp (Below w.heap.size w w2) := ⟨HB1.out.trans (hb2.mono HB1.out.size)⟩
      go_wp2_with (go_at_call 37; refine (HC.out _ HB2.out).mono ?_; rintro e w3 ⟨rfl, hb3⟩)
      have HB3 : Kp (Below w.heap.size w w3) := ⟨HB2.out.trans (hb3.mono HB2.out.size)⟩
      go_wp2
      go_ret2
      exact ⟨none, 0, 0, rfl, Ens.zero _ _, HB3.out⟩
    | false =>
      rw [placeE_no hq] at HC
      have hi := aboveE_le l nm
      have HP : Kp (putC l (nm, z) = 0 ∧ putR l (nm, z) = [l.take (aboveE l nm), [(nm, z)], l.drop (aboveE l nm)].flatten) := ⟨by unfold putC putR; simp only [hq1, hq]; exact ⟨rfl, by simp [putE]⟩⟩
      have HDl : Kp ([l.take (aboveE l nm), [(nm, z)], l.drop (aboveE l nm)].flatten.length ≤ 5864062014805) := ⟨by have := HL.out; simp; omega⟩
      have HOk : Kp (∀ x ∈ [l.take (aboveE l nm), [(nm, z)], l.drop (aboveE l nm)].flatten, EnOk x) := ⟨fun x hx => by
        simp only [List.flatten_cons, List.flatten_nil, List.append_nil] at hx
        rcases List.mem_append.1 hx with h | h
        · exact HI.out.ok x (List.mem_of_mem_take h)
        · rcases List.mem_append.1 h with h | h
          · rw [List.mem_singleton.1 h]; exact HX.out
          · exact HI.out.ok x (List.mem_of_mem_drop h)⟩
      rw [HP.out.1, HP.out.2]
      have hin : aboveE l nm ≤ n := by rw [HL.out] at hi; exact hi
      have H1 : Kp (∀ W, Below w.heap.size w W → Ens W W.heap.size A (aboveE l nm) c (l.take (aboveE l nm))) := ⟨fun W hb => (HI.out.next hb (Nat.le_refl _)).upto (by omega)⟩
      obtain ⟨A2, hA2⟩ : ∃ A2, A2 = fromA A c (aboveE l nm) := ⟨_, rfl⟩
      obtain ⟨n2, hn2⟩ : ∃ n2, n2 = n - aboveE l nm := ⟨_, rfl⟩
      obtain ⟨c2, hc2⟩ : ∃ c2, c2 = c - aboveE l nm := ⟨_, rfl⟩
      have H2 : Kp (∀ W, Below w.heap.size w W → Ens W W.heap.size A2 n2 c2 (l.drop (aboveE l nm))) := ⟨fun W hb => by
        rw [hA2, hn2, hc2]; exact (HI.out.next hb (Nat.le_refl _)).tail (by omega)⟩
      obtain ⟨i, hii, _, hs2, _⟩ := infE
      generalize aboveE l nm = k at *
      have HA2 : Kp _ := ⟨hA2⟩
      have HN2 : Kp _ := ⟨hn2⟩
      have HC2 : Kp _ := ⟨hc2⟩
      clear hi hA2 hn2 hc2 HP
      go_enter Try.func21, Try.ntmps21
      go_wp2_with (with_reducible refine wpList_box (o := ⟨some 3, _, _, _, _, _⟩) (cs := enOne (nm, z)) rfl (.tmp 1) rfl rfl ?_)
      intro w1 hk1 hb1 hs1
      have HB1 : Kp _ := ⟨hb1⟩
      have HK1 : Kp _ := ⟨hk1⟩
      have c0 : w1.cell? ⟨w.heap.size, 0, none⟩ = some (.string ⟨nm.toArray⟩) := hk1.cell? 0
      clear hk1 hb1 hs1
      go_wp2_with (go_at_call 25; refine (HN.out _).mono ?_; rintro e w2 ⟨rfl, hb2⟩; have c2' : w2.cell? ⟨w.heap.size, 0, none⟩ = some (.string ⟨nm.toArray⟩) := (HK1.out.below hb2 HK1.out.lt).cell? 0)
      have HB2 : Kp (Below w.heap.size w w2) := ⟨HB1.out.trans (hb2.mono HB1.out.size)⟩
      have HK2 : Kp _ := ⟨HK1.out.below hb2 HK1.out.lt⟩
      clear hb2
      go_wp2_with (go_at_call 37; refine (HC.out _ HB2.out).mono ?_; rintro e w3 ⟨rfl, hb3⟩)
      have HB3 : Kp (Below w.heap.size w w3) := ⟨HB2.out.trans (hb3.mono HB2.out.size)⟩
      have HK3 : Kp _ := ⟨HK2.out.below hb3 HK2.out.lt⟩
      clear hb3 c2'
      have HRG3 : Kp (w3.rangeAt w.heap.size 0 (enOne (nm, z))) := ⟨HK3.out.range (n := 2) rfl⟩
      obtain ⟨g, hg⟩ : ∃ g, g = w.heap.size := ⟨_, rfl⟩
      have hgl : g < w3.heap.size := by rw [hg]; exact HK3.out.lt
      have HB3' : Kp (∀ W, Below w3.heap.size w3 W → Below w.heap.size w W) := ⟨fun W hW => HB3.out.trans (hW.mono HB3.out.size)⟩
      have huE := rwEn.ty
      have hiE : ((Try.prog).info? 39).map (·.size) = some (enOne (nm, z)).length := rwEn.size
      clear HK1 HK2 HK3
      rw [← hg] at HRG3
      simp only [← hg]
      refine wp_region_held_drew (S := fun W => Below w3.heap.size w3 W ∧ W.rangeAt g 0 (enOne (nm, z))) (by kernel_rfl) (⟨(Below.refl _ _).drew, HRG3.out⟩) (fun hHeld => ?_)
      generalize w3.drew = wS at *
      refine wpAnyH_take (i := 0) (oi := ⟨some 20, _, _, _, _, _⟩) (v := ?_) rfl (by kernel_rfl) (by kernel_rfl) (by kernel_rfl) (fun _ _ _ h => h) (Or.inl ⟨by rfl, by intro w hSw; go_simp; try rfl⟩) (by assumption) ?_
      try simp only [Act.put, List.setIfInBounds_toArray, List.set_cons_zero, List.set_cons_succ]
      refine wpAnyH_take (i := 1) (oi := ⟨some 21, _, _, _, _, _⟩) (v := ?_) rfl (by kernel_rfl) (by kernel_rfl) (by kernel_rfl) (fun _ _ _ h => h) (Or.inl ⟨by rfl, by intro w hSw; go_simp; try rfl⟩) (by assumption) ?_
      try simp only [Act.put, List.setIfInBounds_toArray, List.set_cons_zero, List.set_cons_succ]
      refine wpAnyH_take (i := 2) (oi := ⟨some 22, _, _, _, _, _⟩) (v := _) rfl (by kernel_rfl) (by kernel_rfl) (by kernel_rfl) (fun _ _ _ h => h) (yieldsIf_cut2_h (by rfl) Try.underlying22 hii hs2 (.tmp 20) (.tmp 21) rfl rfl rfl k rfl (by omega)) (by assumption) ?_
      try simp only [Act.put, List.setIfInBounds_toArray, List.set_cons_zero, List.set_cons_succ]
      refine wpAnyH_take (i := 3) (oi := ⟨some 23, _, _, _, _, _⟩) (v := _) rfl (by kernel_rfl) (by kernel_rfl) (by kernel_rfl) (fun _ _ _ h => h) (yieldsIf_load_mid (by rfl) _ (.tmp 3) rfl _ _ rfl (enOne (nm, z)) _ (fun W hW => hW.2) huE rfl hiE) (by assumption) ?_
      try simp only [Act.put, List.setIfInBounds_toArray, List.set_cons_zero, List.set_cons_succ]
      refine wpAnyH_take (i := 5) (oi := ⟨some 25, _, _, _, _, _⟩) (v := ?_) rfl (by kernel_rfl) (by kernel_rfl) (by kernel_rfl) (fun _ _ _ h => h) (Or.inl ⟨by rfl, by intro w hSw; go_simp; try rfl⟩) (by assumption) ?_
      try simp only [Act.put, List.setIfInBounds_toArray, List.set_cons_zero, List.set_cons_succ]
      refine wpAnyH_take (i := 6) (oi := ⟨some 26, _, _, _, _, _⟩) (v := ?_) rfl (by kernel_rfl) (by kernel_rfl) (by kernel_rfl) (fun _ _ _ h => h) (Or.inl ⟨by rfl, by intro w hSw; go_simp; try rfl⟩) (by assumption) ?_
      try simp only [Act.put, List.setIfInBounds_toArray, List.set_cons_zero, List.set_cons_succ]
      refine wpAnyH_take (i := 7) (oi := ⟨some 27, _, _, _, _, _⟩) (v := _) rfl (by kernel_rfl) (by kernel_rfl) (by kernel_rfl) (fun _ _ _ h => h) (yieldsIf_cut2_l (by rfl) Try.underlying22 hii hs2 (.tmp 25) (.tmp 26) rfl rfl rfl k rfl (by omega) (A' := A2) (n' := n2) (c' := c2) HA2.out.symm HN2.out.symm HC2.out.symm) (by assumption) ?_
      try simp only [Act.put, List.setIfInBounds_toArray, List.set_cons_zero, List.set_cons_succ]
      refine wpAnyH_ready (rs := [4]) (by kernel_rfl) (by simp) ?_
      refine AllReadyH.cons (o := ⟨some 24, _, _, _, _, _⟩) rfl (fun K hK => ?_) AllReadyH.nil
      refine step_buildEn rfl (.tmp 23) rfl (nm, z) rfl ?_
      have EX : Kp _ := ⟨ens_one wS 39 (nm, z) HX.out⟩
      refine hK.out _ _ (keep_alloc hHeld _) (fun hHeld2 => ?_)
      generalize (wS).alloc (.cells (enOne (nm, z)).toArray 39) = w51 at *
      clear hK K hHeld
      have hHeld := hHeld2
      clear hHeld2
      try simp only [Act.put, List.setIfInBounds_toArray, List.set_cons_zero, List.set_cons_succ]
      refine wpAnyH_ready (rs := [8]) (by kernel_rfl) (by simp) ?_
      refine AllReadyH.cons (o := ⟨some 28, _, _, _, _, _⟩) rfl (fun K hK => ?_) AllReadyH.nil
      go_simp
      have LS : Kp _ := ⟨enss_three w51 22 (H1.out _ (HB3'.out _ hHeld.1)) EX.out (H2.out _ (HB3'.out _ hHeld.1))⟩
      refine hK.out _ _ (keep_alloc hHeld _) (fun hHeld2 => ?_)
      clear hK K hHeld
      have hHeld := hHeld2
      clear hHeld2
      generalize (w51).alloc (.cells #[.slice A k c, .slice (some ⟨wS.heap.size, 0, none⟩) 1 1, .slice A2 n2 c2] 22) = w52 at *
      try simp only [Act.put, List.setIfInBounds_toArray, List.set_cons_zero, List.set_cons_succ]
      refine wpAnyH_ready (rs := [9]) (by kernel_rfl) (by simp) ?_
      refine AllReadyH.cons (o := ⟨some 29, _, _, _, _, _⟩) rfl (fun K hK => ?_) AllReadyH.nil
      go_simp
      refine (concatE_any _ 3 3 _ w52 LS.out HDl.out).mono ?_
      rintro e w53 ⟨v9, rfl, hown9, hb'⟩
      clear LS EX
      refine hK.out _ _ (keep_call hHeld hgl hb') (fun hHeld2 => ?_)
      clear hK K hHeld
      have hHeld := hHeld2
      clear hHeld2
      try simp only [Act.put, List.setIfInBounds_toArray, List.set_cons_zero, List.set_cons_succ]
      refine wpAnyH_take (i := 10) (oi := ⟨some 4, _, _, _, _, _⟩) (v := ?_) rfl (by kernel_rfl) (by kernel_rfl) (by kernel_rfl) (fun _ _ _ h => h) (Or.inl ⟨by rfl, by intro w hSw; go_simp; try rfl⟩) (by assumption) ?_
      try simp only [Act.put, List.setIfInBounds_toArray, List.set_cons_zero, List.set_cons_succ]
      refine wpAnyH_take (i := 11) (oi := ⟨some 5, _, _, _, _, _⟩) (v := ?_) rfl (by kernel_rfl) (by kernel_rfl) (by kernel_rfl) (fun _ _ _ h => h) (Or.inl ⟨by rfl, by intro w hSw; go_simp; try rfl⟩) (by assumption) ?_
      try simp only [Act.put, List.setIfInBounds_toArray, List.set_cons_zero, List.set_cons_succ]
      refine wpAnyH_done (by kernel_rfl) ?_ _
      go_wp2
      obtain ⟨A9, c9, rfl, h9⟩ := Ens.of_own hown9 HOk.out
      go_ret2
      exact ⟨_, _, _, rfl, h9, HB3'.out _ hHeld.1⟩
end Go.Proofs.Ytaedlaeflliibaa
