/- Put, and that what it lays is new; rows that stay while another one grows; words for EntryOrders. -/
import Derived.Test.YtfcihcjnggnmpaaLKeeps14
namespace Go.Proofs.Ytfcihcjnggnmpaa
open Go.RowKit Go.Deep

theorem own2_fresh {w : World} {base : Nat} {e : TypeId} {A : Option Addr} {n c m : Nat} {xs : List Value} (h : w.ownsRow base e 2 (.slice A n c) m xs) : ∀ ad, A = some ad → base ≤ ad.block := by
  intro ad hA
  rcases h.2 with ⟨e1, _⟩ | ⟨g, cap, cur, e1, hb, _⟩
  · cases e1; cases hA
  · cases e1; cases hA; exact hb
theorem Ens.grown {w w' : World} {B : Nat} {A : Option Addr} {n c : Nat} {l : List En} {row : Option Nat} (h : Ens w B A n c l) (hg : w.grownBy w' row) (hr : ∀ ad, A = some ad → row ≠ some ad.block) (hB : B ≤ w.heap.size) : Ens w' B A n c l :=
  ⟨h.len, h.cap, h.max, h.nil, h.ok, fun h0 => by
    obtain ⟨b, o, hA, hb, hc⟩ := h.cells h0
    refine ⟨b, o, hA, hb, fun j hj => ?_⟩
    have hk : ∀ i, w'.cell? ⟨b, i, none⟩ = w.cell? ⟨b, i, none⟩ := fun i => World.cell?_of_block (w := w) (w' := w') (a := ⟨b, i, none⟩) (hg.block b (by omega) (fun e => hr _ hA e.symm))
    obtain ⟨h1, h2⟩ := hc j hj
    exact ⟨(hk _).trans h1, (hk _).trans h2⟩⟩
section
variable {w : World} {ops : Array Oper} {rest : List Oper} {o : Oper} {a : Act} {Q : Exit → Act → World → Prop}
theorem wpList_appF (hgd : o.guard = none) (s x : Operand)
    (ho : o.op = .call { callee := .builtin .append, args := #[s, x], argTypes := #[22, 22] })
    (base : Nat) (v : Value) (n : Nat) (L : List En) (hs : a.eval s = v) (hown : w.ownsRow base 39 2 v n (enCells L))
    (ad : Addr) (m c : Nat) (M : List En) (hx : a.eval x = .slice (some ad) m c) (hl : M.length = m)
    (hsrc : ∀ j u, (enCells M)[j]? = some u → w.cell? (ad.add j) = some u)
    (hbytes : n + m ≤ 5864062014805) (hbase : base ≤ w.heap.size)
    (h : ∀ v' w', w'.ownsRow base 39 2 v' (n + m) (enCells (L ++ M)) → Below base w w' → w.grownBy w' v.ownBlock → (v'.ownBlock = v.ownBlock ∨ v'.ownBlock = some w.heap.size) → wpList Try.prog ops Q rest (a.put o.dst v') w') :
    wpList Try.prog ops Q (o :: rest) a w := by
  obtain ⟨i, hi, hz, hsize, hby⟩ := infE
  exact wpList_append_own_at w hgd s x 22 ho base 39 i _ 2 24 Try.underlying22 hi hz hsize hby rfl (by decide) v n _ hs hown ad m c (enCells M) hx (by rw [enCells_length, hl]) hsrc (enCells_one M) (by simp only [maxLen]; omega) (by omega) hbase
    (fun v' w' h2 h3 _ h5 => h v' w' (by rw [enCells_append]; exact h2) (below_of_grown2 hown hbase h3) h3 h5)
end
theorem up_uniq {a : List En} {x : En} (h : Up a) (hx : x ∈ a) : ∃ hi : idxE a x.1 < a.length, a[idxE a x.1] = x := by
  have hq : hasE a x.1 = true := hasE_iff.2 ⟨x, hx, rfl⟩
  have hi := idxE_lt.2 hq
  have hnm := idxE_name hi
  refine ⟨hi, ?_⟩
  obtain ⟨j, hj, e⟩ := List.getElem_of_mem hx
  by_cases hij : j = idxE a x.1
  · subst hij; exact e
  · rcases Nat.lt_or_gt_of_ne hij with h1 | h1
    · have := h.at h1 hi; rw [hnm, e] at this; exact absurd this (u8lt_irrefl _)
    · have := h.at h1 hj; rw [hnm, e] at this; exact absurd this (u8lt_irrefl _)
theorem drop_perm_one {a m : List En} {x : En} (h : Up a) (hp : a.Perm (x :: m)) : hasE a x.1 = true ∧ (dropE a x.1).Perm m := by
  have hx : x ∈ a := hp.mem_iff.2 (List.mem_cons_self ..)
  obtain ⟨hi, e⟩ := up_uniq h hx
  refine ⟨hasE_iff.2 ⟨x, hx, rfl⟩, ?_⟩
  have h1 := dropE_perm hi
  rw [e] at h1
  exact (h1.symm.trans hp).cons_inv
theorem not_has_of {b m : List En} {x : En} (hp : b.Perm m) (hd : (x :: m).Pairwise fun a b => a.1 ≠ b.1) : hasE b x.1 = false :=
  hasE_no.2 fun y hy e => (List.pairwise_cons.1 hd).1 y (hp.mem_iff.1 hy) e.symm
theorem perm_snoc_put {a m : List En} {x : En} (hp : a.Perm m) : (putE a x).Perm (m ++ [x]) :=
  ((putE_perm a x).trans (List.Perm.cons x hp)).trans (List.perm_append_singleton x m).symm
theorem putC_zero {l : List En} {nm : List UInt8} {z : Int} (h1 : okNm nm = true) (h2 : hasE l nm = false) : putC l (nm, z) = 0 ∧ putR l (nm, z) = putE l (nm, z) := by
  unfold putC putR; simp only [h1, h2]; exact ⟨rfl, rfl⟩
theorem putC_not {l : List En} {nm : List UInt8} {z : Int} (h : ¬ (okNm nm = true ∧ hasE l nm = false)) : (putC l (nm, z) == 0) = false := by
  unfold putC
  cases h1 : okNm nm with
  | false => simp
  | true =>
    cases h2 : hasE l nm with
    | false => exact absurd ⟨h1, h2⟩ h
    | true => simp
set_option maxRecDepth 100000 in
set_option maxHeartbeats 2000000 in
theorem put_fr (A : Option Addr) (n c : Nat) (l : List En) (nm : List UInt8) (z : Int) (w : World) (ha : Ens w w.heap.size A n c l) (hn : n ≤ 5864062014804) (hx : EnOk (nm, z)) :
    Calls Try.prog 21 #[.slice A n c, .agg (enOne (nm, z)).toArray] w fun e w' => ∃ A' n' c', e = .returned (.tuple #[.slice A' n' c', .int .i64 (putC l (nm, z))]) ∧ Ens w' w'.heap.size A' n' c' (putR l (nm, z)) ∧ Below w.heap.size w w' ∧ ∀ ad, A' = some ad → w.heap.size ≤ ad.block := by
  have HI : Kp _ := ⟨ha⟩
  have HL : Kp _ := ⟨ha.len⟩
  have HX : Kp _ := ⟨hx⟩
  have hcap := ha.cap
  have hle := ha.le
  have HC : Kp (∀ W, Below w.heap.size w W → Calls Try.prog 37 #[.slice A n c, .string ⟨nm.toArray⟩] W fun e w' => e = .returned (.tuple #[.int .i64 ((placeE l nm).1 : Nat), .bool (placeE l nm).2]) ∧ Below W.heap.size W w') := ⟨fun W hb => place_any A n c l nm W (ha.next hb (Nat.le_refl _)) (by omega)⟩
  have HN : Kp (∀ W, Calls Try.prog 25 #[.string ⟨nm.toArray⟩] W fun e w' => e = .returned (.bool (okNm nm)) ∧ Below W.heap.size W w') := ⟨fun W => named_any nm W hx.len⟩
  clear ha hx
  cases hq1 : okNm nm with
  | false =>
    rw [hq1] at HN
    have HP : Kp (putC l (nm, z) = 11 ∧ putR l (nm, z) = []) := ⟨by unfold putC putR; simp only [hq1]; exact ⟨rfl, rfl⟩⟩
    rw [HP.out.1, HP.out.2]
    go_enter Try.func21, Try.ntmps21
    go_wp2_with (with_reducible refine wpList_box (o := ⟨some 3, _, _, _, _, _⟩) (cs := enOne (nm, z)) rfl (.tmp 1) rfl rfl ?_)
    intro w1 hk1 hb1 hs1
    have HB1 : Kp _ := ⟨hb1⟩
    have HK1 : Kp _ := ⟨hk1⟩
    have c0 : w1.cell? ⟨w.heap.size, 0, none⟩ = some (.string ⟨nm.toArray⟩) := hk1.cell? 0
    clear hk1 hb1 hs1
    go_wp2_with (go_at_call 25; refine (HN.out _).mono ?_; rintro e w2 ⟨rfl, hb2⟩)
    have HB2 : Kp (Below w.heap.size w w2) := ⟨HB1.out.trans (hb2.mono HB1.out.size)⟩
    go_wp2
    go_ret2
    exact ⟨none, 0, 0, rfl, Ens.zero _ _, HB2.out, fun _ h => by cases h⟩
  | true =>
    rw [hq1] at HN
    cases hq : hasE l nm with
    | true =>
      rw [placeE_yes hq] at HC
      have HP : Kp (putC l (nm, z) = 13 ∧ putR l (nm, z) = []) := ⟨by unfold putC putR; simp only [hq1, hq]; exact ⟨rfl, rfl⟩⟩
      rw [HP.out.1, HP.out.2]
      go_enter Try.func21, Try.ntmps21
      go_wp2_with (with_reducible refine wpList_box (o := ⟨some 3, _, _, _, _, _⟩) (cs := enOne (nm, z)) rfl (.tmp 1) rfl rfl ?_)
      intro w1 hk1 hb1 hs1
      have HB1 : Kp _ := ⟨hb1⟩
      have HK1 : Kp _ := ⟨hk1⟩
      have c0 : w1.cell? ⟨w.heap.size, 0, none⟩ = some (.string ⟨nm.toArray⟩) := hk1.cell? 0
      clear hk1 hb1 hs1
      go_wp2_with (go_at_call 25; refine (HN.out _).mono ?_; rintro e w2 ⟨rfl, hb2⟩; have c2 : w2.cell? ⟨w.heap.size, 0, none⟩ = some (.string ⟨nm.toArray⟩) := (HK1.out.below hb2 HK1.out.lt).cell? 0)
      have HB2 : Kp (Below w.heap.size w w2) := ⟨HB1.out.trans (hb2.mono HB1.out.size)⟩
      go_wp2_with (go_at_call 37; refine (HC.out _ HB2.out).mono ?_; rintro e w3 ⟨rfl, hb3⟩)
      have HB3 : Kp (Below w.heap.size w w3) := ⟨HB2.out.trans (hb3.mono HB2.out.size)⟩
      go_wp2
      go_ret2
      exact ⟨none, 0, 0, rfl, Ens.zero _ _, HB3.out, fun _ h => by cases h⟩
    | false =>
      rw [placeE_no hq] at HC
      have hi := aboveE_le l nm
      have HP : Kp (putC l (nm, z) = 0 ∧ putR l (nm, z) = [l.take (aboveE l nm), [(nm, z)], l.drop (aboveE l nm)].flatten) := ⟨by unfold putC putR; simp only [hq1, hq]; exact ⟨rfl, by simp [putE]⟩⟩
      have HDl : Kp ([l.take (aboveE l nm), [(nm, z)], l.drop (aboveE l nm)].flatten.length ≤ 5864062014805) := ⟨by have := HL.out; simp; omega⟩
      have HOk : Kp (∀ x ∈ [l.take (aboveE l nm), [(nm, z)], l.drop (aboveE l nm)].flatten, EnOk x) := ⟨fun x hx => by
        simp only [List.flatten_cons, List.flatten_nil, List.append_nil] at hx
        rcases List.mem_append.1 hx with h | h
        · exact HI.out.ok x (List.mem_of_mem_take h)
        · rcases List.mem_append.1 h with h | h
          · rw [List.mem_singleton.1 h]; exact HX.out
          · exact HI.out.ok x (List.mem_of_mem_drop h)⟩
      rw [HP.out.1, HP.out.2]
      have hin : aboveE l nm ≤ n := by rw [HL.out] at hi; exact hi
      have H1 : Kp (∀ W, Below w.heap.size w W → Ens W W.heap.size A (aboveE l nm) c (l.take (aboveE l nm))) := ⟨fun W hb => (HI.out.next hb (Nat.le_refl _)).upto (by omega)⟩
      obtain ⟨A2, hA2⟩ : ∃ A2, A2 = fromA A c (aboveE l nm) := ⟨_, rfl⟩
      obtain ⟨n2, hn2⟩ : ∃ n2, n2 = n - aboveE l nm := ⟨_, rfl⟩
      obtain ⟨c2, hc2⟩ : ∃ c2, c2 = c - aboveE l nm := ⟨_, rfl⟩
      have H2 : Kp (∀ W, Below w.heap.size w W → Ens W W.heap.size A2 n2 c2 (l.drop (aboveE l nm))) := ⟨fun W hb => by
        rw [hA2, hn2, hc2]; exact (HI.out.next hb (Nat.le_refl _)).tail (by omega)⟩
      obtain ⟨i, hii, _, hs2, _⟩ := infE
      generalize aboveE l nm = k at *
      have HA2 : Kp _ := ⟨hA2⟩
      have HN2 : Kp _ := ⟨hn2⟩
      have HC2 : Kp _ := ⟨hc2⟩
      clear hi hA2 hn2 hc2 HP
      go_enter Try.func21, Try.ntmps21
      go_wp2_with (with_reducible refine wpList_box (o := ⟨some 3, _, _, _, _, _⟩) (cs := enOne (nm, z)) rfl (.tmp 1) rfl rfl ?_)
      intro w1 hk1 hb1 hs1
      have HB1 : Kp _ := ⟨hb1⟩
      have HK1 : Kp _ := ⟨hk1⟩
      have c0 : w1.cell? ⟨w.heap.size, 0, none⟩ = some (.string ⟨nm.toArray⟩) := hk1.cell? 0
      clear hk1 hb1 hs1
      go_wp2_with (go_at_call 25; refine (HN.out _).mono ?_; rintro e w2 ⟨rfl, hb2⟩; have c2' : w2.cell? ⟨w.heap.size, 0, none⟩ = some (.string ⟨nm.toArray⟩) := (HK1.out.below hb2 HK1.out.lt).cell? 0)
      have HB2 : Kp (Below w.heap.size w w2) := ⟨HB1.out.trans (hb2.mono HB1.out.size)⟩
      have HK2 : Kp _ := ⟨HK1.out.below hb2 HK1.out.lt⟩
      clear hb2
      go_wp2_with (go_at_call 37; refine (HC.out _ HB2.out).mono ?_; rintro e w3 ⟨rfl, hb3⟩)
      have HB3 : Kp (Below w.heap.size w w3) := ⟨HB2.out.trans (hb3.mono HB2.out.size)⟩
      have HK3 : Kp _ := ⟨HK2.out.below hb3 HK2.out.lt⟩
      clear hb3 c2'
      have HRG3 : Kp (w3.rangeAt w.heap.size 0 (enOne (nm, z))) := ⟨HK3.out.range (n := 2) rfl⟩
      obtain ⟨g, hg⟩ : ∃ g, g = w.heap.size := ⟨_, rfl⟩
      have hgl : g < w3.heap.size := by rw [hg]; exact HK3.out.lt
      have HB3' : Kp (∀ W, Below w3.heap.size w3 W → Below w.heap.size w W) := ⟨fun W hW => HB3.out.trans (hW.mono HB3.out.size)⟩
      have huE := rwEn.ty
      have hiE : ((Try.prog).info? 39).map (·.size) = some (enOne (nm, z)).length := rwEn.size
      clear HK1 HK2 HK3
      rw [← hg] at HRG3
      simp only [← hg]
      refine wp_region_held_drew (S := fun W => Below w3.heap.size w3 W ∧ W.rangeAt g 0 (enOne (nm, z))) (by kernel_rfl) (⟨(Below.refl _ _).drew, HRG3.out⟩) (fun hHeld => ?_)
      generalize w3.drew = wS at *
      refine wpAnyH_take (i := 0) (oi := ⟨some 20, _, _, _, _, _⟩) (v := ?_) rfl (by kernel_rfl) (by kernel_rfl) (by kernel_rfl) (fun _ _ _ h => h) (Or.inl ⟨by rfl, by intro w hSw; go_simp; try rfl⟩) (by assumption) ?_
      try simp only [Act.put, List.setIfInBounds_toArray, List.set_cons_zero, List.set_cons_succ]
      refine wpAnyH_take (i := 1) (oi := ⟨some 21, _, _, _, _, _⟩) (v := ?_) rfl (by kernel_rfl) (by kernel_rfl) (by kernel_rfl) (fun _ _ _ h => h) (Or.inl ⟨by rfl, by intro w hSw; go_simp; try rfl⟩) (by assumption) ?_
      try simp only [Act.put, List.setIfInBounds_toArray, List.set_cons_zero, List.set_cons_succ]
      refine wpAnyH_take (i := 2) (oi := ⟨some 22, _, _, _, _, _⟩) (v := _) rfl (by kernel_rfl) (by kernel_rfl) (by kernel_rfl) (fun _ _ _ h => h) (yieldsIf_cut2_h (by rfl) Try.underlying22 hii hs2 (.tmp 20) (.tmp 21) rfl rfl rfl k rfl (by omega)) (by assumption) ?_
      try simp only [Act.put, List.setIfInBounds_toArray, List.set_cons_zero, List.set_cons_succ]
      refine wpAnyH_take (i := 3) (oi := ⟨some 23, _, _, _, _, _⟩) (v := _) rfl (by kernel_rfl) (by kernel_rfl) (by kernel_rfl) (fun _ _ _ h => h) (yieldsIf_load_mid (by rfl) _ (.tmp 3) rfl _ _ rfl (enOne (nm, z)) _ (fun W hW => hW.2) huE rfl hiE) (by assumption) ?_
      try simp only [Act.put, List.setIfInBounds_toArray, List.set_cons_zero, List.set_cons_succ]
      refine wpAnyH_take (i := 5) (oi := ⟨some 25, _, _, _, _, _⟩) (v := ?_) rfl (by kernel_rfl) (by kernel_rfl) (by kernel_rfl) (fun _ _ _ h => h) (Or.inl ⟨by rfl, by intro w hSw; go_simp; try rfl⟩) (by assumption) ?_
      try simp only [Act.put, List.setIfInBounds_toArray, List.set_cons_zero, List.set_cons_succ]
      refine wpAnyH_take (i := 6) (oi := ⟨some 26, _, _, _, _, _⟩) (v := ?_) rfl (by kernel_rfl) (by kernel_rfl) (by kernel_rfl) (fun _ _ _ h => h) (Or.inl ⟨by rfl, by intro w hSw; go_simp; try rfl⟩) (by assumption) ?_
      try simp only [Act.put, List.setIfInBounds_toArray, List.set_cons_zero, List.set_cons_succ]
      refine wpAnyH_take (i := 7) (oi := ⟨some 27, _, _, _, _, _⟩) (v := _) rfl (by kernel_rfl) (by kernel_rfl) (by kernel_rfl) (fun _ _ _ h => h) (yieldsIf_cut2_l (by rfl) Try.underlying22 hii hs2 (.tmp 25) (.tmp 26) rfl rfl rfl k rfl (by omega) (A' := A2) (n' := n2) (c' := c2) HA2.out.symm HN2.out.symm HC2.out.symm) (by assumption) ?_
      try simp only [Act.put, List.setIfInBounds_toArray, List.set_cons_zero, List.set_cons_succ]
      refine wpAnyH_ready (rs := [4]) (by kernel_rfl) (by simp) ?_
      refine AllReadyH.cons (o := ⟨some 24, _, _, _, _, _⟩) rfl (fun K hK => ?_) AllReadyH.nil
      refine step_buildEn rfl (.tmp 23) rfl (nm, z) rfl ?_
      have EX : Kp _ := ⟨ens_one wS 39 (nm, z) HX.out⟩
      refine hK.out _ _ (keep_alloc hHeld _) (fun hHeld2 => ?_)
      generalize (wS).alloc (.cells (enOne (nm, z)).toArray 39) = w51 at *
      clear hK K hHeld
      have hHeld := hHeld2
      clear hHeld2
      try simp only [Act.put, List.setIfInBounds_toArray, List.set_cons_zero, List.set_cons_succ]
      refine wpAnyH_ready (rs := [8]) (by kernel_rfl) (by simp) ?_
      refine AllReadyH.cons (o := ⟨some 28, _, _, _, _, _⟩) rfl (fun K hK => ?_) AllReadyH.nil
      go_simp
      have LS : Kp _ := ⟨enss_three w51 22 (H1.out _ (HB3'.out _ hHeld.1)) EX.out (H2.out _ (HB3'.out _ hHeld.1))⟩
      refine hK.out _ _ (keep_alloc hHeld _) (fun hHeld2 => ?_)
      clear hK K hHeld
      have hHeld := hHeld2
      clear hHeld2
      generalize (w51).alloc (.cells #[.slice A k c, .slice (some ⟨wS.heap.size, 0, none⟩) 1 1, .slice A2 n2 c2] 22) = w52 at *
      try simp only [Act.put, List.setIfInBounds_toArray, List.set_cons_zero, List.set_cons_succ]
      refine wpAnyH_ready (rs := [9]) (by kernel_rfl) (by simp) ?_
      refine AllReadyH.cons (o := ⟨some 29, _, _, _, _, _⟩) rfl (fun K hK => ?_) AllReadyH.nil
      go_simp
      have hW9 := (HB3'.out _ hHeld.1).size
      refine (concatE_any _ 3 3 _ w52 LS.out HDl.out).mono ?_
      rintro e w53 ⟨v9, rfl, hown9, hb'⟩
      clear LS EX
      refine hK.out _ _ (keep_call hHeld hgl hb') (fun hHeld2 => ?_)
      clear hK K hHeld
      have hHeld := hHeld2
      clear hHeld2
      try simp only [Act.put, List.setIfInBounds_toArray, List.set_cons_zero, List.set_cons_succ]
      refine wpAnyH_take (i := 10) (oi := ⟨some 4, _, _, _, _, _⟩) (v := ?_) rfl (by kernel_rfl) (by kernel_rfl) (by kernel_rfl) (fun _ _ _ h => h) (Or.inl ⟨by rfl, by intro w hSw; go_simp; try rfl⟩) (by assumption) ?_
      try simp only [Act.put, List.setIfInBounds_toArray, List.set_cons_zero, List.set_cons_succ]
      refine wpAnyH_take (i := 11) (oi := ⟨some 5, _, _, _, _, _⟩) (v := ?_) rfl (by kernel_rfl) (by kernel_rfl) (by kernel_rfl) (fun _ _ _ h => h) (Or.inl ⟨by rfl, by intro w hSw; go_simp; try rfl⟩) (by assumption) ?_
      try simp only [Act.put, List.setIfInBounds_toArray, List.set_cons_zero, List.set_cons_succ]
      refine wpAnyH_done (by kernel_rfl) ?_ _
      go_wp2
      have hown8 := hown9
      obtain ⟨A9, c9, rfl, h9⟩ := Ens.of_own hown9 HOk.out
      have hfr := own2_fresh hown8
      go_ret2
      exact ⟨_, _, _, rfl, h9, HB3'.out _ hHeld.1, fun ad h => Nat.le_trans hW9 (hfr ad h)⟩
end Go.Proofs.Ytfcihcjnggnmpaa
