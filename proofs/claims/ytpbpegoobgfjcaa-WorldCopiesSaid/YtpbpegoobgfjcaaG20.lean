/- The walk of WorldCopies. -/
import Derived.Deep.RegionHeld3
import Derived.Test.YtpbpegoobgfjcaaG17
import Derived.Test.YtpbpegoobgfjcaaG19
namespace Go.Proofs.Ytpbpegoobgfjcaa
open Go.RowKit

theorem zeroT_noB : ∀ u ∈ zeroT', ∀ z, u ≠ .int .u8 z := by
  intro u hu z
  simp only [zeroT', List.mem_cons, List.not_mem_nil, or_false] at hu
  rcases hu with rfl | rfl | rfl | rfl | rfl | rfl | rfl | rfl | rfl | rfl <;> simp
theorem Bk.hold {w0 w : World} {k : Nat} {ws : List (Nat × Wd)} {hs : List Held} {l : List (Ta × Wd)} {ks : Vs} (h : Bk w0 w k ws hs l ks) {A : Option Addr} {n c : Nat} {x : List UInt8} (ha : Bs w0 w0.heap.size A n c x) (hn : n ≤ 4294967296) : Bk w0 w k ws ((A, n, c, x) :: hs) l ks := by
  obtain ⟨M, Os, h1, h2, h3, h4, h5, h6⟩ := h.is
  refine ⟨⟨M, Os, h1, h2, h3, fun y hy => ?_, h5, h6⟩, h.below, h.small, h.high⟩
  rcases List.mem_cons.1 hy with rfl | hy
  · exact BsM.of_bs (ha.below h.below) h.below.size h3 hn
  · exact h4 y hy
theorem Bk.drop {w0 w : World} {k : Nat} {ws : List (Nat × Wd)} {hs hs2 : List Held} {l l2 : List (Ta × Wd)} {ks : Vs} (h : Bk w0 w k ws hs l ks) (h1 : ∀ x ∈ hs2, x ∈ hs) (h2 : ∀ x ∈ l2, x ∈ l) : Bk w0 w k ws hs2 l2 ks := by
  obtain ⟨M, Os, g1, g2, g3, g4, g5, g6⟩ := h.is
  exact ⟨⟨M, Os, g1, g2, g3, fun x hx => g4 x (h1 x hx), fun x hx => g5 x (h2 x hx), g6⟩, h.below, h.small, h.high⟩
theorem Bk.swap {w0 w : World} {k : Nat} {x y : Nat × Wd} {hs : List Held} {l : List (Ta × Wd)} {ks : Vs} (h : Bk w0 w k [x, y] hs l ks) : Bk w0 w k [y, x] hs l ks := by
  obtain ⟨M, hS, _, hT, hV⟩ := h.snap
  exact Bk.next hT hV h.high (by simp) hS.swap

theorem Bk.ts {w0 w : World} {k : Nat} {ws : List (Nat × Wd)} {hs : List Held} {l : List (Ta × Wd)} {ks : Vs} (h : Bk w0 w k ws hs l ks) {x : Ta × Wd} (hx : x ∈ l) : Ts w x.1.tA x.1.tn x.1.tc x.2.tr := by
  obtain ⟨M, Os, _, _, _, _, h5, _⟩ := h.is
  exact (h5 x hx).ts
set_option maxRecDepth 100000 in
set_option maxHeartbeats 40000000 in
theorem wcopies (A B : Option Addr) (m c m2 c2 : Nat) (ds es : List Dd) (w : World) (hD : Dos w w.heap.size A m c ds) (hE : Dos w w.heap.size B m2 c2 es) (hsm : dsmall ds = true) (hsm2 : dsmall es = true) (hb : ∀ x ∈ ds, x.bs.length ≤ 140737488351232) (hb2 : ∀ x ∈ es, x.bs.length ≤ 140737488351232) :
    Calls Try.prog 5 #[.slice A m c, .slice B m2 c2] w fun e w' => e = .returned (.bool true) ∧ Below w.heap.size w w' := by
  have HD : Kp _ := ⟨hD⟩
  have HE : Kp _ := ⟨hE⟩
  have HL : Kp _ := ⟨hD.len⟩
  have HL2 : Kp _ := ⟨hE.len⟩
  have HM : Kp (m ≤ 40 ∧ ∀ x ∈ ds, x.bs.length ≤ 3000) := ⟨by
    unfold dsmall at hsm
    simp only [Bool.and_eq_true, decide_eq_true_eq] at hsm
    exact ⟨by rw [← hD.len]; exact hsm.1, fun x hx => by have := dlong_mem ds x hx; omega⟩⟩
  have HM2 : Kp (m2 ≤ 40 ∧ ∀ x ∈ es, x.bs.length ≤ 3000) := ⟨by
    unfold dsmall at hsm2
    simp only [Bool.and_eq_true, decide_eq_true_eq] at hsm2
    exact ⟨by rw [← hE.len]; exact hsm2.1, fun x hx => by have := dlong_mem es x hx; omega⟩⟩
  have hm63 := hD.le
  have hm263 := hE.le
  have HB1 : Kp _ := ⟨hb⟩
  have HB2 : Kp _ := ⟨hb2⟩
  clear hD hE hb hb2
  go_enter Try.func5, Try.ntmps5
  go_wp2_with fail
  refine (small_any A m c ds w _ HD.out HB1.out).mono ?_
  rintro e w0 ⟨rfl, rfl⟩
  rw [hsm]
  go_wp2_with fail
  refine (small_any B m2 c2 es w0 _ HE.out HB2.out).mono ?_
  rintro e w00 ⟨rfl, rfl⟩
  rw [hsm2]
  go_wp2_with fail
  refine (st_new (St.start w00) 4 (by omega)).mono ?_
  rintro e w1 ⟨b, rfl, S1⟩
  have H1 : Kp _ := ⟨Bk.of_st S1⟩
  clear S1 hsm hsm2
  go_wp2_with fail
  refine (knew_any H1.out).mono ?_
  rintro e w2 ⟨a, rfl, ha, S2⟩
  have H2 : Kp _ := ⟨S2⟩
  have HLn : Kp (a.ln = 0) := ⟨ha⟩
  have HZ : Kp (zeroT'.length = 10) := ⟨rfl⟩
  have HLt : Kp _ := ⟨tvL_length a (newW 4)⟩
  have HOt : Kp _ := ⟨tvL_one a (newW 4)⟩
  clear S2 H1 ha
  go_wp2_with (with_reducible refine wpList_alloc (o := ⟨some 6, _, _, _, _, _⟩) tyT rfl rfl ?_)
  intro w3 hk3 hb3 hs3
  have H3 : Kp (Bk w00 w3 0 [(b, newW 4)] [] [(a, newW 4)] [(w2.heap.size, zeroT')]) := ⟨H2.out.var hb3 hk3 zeroT_noB⟩
  have HK3 : Kp _ := ⟨hk3⟩
  obtain ⟨g6, hg6⟩ : ∃ g, g = w2.heap.size := ⟨_, rfl⟩
  rw [← hg6] at H3 HK3 ⊢
  clear hk3 hb3 hs3 H2 hg6
  go_wp2_with (with_reducible refine wpList_storeAll (o := ⟨none, _, _, _, _, _⟩) (vs := tvL a (newW 4)) rwT rfl (.tmp 6) _ rfl rfl HK3.out HZ.out HLt.out HOt.out rfl ?_)
  intro w4 hk4 ho4
  have H4 : Kp (Bk w00 w4 0 [(b, newW 4)] [] [(a, newW 4)] [(g6, tvL a (newW 4))]) := ⟨H3.out.put (cs := zeroT') (by simp) ho4 hk4 (tvL_noB _ _) (fun x hx => .inl (by simpa using hx))⟩
  clear H3 HK3 hk4 ho4 HLt HOt
  have H5 : Kp (∃ a t, a.ln ≤ 0 ∧ Bk w00 w4 0 [(b, t)] [] [(a, t)] [(g6, tvL a t)]) := ⟨a, newW 4, by rw [HLn.out]; exact Nat.le_refl _, H4.out⟩
  clear H4 HLn
  go_wp2
  go_loopg [7] m (fun gk v7 wr => ∃ i : Nat, i + gk = m ∧ v7 = .int .i64 i ∧ Kp (∃ a t, a.ln ≤ i ∧ Bk w00 wr i [(b, t)] [] [(a, t)] [(g6, tvL a t)]))
  case atStart => exact ⟨0, by omega, rfl, H5⟩
  case round =>
    clear H5
    obtain ⟨i, hi, rfl, HI⟩ := hrel
    obtain ⟨a, t, hal, S⟩ := HI.out
    have HS : Kp _ := ⟨S⟩
    have HAl : Kp (a.ln ≤ i) := ⟨hal⟩
    have hm40 := HM.out.1
    clear S HI hal
    cases gk with
    | zero =>
      have hlt : ¬ ((i : Int) < (m : Int)) := by omega
      have hi40 : i ≤ 40 := by omega
      go_wp2_with fail
      refine (kcopy_any HS.out (by omega)).mono ?_
      rintro e w5 ⟨cc, rfl, S5⟩
      have H5 : Kp (Bk w00 w5 i [(cc, cutW t), (b, t)] [] [(a, cutW t), (a, t)] [(g6, tvL a t)]) := ⟨S5.cut (cutL t) t.nl (fun z hz => by unfold cutL; rw [if_pos hz])⟩
      have HK6 : Kp _ := ⟨H5.out.at (g := g6) (cs := tvL a t) (by simp)⟩
      have HL6 : Kp _ := ⟨tvL_length a t⟩
      have HO6 : Kp _ := ⟨tvL_one a t⟩
      clear S5 HS
      go_wp2_with (first | (with_reducible refine wpList_loadAll (o := ⟨some 55, _, _, _, _, _⟩) rwT rfl (.tmp 6) rfl rfl HK6.out HL6.out ?_) | (with_reducible refine wpList_alloc (o := ⟨some 12, _, _, _, _, _⟩) tyT rfl rfl ?_))
      intro w6 hk6 hb6 hs6
      have hne : g6 < w5.heap.size := HK6.out.lt
      have H6 : Kp (Bk w00 w6 i [(cc, cutW t), (b, t)] [] [(a, cutW t), (a, t)] [(w5.heap.size, zeroT'), (g6, tvL a t)]) := ⟨H5.out.var hb6 hk6 zeroT_noB⟩
      have HK12 : Kp _ := ⟨hk6⟩
      obtain ⟨g12, hg12⟩ : ∃ g, g = w5.heap.size := ⟨_, rfl⟩
      rw [← hg12] at H6 HK12 hne ⊢
      have HNe : Kp (g6 < g12) := ⟨hne⟩
      clear hk6 hb6 hs6 H5 hg12 hne HK6
      go_wp2_with (with_reducible refine wpList_storeAll (o := ⟨none, _, _, _, _, _⟩) (vs := tvL a t) rwT rfl (.tmp 12) _ rfl rfl HK12.out HZ.out HL6.out HO6.out rfl ?_)
      intro w7 hk7 ho7
      have H7 : Kp (∃ v tc, v.ln ≤ i + 0 ∧ Bk w00 w7 (i + 0) [(cc, tc), (b, t)] [] [(v, tc), (a, t)] [(g12, tvL v tc), (g6, tvL a t)]) := ⟨a, cutW t, HAl.out, H6.out.put (cs := zeroT') (cs' := tvL a t) (by simp) ho7 hk7 (tvL_noB _ _) (fun x hx => by have := HNe.out; simp at hx ⊢; rcases hx with rfl | rfl; exact .inl rfl; exact .inr ⟨.inr rfl, by simp; omega⟩)⟩
      clear hk7 ho7 H6 HK12 HL6 HO6
      go_wp2
      go_loopg [13] m2 (fun gk v13 wr => ∃ j : Nat, j + gk = m2 ∧ v13 = .int .i64 j ∧ Kp (∃ v tc, v.ln ≤ i + j ∧ Bk w00 wr (i + j) [(cc, tc), (b, t)] [] [(v, tc), (a, t)] [(g12, tvL v tc), (g6, tvL a t)]))
      case atStart => exact ⟨0, by omega, rfl, H7⟩
      case round =>
        clear H7
        obtain ⟨j, hj, rfl, HJ⟩ := hrel
        obtain ⟨v, tc, hvl, S⟩ := HJ.out
        have HS : Kp _ := ⟨S⟩
        have HVl : Kp (v.ln ≤ i + j) := ⟨hvl⟩
        have hm240 := HM2.out.1
        clear S HJ hvl
        cases gk with
        | zero =>
          have hlt2 : ¬ ((j : Int) < (m2 : Int)) := by omega
          have HSt : Kp (∀ W, Below wr.heap.size wr W → StS w00 W (i + j) [(cc, tc), (b, t)] [] []) := ⟨fun W hW => HS.out.st.grow hW⟩
          have HTa : Kp (∀ W, Below wr.heap.size wr W → Ts W a.tA a.tn a.tc t.tr) := ⟨fun W hW => (HS.out.ts (x := (a, t)) (by simp)).below hW⟩
          have HTv : Kp (∀ W, Below wr.heap.size wr W → Ts W v.tA v.tn v.tc tc.tr) := ⟨fun W hW => (HS.out.ts (x := (v, tc)) (by simp)).below hW⟩
          have HG6 : Kp (∀ W, Below wr.heap.size wr W → Blk W g6 42 (tvL a t)) := ⟨fun W hW => (HS.out.at (g := g6) (cs := tvL a t) (by simp)).below hW (HS.out.at (g := g6) (cs := tvL a t) (by simp)).lt⟩
          have HG12 : Kp (∀ W, Below wr.heap.size wr W → Blk W g12 42 (tvL v tc)) := ⟨fun W hW => (HS.out.at (g := g12) (cs := tvL v tc) (by simp)).below hW (HS.out.at (g := g12) (cs := tvL v tc) (by simp)).lt⟩
          have HBw : Kp _ := ⟨HS.out.below⟩
          have hk9 : i + j ≤ 1000000 := by omega
          clear HS HVl
          go_wp2_with fail
          refine wp_region_held_drew (S := fun W => Below wr.heap.size wr W) (by kernel_rfl) ((Below.refl _ _).drew) (fun hHeld => ?_)
          generalize wr.drew = wS at *
          refine wpAnyH_take (i := 0) (oi := ⟨some 91, _, _, _, _, _⟩) (v := ?_) rfl (by kernel_rfl) (by kernel_rfl) (by kernel_rfl) (fun _ _ _ h => h) (Or.inl ⟨by rfl, by intro w hSw; go_simp; try rfl⟩) (by assumption) ?_
          try simp only [Act.put, List.setIfInBounds_toArray, List.set_cons_zero, List.set_cons_succ]
          refine wpAnyH_take (i := 2) (oi := ⟨some 93, _, _, _, _, _⟩) (v := ?_) rfl (by kernel_rfl) (by kernel_rfl) (by kernel_rfl) (fun _ _ _ h => h) (Or.inl ⟨by rfl, by intro w hSw; go_simp; try rfl⟩) (by assumption) ?_
          try simp only [Act.put, List.setIfInBounds_toArray, List.set_cons_zero, List.set_cons_succ]
          refine wpAnyH_take (i := 3) (oi := ⟨some 94, _, _, _, _, _⟩) (v := _) rfl (by kernel_rfl) (by kernel_rfl) (by kernel_rfl) (fun _ _ _ h => h) (Or.inl ⟨by rfl, by intro W hW; have c := (HG6.out W hW).cell? 9; simp only [tvL, List.getElem?_cons_succ, List.getElem?_cons_zero] at c; go_simp; try rfl⟩) (by assumption) ?_
          try simp only [Act.put, List.setIfInBounds_toArray, List.set_cons_zero, List.set_cons_succ]
          refine wpAnyH_ready (rs := [1]) (by kernel_rfl) (by simp) ?_
          refine AllReadyH.cons (o := ⟨some 92, _, _, _, _, _⟩) rfl (fun K hK => ?_) AllReadyH.nil
          go_simp
          refine (xtrace_any (b := b) (t := t) (HSt.out wS hHeld) (by simp) hk9).mono ?_
          rintro e w51 ⟨A92, n92, d92, rfl, hb', hT⟩
          obtain rfl : n92 = a.tn := by rw [← hT.len, ← (HTa.out wS hHeld).len]
          have HT92 : Kp _ := ⟨hT⟩
          refine hK.out _ _ (hHeld.trans (hb'.mono hHeld.size)) (fun hHeld2 => ?_)
          clear hb' hT
          clear hK K hHeld
          have hHeld := hHeld2
          clear hHeld2
          try simp only [Act.put, List.setIfInBounds_toArray, List.set_cons_zero, List.set_cons_succ]
          refine wpAnyH_ready (rs := [4]) (by kernel_rfl) (by simp) ?_
          refine AllReadyH.cons (o := ⟨some 95, _, _, _, _, _⟩) rfl (fun K hK => ?_) AllReadyH.nil
          go_simp
          refine (sametrace_any A92 a.tn d92 a.tA a.tc t.tr w51 HT92.out (HTa.out w51 hHeld)).mono ?_
          rintro e w52 ⟨rfl, hb'⟩
          refine hK.out _ _ (hHeld.trans (hb'.mono hHeld.size)) (fun hHeld2 => ?_)
          clear hb' HT92
          clear hK K hHeld
          have hHeld := hHeld2
          clear hHeld2
          try simp only [Act.put, List.setIfInBounds_toArray, List.set_cons_zero, List.set_cons_succ]
          refine wpAnyH_take (i := 5) (oi := ⟨some 96, _, _, _, _, _⟩) (v := ?_) rfl (by kernel_rfl) (by kernel_rfl) (by kernel_rfl) (fun _ _ _ h => h) (Or.inl ⟨by rfl, by intro w hSw; go_simp; try rfl⟩) (by assumption) ?_
          try simp only [Act.put, List.setIfInBounds_toArray, List.set_cons_zero, List.set_cons_succ]
          refine wpAnyH_take (i := 6) (oi := ⟨some 97, _, _, _, _, _⟩) (v := ?_) rfl (by kernel_rfl) (by kernel_rfl) (by kernel_rfl) (fun _ _ _ h => h) (Or.inl ⟨by rfl, by intro w hSw; go_simp; try rfl⟩) (by assumption) ?_
          try simp only [Act.put, List.setIfInBounds_toArray, List.set_cons_zero, List.set_cons_succ]
          refine wpAnyH_take (i := 8) (oi := ⟨some 99, _, _, _, _, _⟩) (v := ?_) rfl (by kernel_rfl) (by kernel_rfl) (by kernel_rfl) (fun _ _ _ h => h) (Or.inl ⟨by rfl, by intro w hSw; go_simp; try rfl⟩) (by assumption) ?_
          try simp only [Act.put, List.setIfInBounds_toArray, List.set_cons_zero, List.set_cons_succ]
          refine wpAnyH_take (i := 9) (oi := ⟨some 100, _, _, _, _, _⟩) (v := _) rfl (by kernel_rfl) (by kernel_rfl) (by kernel_rfl) (fun _ _ _ h => h) (Or.inl ⟨by rfl, by intro W hW; have c := (HG12.out W hW).cell? 9; simp only [tvL, List.getElem?_cons_succ, List.getElem?_cons_zero] at c; go_simp; try rfl⟩) (by assumption) ?_
          try simp only [Act.put, List.setIfInBounds_toArray, List.set_cons_zero, List.set_cons_succ]
          refine wpAnyH_ready (rs := [7]) (by kernel_rfl) (by simp) ?_
          refine AllReadyH.cons (o := ⟨some 98, _, _, _, _, _⟩) rfl (fun K hK => ?_) AllReadyH.nil
          go_simp
          refine (xtrace_any (b := cc) (t := tc) (HSt.out w52 hHeld) (by simp) hk9).mono ?_
          rintro e w53 ⟨A98, n98, d98, rfl, hb', hT⟩
          obtain rfl : n98 = v.tn := by rw [← hT.len, ← (HTv.out w52 hHeld).len]
          have HT98 : Kp _ := ⟨hT⟩
          refine hK.out _ _ (hHeld.trans (hb'.mono hHeld.size)) (fun hHeld2 => ?_)
          clear hb' hT
          clear hK K hHeld
          have hHeld := hHeld2
          clear hHeld2
          try simp only [Act.put, List.setIfInBounds_toArray, List.set_cons_zero, List.set_cons_succ]
          refine wpAnyH_ready (rs := [10]) (by kernel_rfl) (by simp) ?_
          refine AllReadyH.cons (o := ⟨some 101, _, _, _, _, _⟩) rfl (fun K hK => ?_) AllReadyH.nil
          go_simp
          refine (sametrace_any A98 v.tn d98 v.tA v.tc tc.tr w53 HT98.out (HTv.out w53 hHeld)).mono ?_
          rintro e w54 ⟨rfl, hb'⟩
          refine hK.out _ _ (hHeld.trans (hb'.mono hHeld.size)) (fun hHeld2 => ?_)
          clear hb' HT98
          clear hK K hHeld
          have hHeld := hHeld2
          clear hHeld2
          try simp only [Act.put, List.setIfInBounds_toArray, List.set_cons_zero, List.set_cons_succ]
          refine wpAnyH_take (i := 11) (oi := ⟨some 102, _, _, _, _, _⟩) (v := ?_) rfl (by kernel_rfl) (by kernel_rfl) (by kernel_rfl) (fun _ _ _ h => h) (Or.inl ⟨by rfl, by intro w hSw; go_simp; try rfl⟩) (by assumption) ?_
          try simp only [Act.put, List.setIfInBounds_toArray, List.set_cons_zero, List.set_cons_succ]
          refine wpAnyH_take (i := 12) (oi := ⟨some 103, _, _, _, _, _⟩) (v := ?_) rfl (by kernel_rfl) (by kernel_rfl) (by kernel_rfl) (fun _ _ _ h => h) (Or.inl ⟨by rfl, by intro w hSw; go_simp; try rfl⟩) (by assumption) ?_
          try simp only [Act.put, List.setIfInBounds_toArray, List.set_cons_zero, List.set_cons_succ]
          refine wpAnyH_take (i := 13) (oi := ⟨some 104, _, _, _, _, _⟩) (v := ?_) rfl (by kernel_rfl) (by kernel_rfl) (by kernel_rfl) (fun _ _ _ h => h) (Or.inl ⟨by rfl, by intro w hSw; go_simp; try rfl⟩) (by assumption) ?_
          try simp only [Act.put, List.setIfInBounds_toArray, List.set_cons_zero, List.set_cons_succ]
          refine wpAnyH_take (i := 15) (oi := ⟨some 106, _, _, _, _, _⟩) (v := _) rfl (by kernel_rfl) (by kernel_rfl) (by kernel_rfl) (fun _ _ _ h => h) (yieldsIf_load_mid (by rfl) 42 (.tmp 6) rfl g6 0 rfl (tvL a t) _ (fun W hW => (HG6.out W hW).range (n := 10) rfl) rwT.ty rwT.row (by rw [rwT.size]; rfl)) (by assumption) ?_
          try simp only [Act.put, List.setIfInBounds_toArray, List.set_cons_zero, List.set_cons_succ]
          refine wpAnyH_ready (rs := [14]) (by kernel_rfl) (by simp) ?_
          refine AllReadyH.cons (o := ⟨some 105, _, _, _, _, _⟩) rfl (fun K hK => ?_) AllReadyH.nil
          go_simp
          refine (xcounter_any (b := b) (t := t) (HSt.out w54 hHeld) (by simp)).mono ?_
          rintro e w55 ⟨rfl, rfl⟩
          refine hK.out _ _ hHeld (fun hHeld2 => ?_)
          clear hK K hHeld
          have hHeld := hHeld2
          clear hHeld2
          try simp only [Act.put, List.setIfInBounds_toArray, List.set_cons_zero, List.set_cons_succ]
          refine wpAnyH_ready (rs := [16]) (by kernel_rfl) (by simp) ?_
          refine AllReadyH.cons (o := ⟨some 107, _, _, _, _, _⟩) rfl (fun K hK => ?_) AllReadyH.nil
          go_simp
          refine (rcounter_any w55 a t).mono ?_
          rintro e w56 ⟨rfl, hb'⟩
          refine hK.out _ _ (hHeld.trans (hb'.mono hHeld.size)) (fun hHeld2 => ?_)
          clear hb'
          clear hK K hHeld
          have hHeld := hHeld2
          clear hHeld2
          try simp only [Act.put, List.setIfInBounds_toArray, List.set_cons_zero, List.set_cons_succ]
          refine wpAnyH_take (i := 17) (oi := ⟨some 108, _, _, _, _, _⟩) (v := ?_) rfl (by kernel_rfl) (by kernel_rfl) (by kernel_rfl) (fun _ _ _ h => h) (Or.inl ⟨by rfl, by intro w hSw; go_simp; try rfl⟩) (by assumption) ?_
          try simp only [Act.put, List.setIfInBounds_toArray, List.set_cons_zero, List.set_cons_succ]
          refine wpAnyH_take (i := 18) (oi := ⟨some 109, _, _, _, _, _⟩) (v := ?_) rfl (by kernel_rfl) (by kernel_rfl) (by kernel_rfl) (fun _ _ _ h => h) (Or.inl ⟨by rfl, by intro w hSw; go_simp; try rfl⟩) (by assumption) ?_
          try simp only [Act.put, List.setIfInBounds_toArray, List.set_cons_zero, List.set_cons_succ]
          refine wpAnyH_take (i := 19) (oi := ⟨some 110, _, _, _, _, _⟩) (v := ?_) rfl (by kernel_rfl) (by kernel_rfl) (by kernel_rfl) (fun _ _ _ h => h) (Or.inl ⟨by rfl, by intro w hSw; go_simp; try rfl⟩) (by assumption) ?_
          try simp only [Act.put, List.setIfInBounds_toArray, List.set_cons_zero, List.set_cons_succ]
          refine wpAnyH_take (i := 20) (oi := ⟨some 111, _, _, _, _, _⟩) (v := ?_) rfl (by kernel_rfl) (by kernel_rfl) (by kernel_rfl) (fun _ _ _ h => h) (Or.inl ⟨by rfl, by intro w hSw; go_simp; try rfl⟩) (by assumption) ?_
          try simp only [Act.put, List.setIfInBounds_toArray, List.set_cons_zero, List.set_cons_succ]
          refine wpAnyH_take (i := 22) (oi := ⟨some 113, _, _, _, _, _⟩) (v := ?_) rfl (by kernel_rfl) (by kernel_rfl) (by kernel_rfl) (fun _ _ _ h => h) (Or.inl ⟨by rfl, by intro w hSw; go_simp; try rfl⟩) (by assumption) ?_
          try simp only [Act.put, List.setIfInBounds_toArray, List.set_cons_zero, List.set_cons_succ]
          refine wpAnyH_take (i := 23) (oi := ⟨some 114, _, _, _, _, _⟩) (v := _) rfl (by kernel_rfl) (by kernel_rfl) (by kernel_rfl) (fun _ _ _ h => h) (Or.inl ⟨by rfl, by intro W hW; have c := (HG6.out W hW).cell? 8; simp only [tvL, List.getElem?_cons_succ, List.getElem?_cons_zero] at c; go_simp; try rfl⟩) (by assumption) ?_
          try simp only [Act.put, List.setIfInBounds_toArray, List.set_cons_zero, List.set_cons_succ]
          refine wpAnyH_ready (rs := [21]) (by kernel_rfl) (by simp) ?_
          refine AllReadyH.cons (o := ⟨some 112, _, _, _, _, _⟩) rfl (fun K hK => ?_) AllReadyH.nil
          go_simp
          refine (xdead_any (b := b) (t := t) (HSt.out w56 hHeld) (by simp)).mono ?_
          rintro e w57 ⟨rfl, rfl⟩
          refine hK.out _ _ hHeld (fun hHeld2 => ?_)
          clear hK K hHeld
          have hHeld := hHeld2
          clear hHeld2
          try simp only [Act.put, List.setIfInBounds_toArray, List.set_cons_zero, List.set_cons_succ]
          refine wpAnyH_take (i := 24) (oi := ⟨some 115, _, _, _, _, _⟩) (v := ?_) rfl (by kernel_rfl) (by kernel_rfl) (by kernel_rfl) (fun _ _ _ h => h) (Or.inl ⟨by rfl, by intro w hSw; go_simp; try rfl⟩) (by assumption) ?_
          try simp only [Act.put, List.setIfInBounds_toArray, List.set_cons_zero, List.set_cons_succ]
          refine wpAnyH_take (i := 25) (oi := ⟨some 116, _, _, _, _, _⟩) (v := ?_) rfl (by kernel_rfl) (by kernel_rfl) (by kernel_rfl) (fun _ _ _ h => h) (Or.inl ⟨by rfl, by intro w hSw; go_simp; try rfl⟩) (by assumption) ?_
          try simp only [Act.put, List.setIfInBounds_toArray, List.set_cons_zero, List.set_cons_succ]
          refine wpAnyH_take (i := 26) (oi := ⟨some 117, _, _, _, _, _⟩) (v := ?_) rfl (by kernel_rfl) (by kernel_rfl) (by kernel_rfl) (fun _ _ _ h => h) (Or.inl ⟨by rfl, by intro w hSw; go_simp; try rfl⟩) (by assumption) ?_
          try simp only [Act.put, List.setIfInBounds_toArray, List.set_cons_zero, List.set_cons_succ]
          refine wpAnyH_ready (rs := [27]) (by kernel_rfl) (by simp) ?_
          refine AllReadyH.cons (o := ⟨some 118, _, _, _, _, _⟩) rfl (fun K hK => ?_) AllReadyH.nil
          go_simp
          refine (known6_any w57).mono ?_
          rintro e w58 ⟨rfl, hb'⟩
          refine hK.out _ _ (hHeld.trans (hb'.mono hHeld.size)) (fun hHeld2 => ?_)
          clear hb'
          clear hK K hHeld
          have hHeld := hHeld2
          clear hHeld2
          try simp only [Act.put, List.setIfInBounds_toArray, List.set_cons_zero, List.set_cons_succ]
          refine wpAnyH_take (i := 28) (oi := ⟨some 119, _, _, _, _, _⟩) (v := ?_) rfl (by kernel_rfl) (by kernel_rfl) (by kernel_rfl) (fun _ _ _ h => h) (Or.inl ⟨by rfl, by intro w hSw; go_simp; try rfl⟩) (by assumption) ?_
          try simp only [Act.put, List.setIfInBounds_toArray, List.set_cons_zero, List.set_cons_succ]
          refine wpAnyH_take (i := 29) (oi := ⟨some 4, _, _, _, _, _⟩) (v := ?_) rfl (by kernel_rfl) (by kernel_rfl) (by kernel_rfl) (fun _ _ _ h => h) (Or.inl ⟨by rfl, by intro w hSw; go_simp; try rfl⟩) (by assumption) ?_
          try simp only [Act.put, List.setIfInBounds_toArray, List.set_cons_zero, List.set_cons_succ]
          refine wpAnyH_done (by kernel_rfl) ?_ _
          go_wp2
          go_ret
          exact ⟨rfl, HBw.out.trans (hHeld.mono HBw.out.size)⟩
        | succ g3 =>
          have hlt2 : (j : Int) < (m2 : Int) := by omega
          have hjm : j < m2 := by omega
          have hjd : j < es.length := by rw [HL2.out]; exact hjm
          obtain ⟨bd, od, A', n', c', hAe, hdq, hby⟩ := DQ.of HE.out hjm
          have hdk : DdOk (es[j]'hjd) ∧ (es[j]'hjd).bs.length ≤ 3000 := ⟨HE.out.ok _ (List.getElem_mem hjd), HM2.out.2 _ (List.getElem_mem hjd)⟩
          obtain ⟨d, hd⟩ : ∃ d, d = es[j]'hjd := ⟨_, rfl⟩
          rw [← hd] at hdq hby hdk
          have HQ : Kp _ := ⟨hdq⟩
          have HBy : Kp _ := ⟨hby⟩
          have HDk : Kp _ := ⟨hdk⟩
          subst hAe
          clear hd hdq hby hdk
          obtain ⟨q0, q1, q2, q3, q4⟩ := HQ.out.at_ wr HS.out.below
          go_wp2_with fail
          have HH : Kp _ := ⟨HS.out.hold HBy.out (by have := HBy.out.len; have := HDk.out.2; omega)⟩
          refine (kdid_any HH.out (by omega) d HDk.out.1 A' n' c' (by simp)).mono ?_
          rintro e w5 ⟨A5, n5, c5, rfl, S5⟩
          have H5 : Kp (Bk w00 w5 (i + j + 1) [(cc, didW tc d), (b, t)] [(A5, n5, c5, didL tc d), (A', n', c', d.bs)] [(v, tc), (a, t)] [(g12, tvL v tc), (g6, tvL a t)]) := ⟨S5.drop (fun x hx => by simp at hx ⊢; rcases hx with rfl | rfl <;> simp) (fun x hx => hx)⟩
          have HT6 : Kp (tc.tr.length ≤ i + j ∧ tc.reads ≤ i + j) := ⟨⟨(HS.out.small (cc, tc) (by simp)).tr, (HS.out.small (cc, tc) (by simp)).reads⟩⟩
          clear S5 HH HS q0 q1 q2 q3 q4
          go_wp2_with fail
          have hB0 := H5.out.drew
          clear H5
          refine wp_region_any (by kernel_rfl) ?_
          change wpAny _ _ _ _ _ _ _ w5.drew
          generalize w5.drew = wS at *
          have HB : Kp _ := ⟨hB0⟩
          clear hB0
          refine wpAny_take (i := 1) (oi := ⟨some 73, _, _, _, _, _⟩) (v := ?_) rfl (by kernel_rfl) (by kernel_rfl) (by kernel_rfl) (fun _ _ _ h => h) (Or.inl ⟨by rfl, by intro w; go_simp; try rfl⟩) ?_
          try simp only [Act.put, List.setIfInBounds_toArray, List.set_cons_zero, List.set_cons_succ]
          refine wpAny_take (i := 2) (oi := ⟨some 74, _, _, _, _, _⟩) (v := ?_) rfl (by kernel_rfl) (by kernel_rfl) (by kernel_rfl) (fun _ _ _ h => h) (Or.inl ⟨by rfl, by intro w; go_simp; try rfl⟩) ?_
          try simp only [Act.put, List.setIfInBounds_toArray, List.set_cons_zero, List.set_cons_succ]
          refine wpAny_take (i := 3) (oi := ⟨some 75, _, _, _, _, _⟩) (v := ?_) rfl (by kernel_rfl) (by kernel_rfl) (by kernel_rfl) (fun _ _ _ h => h) (Or.inl ⟨by rfl, by intro w; go_simp; try rfl⟩) ?_
          try simp only [Act.put, List.setIfInBounds_toArray, List.set_cons_zero, List.set_cons_succ]
          refine wpAny_ready (rs := [0, 4, 10]) (by kernel_rfl) (by simp) ?_
          refine AllReady.cons (o := ⟨some 72, _, _, _, _, _⟩) rfl (fun K hK => ?_) (AllReady.cons (o := ⟨some 76, _, _, _, _, _⟩) rfl (fun K hK => ?_) (AllReady.cons (o := ⟨some 16, _, _, _, _, _⟩) rfl (fun K hK => ?_) AllReady.nil))
          · refine step_load rwT rfl (.tmp 12) rfl rfl (HB.out.at (g := g12) (cs := tvL v tc) (by simp)) (Nat.le_refl _) (vs := tvL v tc) rfl ?_
            refine hK _ _ ?_
            clear hK K
            try simp only [Act.put, List.setIfInBounds_toArray, List.set_cons_zero, List.set_cons_succ]
            refine wpAny_ready (rs := [4, 10]) (by kernel_rfl) (by simp) ?_
            refine AllReady.cons (o := ⟨some 76, _, _, _, _, _⟩) rfl (fun K hK => ?_) (AllReady.cons (o := ⟨some 16, _, _, _, _, _⟩) rfl (fun K hK => ?_) AllReady.nil)
            · obtain ⟨q0, q1, q2, q3, q4⟩ := HQ.out.at_ wS HB.out.below
              go_simp
              refine hK _ _ ?_
              clear hK K q0 q1 q2 q3 q4
              try simp only [Act.put, List.setIfInBounds_toArray, List.set_cons_zero, List.set_cons_succ]
              refine wpAny_ready (rs := [5, 10]) (by kernel_rfl) (by simp) ?_
              refine AllReady.cons (o := ⟨some 77, _, _, _, _, _⟩) rfl (fun K hK => ?_) (AllReady.cons (o := ⟨some 16, _, _, _, _, _⟩) rfl (fun K hK => ?_) AllReady.nil)
              · go_simp
                refine (kstep_any HB.out ⟨by have := HT6.out.1; omega, by have := HT6.out.2; omega⟩ (by have := HVl.out; omega) d HDk.out.1 A' n' c' (by simp)).mono ?_
                rintro e w62 ⟨a7, A7, n7, c7, rfl, hl7, S7⟩
                replace HB : Kp _ := ⟨S7⟩
                have HA7 : Kp (a7.ln ≤ v.ln + 1) := ⟨hl7⟩
                clear hl7 S7
                refine hK _ _ ?_
                clear hK K
                try simp only [Act.put, List.setIfInBounds_toArray, List.set_cons_zero, List.set_cons_succ]
                refine wpAny_take (i := 6) (oi := ⟨some 71, _, _, _, _, _⟩) (v := ?_) rfl (by kernel_rfl) (by kernel_rfl) (by kernel_rfl) (fun _ _ _ h => h) (Or.inl ⟨by rfl, by intro w; go_simp; try rfl⟩) ?_
                try simp only [Act.put, List.setIfInBounds_toArray, List.set_cons_zero, List.set_cons_succ]
                refine wpAny_take (i := 7) (oi := ⟨some 78, _, _, _, _, _⟩) (v := ?_) rfl (by kernel_rfl) (by kernel_rfl) (by kernel_rfl) (fun _ _ _ h => h) (Or.inl ⟨by rfl, by intro w; go_simp; try rfl⟩) ?_
                try simp only [Act.put, List.setIfInBounds_toArray, List.set_cons_zero, List.set_cons_succ]
                refine wpAny_take (i := 8) (oi := ⟨some 79, _, _, _, _, _⟩) (v := ?_) rfl (by kernel_rfl) (by kernel_rfl) (by kernel_rfl) (fun _ _ _ h => h) (Or.inl ⟨by rfl, by intro w; go_simp; try rfl⟩) ?_
                try simp only [Act.put, List.setIfInBounds_toArray, List.set_cons_zero, List.set_cons_succ]
                refine wpAny_take (i := 9) (oi := ⟨some 80, _, _, _, _, _⟩) (v := ?_) rfl (by kernel_rfl) (by kernel_rfl) (by kernel_rfl) (fun _ _ _ h => h) (Or.inl ⟨by rfl, by intro w; go_simp; try rfl⟩) ?_
                try simp only [Act.put, List.setIfInBounds_toArray, List.set_cons_zero, List.set_cons_succ]
                refine wpAny_ready (rs := [10]) (by kernel_rfl) (by simp) ?_
                refine AllReady.cons (o := ⟨some 16, _, _, _, _, _⟩) rfl (fun K hK => ?_) AllReady.nil
                refine step_alloc tyT rfl rfl ?_
                intro w63 hk8 hb8
                have HB' := HB.out.var hb8 hk8 zeroT_noB
                have hne : g12 < w62.heap.size := (HB.out.at (g := g12) (cs := tvL v tc) (by simp)).lt
                obtain ⟨g8, hg8⟩ : ∃ g, g = w62.heap.size := ⟨_, rfl⟩
                rw [← hg8] at HB' hne ⊢
                replace HB : Kp _ := ⟨HB'⟩
                have HN8 : Kp (g12 < g8) := ⟨hne⟩
                clear hk8 hb8 HB' hne hg8
                refine hK _ _ ?_
                clear hK K
                try simp only [Act.put, List.setIfInBounds_toArray, List.set_cons_zero, List.set_cons_succ]
                refine wpAny_ready (rs := [11]) (by kernel_rfl) (by simp) ?_
                refine AllReady.cons (o := ⟨none, _, _, _, _, _⟩) rfl (fun K hK => ?_) AllReady.nil
                refine step_store (vs := tvL a7 (didW tc d)) rwT rfl (.tmp 16) (.tmp 78) rfl rfl rfl (HB.out.at (g := g8) (cs := zeroT') (by simp)) rfl (by decide) (tvL_one _ _) ?_
                intro w64 hk9 ho9
                have HB9 := HB.out.put (g := g8) (cs := zeroT') (ks' := [(g8, tvL a7 (didW tc d)), (g12, tvL v tc), (g6, tvL a t)]) (by simp) ho9 hk9 (tvL_noB _ _) (fun x hx => by have := HN8.out; have := HNe.out; simp at hx ⊢; rcases hx with rfl | rfl | rfl; exact .inl rfl; exact .inr ⟨.inr (.inl rfl), by simp; omega⟩; exact .inr ⟨.inr (.inr rfl), by simp; omega⟩)
                replace HB : Kp _ := ⟨HB9⟩
                clear hk9 ho9 HB9
                refine hK _ _ ?_
                clear hK K
                try simp only [Act.put]
                refine wpAny_take (i := 12) (oi := ⟨some 17, _, _, _, _, _⟩) (v := ?_) rfl (by kernel_rfl) (by kernel_rfl) (by kernel_rfl) (fun _ _ _ h => h) (Or.inl ⟨by rfl, by intro w; go_simp; try rfl⟩) ?_
                try simp only [Act.put, List.setIfInBounds_toArray, List.set_cons_zero, List.set_cons_succ]
                refine wpAny_take (i := 13) (oi := ⟨some 18, _, _, _, _, _⟩) (v := ?_) rfl (by kernel_rfl) (by kernel_rfl) (by kernel_rfl) (fun _ _ _ h => h) (Or.inl ⟨by rfl, by intro w; go_simp; try rfl⟩) ?_
                try simp only [Act.put, List.setIfInBounds_toArray, List.set_cons_zero, List.set_cons_succ]
                refine wpAny_done (by kernel_rfl) ?_ _
                have HK8 : Kp _ := ⟨HB.out.at (g := g8) (cs := tvL a7 (didW tc d)) (by simp)⟩
                have HK6 : Kp _ := ⟨HB.out.at (g := g12) (cs := tvL v tc) (by simp)⟩
                have HL7 : Kp _ := ⟨tvL_length a7 (didW tc d)⟩
                have HL6 : Kp _ := ⟨tvL_length v tc⟩
                have HO7 : Kp _ := ⟨tvL_one a7 (didW tc d)⟩
                go_wp2_with (first | (with_reducible refine wpList_loadAll (o := ⟨some 81, _, _, _, _, _⟩) rwT rfl (.tmp 16) rfl rfl HK8.out HL7.out ?_) | (with_reducible refine wpList_storeAll (o := ⟨none, _, _, _, _, _⟩) (vs := tvL a7 (didW tc d)) rwT rfl (.tmp 12) (.tmp 81) rfl rfl HK6.out HL6.out HL7.out HO7.out rfl ?_))
                intro wE hkE hoE
                have HF : Kp (Bk w00 wE (i + j + 1) [(cc, didW tc d), (b, t)] [(A7, n7, c7, didL tc d), (A5, n5, c5, didL tc d)] [(a7, didW tc d), (a, t)] [(g12, tvL a7 (didW tc d)), (g6, tvL a t)]) := ⟨(HB.out.put (g := g12) (cs := tvL v tc) (ks' := [(g12, tvL a7 (didW tc d)), (g6, tvL a t)]) (by simp) hoE hkE (tvL_noB _ _) (fun x hx => by have := HNe.out; simp at hx ⊢; rcases hx with rfl | rfl; exact .inl rfl; exact .inr ⟨.inr (.inr rfl), by simp; omega⟩)).drop (fun x hx => by simp at hx ⊢; rcases hx with rfl | rfl <;> simp) (fun x hx => by simp at hx ⊢; rcases hx with rfl | rfl <;> simp)⟩
                have HL9 : Kp (a7.ln ≤ i + (j + 1)) := ⟨by have := HA7.out; have := HVl.out; omega⟩
                clear hkE hoE HK8 HK6 HL7 HL6 HO7 HB HA7
                go_wp2_with fail
                refine (st_same HF.out.st (A := A5) (n := n5) (c := c5) (B := A7) (m := n7) (d := c7) (l := didL tc d) (l' := didL tc d) (by simp) (by simp)).mono ?_
                rintro e wG ⟨rfl, rfl⟩
                have hbb : (didL tc d == didL tc d) = true := by simp
                rw [hbb]
                have hnn : (didB tc d != didB tc d) = false := by simp
                go_wp2
                go_roundg g3
                case measure => omega
                case rel => exact ⟨j + 1, by omega, by go_num, ⟨a7, didW tc d, HL9.out, by have h9 := HF.out.drop (hs2 := []) (l2 := [(a7, didW tc d), (a, t)]) (fun x hx => by cases hx) (fun x hx => hx); rwa [Nat.add_assoc] at h9⟩⟩
              · refine step_alloc tyT rfl rfl ?_
                intro w65 hk8 hb8
                have HB' := HB.out.var hb8 hk8 zeroT_noB
                have hne : g12 < wS.heap.size := (HB.out.at (g := g12) (cs := tvL v tc) (by simp)).lt
                obtain ⟨g8, hg8⟩ : ∃ g, g = wS.heap.size := ⟨_, rfl⟩
                rw [← hg8] at HB' hne ⊢
                replace HB : Kp _ := ⟨HB'⟩
                have HN8 : Kp (g12 < g8) := ⟨hne⟩
                clear hk8 hb8 HB' hne hg8
                refine hK _ _ ?_
                clear hK K
                try simp only [Act.put, List.setIfInBounds_toArray, List.set_cons_zero, List.set_cons_succ]
                refine wpAny_ready (rs := [5]) (by kernel_rfl) (by simp) ?_
                refine AllReady.cons (o := ⟨some 77, _, _, _, _, _⟩) rfl (fun K hK => ?_) AllReady.nil
                go_simp
                refine (kstep_any HB.out ⟨by have := HT6.out.1; omega, by have := HT6.out.2; omega⟩ (by have := HVl.out; omega) d HDk.out.1 A' n' c' (by simp)).mono ?_
                rintro e w66 ⟨a7, A7, n7, c7, rfl, hl7, S7⟩
                replace HB : Kp _ := ⟨S7⟩
                have HA7 : Kp (a7.ln ≤ v.ln + 1) := ⟨hl7⟩
                clear hl7 S7
                refine hK _ _ ?_
                clear hK K
                try simp only [Act.put, List.setIfInBounds_toArray, List.set_cons_zero, List.set_cons_succ]
                refine wpAny_take (i := 6) (oi := ⟨some 71, _, _, _, _, _⟩) (v := ?_) rfl (by kernel_rfl) (by kernel_rfl) (by kernel_rfl) (fun _ _ _ h => h) (Or.inl ⟨by rfl, by intro w; go_simp; try rfl⟩) ?_
                try simp only [Act.put, List.setIfInBounds_toArray, List.set_cons_zero, List.set_cons_succ]
                refine wpAny_take (i := 7) (oi := ⟨some 78, _, _, _, _, _⟩) (v := ?_) rfl (by kernel_rfl) (by kernel_rfl) (by kernel_rfl) (fun _ _ _ h => h) (Or.inl ⟨by rfl, by intro w; go_simp; try rfl⟩) ?_
                try simp only [Act.put, List.setIfInBounds_toArray, List.set_cons_zero, List.set_cons_succ]
                refine wpAny_take (i := 8) (oi := ⟨some 79, _, _, _, _, _⟩) (v := ?_) rfl (by kernel_rfl) (by kernel_rfl) (by kernel_rfl) (fun _ _ _ h => h) (Or.inl ⟨by rfl, by intro w; go_simp; try rfl⟩) ?_
                try simp only [Act.put, List.setIfInBounds_toArray, List.set_cons_zero, List.set_cons_succ]
                refine wpAny_take (i := 9) (oi := ⟨some 80, _, _, _, _, _⟩) (v := ?_) rfl (by kernel_rfl) (by kernel_rfl) (by kernel_rfl) (fun _ _ _ h => h) (Or.inl ⟨by rfl, by intro w; go_simp; try rfl⟩) ?_
                try simp only [Act.put, List.setIfInBounds_toArray, List.set_cons_zero, List.set_cons_succ]
                refine wpAny_ready (rs := [11]) (by kernel_rfl) (by simp) ?_
                refine AllReady.cons (o := ⟨none, _, _, _, _, _⟩) rfl (fun K hK => ?_) AllReady.nil
                refine step_store (vs := tvL a7 (didW tc d)) rwT rfl (.tmp 16) (.tmp 78) rfl rfl rfl (HB.out.at (g := g8) (cs := zeroT') (by simp)) rfl (by decide) (tvL_one _ _) ?_
                intro w67 hk9 ho9
                have HB9 := HB.out.put (g := g8) (cs := zeroT') (ks' := [(g8, tvL a7 (didW tc d)), (g12, tvL v tc), (g6, tvL a t)]) (by simp) ho9 hk9 (tvL_noB _ _) (fun x hx => by have := HN8.out; have := HNe.out; simp at hx ⊢; rcases hx with rfl | rfl | rfl; exact .inl rfl; exact .inr ⟨.inr (.inl rfl), by simp; omega⟩; exact .inr ⟨.inr (.inr rfl), by simp; omega⟩)
                replace HB : Kp _ := ⟨HB9⟩
                clear hk9 ho9 HB9
                refine hK _ _ ?_
                clear hK K
                try simp only [Act.put]
                refine wpAny_take (i := 12) (oi := ⟨some 17, _, _, _, _, _⟩) (v := ?_) rfl (by kernel_rfl) (by kernel_rfl) (by kernel_rfl) (fun _ _ _ h => h) (Or.inl ⟨by rfl, by intro w; go_simp; try rfl⟩) ?_
                try simp only [Act.put, List.setIfInBounds_toArray, List.set_cons_zero, List.set_cons_succ]
                refine wpAny_take (i := 13) (oi := ⟨some 18, _, _, _, _, _⟩) (v := ?_) rfl (by kernel_rfl) (by kernel_rfl) (by kernel_rfl) (fun _ _ _ h => h) (Or.inl ⟨by rfl, by intro w; go_simp; try rfl⟩) ?_
                try simp only [Act.put, List.setIfInBounds_toArray, List.set_cons_zero, List.set_cons_succ]
                refine wpAny_done (by kernel_rfl) ?_ _
                have HK8 : Kp _ := ⟨HB.out.at (g := g8) (cs := tvL a7 (didW tc d)) (by simp)⟩
                have HK6 : Kp _ := ⟨HB.out.at (g := g12) (cs := tvL v tc) (by simp)⟩
                have HL7 : Kp _ := ⟨tvL_length a7 (didW tc d)⟩
                have HL6 : Kp _ := ⟨tvL_length v tc⟩
                have HO7 : Kp _ := ⟨tvL_one a7 (didW tc d)⟩
                go_wp2_with (first | (with_reducible refine wpList_loadAll (o := ⟨some 81, _, _, _, _, _⟩) rwT rfl (.tmp 16) rfl rfl HK8.out HL7.out ?_) | (with_reducible refine wpList_storeAll (o := ⟨none, _, _, _, _, _⟩) (vs := tvL a7 (didW tc d)) rwT rfl (.tmp 12) (.tmp 81) rfl rfl HK6.out HL6.out HL7.out HO7.out rfl ?_))
                intro wE hkE hoE
                have HF : Kp (Bk w00 wE (i + j + 1) [(cc, didW tc d), (b, t)] [(A7, n7, c7, didL tc d), (A5, n5, c5, didL tc d)] [(a7, didW tc d), (a, t)] [(g12, tvL a7 (didW tc d)), (g6, tvL a t)]) := ⟨(HB.out.put (g := g12) (cs := tvL v tc) (ks' := [(g12, tvL a7 (didW tc d)), (g6, tvL a t)]) (by simp) hoE hkE (tvL_noB _ _) (fun x hx => by have := HNe.out; simp at hx ⊢; rcases hx with rfl | rfl; exact .inl rfl; exact .inr ⟨.inr (.inr rfl), by simp; omega⟩)).drop (fun x hx => by simp at hx ⊢; rcases hx with rfl | rfl <;> simp) (fun x hx => by simp at hx ⊢; rcases hx with rfl | rfl <;> simp)⟩
                have HL9 : Kp (a7.ln ≤ i + (j + 1)) := ⟨by have := HA7.out; have := HVl.out; omega⟩
                clear hkE hoE HK8 HK6 HL7 HL6 HO7 HB HA7
                go_wp2_with fail
                refine (st_same HF.out.st (A := A5) (n := n5) (c := c5) (B := A7) (m := n7) (d := c7) (l := didL tc d) (l' := didL tc d) (by simp) (by simp)).mono ?_
                rintro e wG ⟨rfl, rfl⟩
                have hbb : (didL tc d == didL tc d) = true := by simp
                rw [hbb]
                have hnn : (didB tc d != didB tc d) = false := by simp
                go_wp2
                go_roundg g3
                case measure => omega
                case rel => exact ⟨j + 1, by omega, by go_num, ⟨a7, didW tc d, HL9.out, by have h9 := HF.out.drop (hs2 := []) (l2 := [(a7, didW tc d), (a, t)]) (fun x hx => by cases hx) (fun x hx => hx); rwa [Nat.add_assoc] at h9⟩⟩
            · refine step_alloc tyT rfl rfl ?_
              intro w68 hk8 hb8
              have HB' := HB.out.var hb8 hk8 zeroT_noB
              have hne : g12 < wS.heap.size := (HB.out.at (g := g12) (cs := tvL v tc) (by simp)).lt
              obtain ⟨g8, hg8⟩ : ∃ g, g = wS.heap.size := ⟨_, rfl⟩
              rw [← hg8] at HB' hne ⊢
              replace HB : Kp _ := ⟨HB'⟩
              have HN8 : Kp (g12 < g8) := ⟨hne⟩
              clear hk8 hb8 HB' hne hg8
              refine hK _ _ ?_
              clear hK K
              try simp only [Act.put, List.setIfInBounds_toArray, List.set_cons_zero, List.set_cons_succ]
              refine wpAny_ready (rs := [4]) (by kernel_rfl) (by simp) ?_
              refine AllReady.cons (o := ⟨some 76, _, _, _, _, _⟩) rfl (fun K hK => ?_) AllReady.nil
              obtain ⟨q0, q1, q2, q3, q4⟩ := HQ.out.at_ w68 HB.out.below
              go_simp
              refine hK _ _ ?_
              clear hK K q0 q1 q2 q3 q4
              try simp only [Act.put, List.setIfInBounds_toArray, List.set_cons_zero, List.set_cons_succ]
              refine wpAny_ready (rs := [5]) (by kernel_rfl) (by simp) ?_
              refine AllReady.cons (o := ⟨some 77, _, _, _, _, _⟩) rfl (fun K hK => ?_) AllReady.nil
              go_simp
              refine (kstep_any HB.out ⟨by have := HT6.out.1; omega, by have := HT6.out.2; omega⟩ (by have := HVl.out; omega) d HDk.out.1 A' n' c' (by simp)).mono ?_
              rintro e w70 ⟨a7, A7, n7, c7, rfl, hl7, S7⟩
              replace HB : Kp _ := ⟨S7⟩
              have HA7 : Kp (a7.ln ≤ v.ln + 1) := ⟨hl7⟩
              clear hl7 S7
              refine hK _ _ ?_
              clear hK K
              try simp only [Act.put, List.setIfInBounds_toArray, List.set_cons_zero, List.set_cons_succ]
              refine wpAny_take (i := 6) (oi := ⟨some 71, _, _, _, _, _⟩) (v := ?_) rfl (by kernel_rfl) (by kernel_rfl) (by kernel_rfl) (fun _ _ _ h => h) (Or.inl ⟨by rfl, by intro w; go_simp; try rfl⟩) ?_
              try simp only [Act.put, List.setIfInBounds_toArray, List.set_cons_zero, List.set_cons_succ]
              refine wpAny_take (i := 7) (oi := ⟨some 78, _, _, _, _, _⟩) (v := ?_) rfl (by kernel_rfl) (by kernel_rfl) (by kernel_rfl) (fun _ _ _ h => h) (Or.inl ⟨by rfl, by intro w; go_simp; try rfl⟩) ?_
              try simp only [Act.put, List.setIfInBounds_toArray, List.set_cons_zero, List.set_cons_succ]
              refine wpAny_take (i := 8) (oi := ⟨some 79, _, _, _, _, _⟩) (v := ?_) rfl (by kernel_rfl) (by kernel_rfl) (by kernel_rfl) (fun _ _ _ h => h) (Or.inl ⟨by rfl, by intro w; go_simp; try rfl⟩) ?_
              try simp only [Act.put, List.setIfInBounds_toArray, List.set_cons_zero, List.set_cons_succ]
              refine wpAny_take (i := 9) (oi := ⟨some 80, _, _, _, _, _⟩) (v := ?_) rfl (by kernel_rfl) (by kernel_rfl) (by kernel_rfl) (fun _ _ _ h => h) (Or.inl ⟨by rfl, by intro w; go_simp; try rfl⟩) ?_
              try simp only [Act.put, List.setIfInBounds_toArray, List.set_cons_zero, List.set_cons_succ]
              refine wpAny_ready (rs := [11]) (by kernel_rfl) (by simp) ?_
              refine AllReady.cons (o := ⟨none, _, _, _, _, _⟩) rfl (fun K hK => ?_) AllReady.nil
              refine step_store (vs := tvL a7 (didW tc d)) rwT rfl (.tmp 16) (.tmp 78) rfl rfl rfl (HB.out.at (g := g8) (cs := zeroT') (by simp)) rfl (by decide) (tvL_one _ _) ?_
              intro w71 hk9 ho9
              have HB9 := HB.out.put (g := g8) (cs := zeroT') (ks' := [(g8, tvL a7 (didW tc d)), (g12, tvL v tc), (g6, tvL a t)]) (by simp) ho9 hk9 (tvL_noB _ _) (fun x hx => by have := HN8.out; have := HNe.out; simp at hx ⊢; rcases hx with rfl | rfl | rfl; exact .inl rfl; exact .inr ⟨.inr (.inl rfl), by simp; omega⟩; exact .inr ⟨.inr (.inr rfl), by simp; omega⟩)
              replace HB : Kp _ := ⟨HB9⟩
              clear hk9 ho9 HB9
              refine hK _ _ ?_
              clear hK K
              try simp only [Act.put]
              refine wpAny_take (i := 12) (oi := ⟨some 17, _, _, _, _, _⟩) (v := ?_) rfl (by kernel_rfl) (by kernel_rfl) (by kernel_rfl) (fun _ _ _ h => h) (Or.inl ⟨by rfl, by intro w; go_simp; try rfl⟩) ?_
              try simp only [Act.put, List.setIfInBounds_toArray, List.set_cons_zero, List.set_cons_succ]
              refine wpAny_take (i := 13) (oi := ⟨some 18, _, _, _, _, _⟩) (v := ?_) rfl (by kernel_rfl) (by kernel_rfl) (by kernel_rfl) (fun _ _ _ h => h) (Or.inl ⟨by rfl, by intro w; go_simp; try rfl⟩) ?_
              try simp only [Act.put, List.setIfInBounds_toArray, List.set_cons_zero, List.set_cons_succ]
              refine wpAny_done (by kernel_rfl) ?_ _
              have HK8 : Kp _ := ⟨HB.out.at (g := g8) (cs := tvL a7 (didW tc d)) (by simp)⟩
              have HK6 : Kp _ := ⟨HB.out.at (g := g12) (cs := tvL v tc) (by simp)⟩
              have HL7 : Kp _ := ⟨tvL_length a7 (didW tc d)⟩
              have HL6 : Kp _ := ⟨tvL_length v tc⟩
              have HO7 : Kp _ := ⟨tvL_one a7 (didW tc d)⟩
              go_wp2_with (first | (with_reducible refine wpList_loadAll (o := ⟨some 81, _, _, _, _, _⟩) rwT rfl (.tmp 16) rfl rfl HK8.out HL7.out ?_) | (with_reducible refine wpList_storeAll (o := ⟨none, _, _, _, _, _⟩) (vs := tvL a7 (didW tc d)) rwT rfl (.tmp 12) (.tmp 81) rfl rfl HK6.out HL6.out HL7.out HO7.out rfl ?_))
              intro wE hkE hoE
              have HF : Kp (Bk w00 wE (i + j + 1) [(cc, didW tc d), (b, t)] [(A7, n7, c7, didL tc d), (A5, n5, c5, didL tc d)] [(a7, didW tc d), (a, t)] [(g12, tvL a7 (didW tc d)), (g6, tvL a t)]) := ⟨(HB.out.put (g := g12) (cs := tvL v tc) (ks' := [(g12, tvL a7 (didW tc d)), (g6, tvL a t)]) (by simp) hoE hkE (tvL_noB _ _) (fun x hx => by have := HNe.out; simp at hx ⊢; rcases hx with rfl | rfl; exact .inl rfl; exact .inr ⟨.inr (.inr rfl), by simp; omega⟩)).drop (fun x hx => by simp at hx ⊢; rcases hx with rfl | rfl <;> simp) (fun x hx => by simp at hx ⊢; rcases hx with rfl | rfl <;> simp)⟩
              have HL9 : Kp (a7.ln ≤ i + (j + 1)) := ⟨by have := HA7.out; have := HVl.out; omega⟩
              clear hkE hoE HK8 HK6 HL7 HL6 HO7 HB HA7
              go_wp2_with fail
              refine (st_same HF.out.st (A := A5) (n := n5) (c := c5) (B := A7) (m := n7) (d := c7) (l := didL tc d) (l' := didL tc d) (by simp) (by simp)).mono ?_
              rintro e wG ⟨rfl, rfl⟩
              have hbb : (didL tc d == didL tc d) = true := by simp
              rw [hbb]
              have hnn : (didB tc d != didB tc d) = false := by simp
              go_wp2
              go_roundg g3
              case measure => omega
              case rel => exact ⟨j + 1, by omega, by go_num, ⟨a7, didW tc d, HL9.out, by have h9 := HF.out.drop (hs2 := []) (l2 := [(a7, didW tc d), (a, t)]) (fun x hx => by cases hx) (fun x hx => hx); rwa [Nat.add_assoc] at h9⟩⟩
          · obtain ⟨q0, q1, q2, q3, q4⟩ := HQ.out.at_ wS HB.out.below
            go_simp
            refine hK _ _ ?_
            clear hK K q0 q1 q2 q3 q4
            try simp only [Act.put, List.setIfInBounds_toArray, List.set_cons_zero, List.set_cons_succ]
            refine wpAny_ready (rs := [0, 10]) (by kernel_rfl) (by simp) ?_
            refine AllReady.cons (o := ⟨some 72, _, _, _, _, _⟩) rfl (fun K hK => ?_) (AllReady.cons (o := ⟨some 16, _, _, _, _, _⟩) rfl (fun K hK => ?_) AllReady.nil)
            · refine step_load rwT rfl (.tmp 12) rfl rfl (HB.out.at (g := g12) (cs := tvL v tc) (by simp)) (Nat.le_refl _) (vs := tvL v tc) rfl ?_
              refine hK _ _ ?_
              clear hK K
              try simp only [Act.put, List.setIfInBounds_toArray, List.set_cons_zero, List.set_cons_succ]
              refine wpAny_ready (rs := [5, 10]) (by kernel_rfl) (by simp) ?_
              refine AllReady.cons (o := ⟨some 77, _, _, _, _, _⟩) rfl (fun K hK => ?_) (AllReady.cons (o := ⟨some 16, _, _, _, _, _⟩) rfl (fun K hK => ?_) AllReady.nil)
              · go_simp
                refine (kstep_any HB.out ⟨by have := HT6.out.1; omega, by have := HT6.out.2; omega⟩ (by have := HVl.out; omega) d HDk.out.1 A' n' c' (by simp)).mono ?_
                rintro e w73 ⟨a7, A7, n7, c7, rfl, hl7, S7⟩
                replace HB : Kp _ := ⟨S7⟩
                have HA7 : Kp (a7.ln ≤ v.ln + 1) := ⟨hl7⟩
                clear hl7 S7
                refine hK _ _ ?_
                clear hK K
                try simp only [Act.put, List.setIfInBounds_toArray, List.set_cons_zero, List.set_cons_succ]
                refine wpAny_take (i := 6) (oi := ⟨some 71, _, _, _, _, _⟩) (v := ?_) rfl (by kernel_rfl) (by kernel_rfl) (by kernel_rfl) (fun _ _ _ h => h) (Or.inl ⟨by rfl, by intro w; go_simp; try rfl⟩) ?_
                try simp only [Act.put, List.setIfInBounds_toArray, List.set_cons_zero, List.set_cons_succ]
                refine wpAny_take (i := 7) (oi := ⟨some 78, _, _, _, _, _⟩) (v := ?_) rfl (by kernel_rfl) (by kernel_rfl) (by kernel_rfl) (fun _ _ _ h => h) (Or.inl ⟨by rfl, by intro w; go_simp; try rfl⟩) ?_
                try simp only [Act.put, List.setIfInBounds_toArray, List.set_cons_zero, List.set_cons_succ]
                refine wpAny_take (i := 8) (oi := ⟨some 79, _, _, _, _, _⟩) (v := ?_) rfl (by kernel_rfl) (by kernel_rfl) (by kernel_rfl) (fun _ _ _ h => h) (Or.inl ⟨by rfl, by intro w; go_simp; try rfl⟩) ?_
                try simp only [Act.put, List.setIfInBounds_toArray, List.set_cons_zero, List.set_cons_succ]
                refine wpAny_take (i := 9) (oi := ⟨some 80, _, _, _, _, _⟩) (v := ?_) rfl (by kernel_rfl) (by kernel_rfl) (by kernel_rfl) (fun _ _ _ h => h) (Or.inl ⟨by rfl, by intro w; go_simp; try rfl⟩) ?_
                try simp only [Act.put, List.setIfInBounds_toArray, List.set_cons_zero, List.set_cons_succ]
                refine wpAny_ready (rs := [10]) (by kernel_rfl) (by simp) ?_
                refine AllReady.cons (o := ⟨some 16, _, _, _, _, _⟩) rfl (fun K hK => ?_) AllReady.nil
                refine step_alloc tyT rfl rfl ?_
                intro w74 hk8 hb8
                have HB' := HB.out.var hb8 hk8 zeroT_noB
                have hne : g12 < w73.heap.size := (HB.out.at (g := g12) (cs := tvL v tc) (by simp)).lt
                obtain ⟨g8, hg8⟩ : ∃ g, g = w73.heap.size := ⟨_, rfl⟩
                rw [← hg8] at HB' hne ⊢
                replace HB : Kp _ := ⟨HB'⟩
                have HN8 : Kp (g12 < g8) := ⟨hne⟩
                clear hk8 hb8 HB' hne hg8
                refine hK _ _ ?_
                clear hK K
                try simp only [Act.put, List.setIfInBounds_toArray, List.set_cons_zero, List.set_cons_succ]
                refine wpAny_ready (rs := [11]) (by kernel_rfl) (by simp) ?_
                refine AllReady.cons (o := ⟨none, _, _, _, _, _⟩) rfl (fun K hK => ?_) AllReady.nil
                refine step_store (vs := tvL a7 (didW tc d)) rwT rfl (.tmp 16) (.tmp 78) rfl rfl rfl (HB.out.at (g := g8) (cs := zeroT') (by simp)) rfl (by decide) (tvL_one _ _) ?_
                intro w75 hk9 ho9
                have HB9 := HB.out.put (g := g8) (cs := zeroT') (ks' := [(g8, tvL a7 (didW tc d)), (g12, tvL v tc), (g6, tvL a t)]) (by simp) ho9 hk9 (tvL_noB _ _) (fun x hx => by have := HN8.out; have := HNe.out; simp at hx ⊢; rcases hx with rfl | rfl | rfl; exact .inl rfl; exact .inr ⟨.inr (.inl rfl), by simp; omega⟩; exact .inr ⟨.inr (.inr rfl), by simp; omega⟩)
                replace HB : Kp _ := ⟨HB9⟩
                clear hk9 ho9 HB9
                refine hK _ _ ?_
                clear hK K
                try simp only [Act.put]
                refine wpAny_take (i := 12) (oi := ⟨some 17, _, _, _, _, _⟩) (v := ?_) rfl (by kernel_rfl) (by kernel_rfl) (by kernel_rfl) (fun _ _ _ h => h) (Or.inl ⟨by rfl, by intro w; go_simp; try rfl⟩) ?_
                try simp only [Act.put, List.setIfInBounds_toArray, List.set_cons_zero, List.set_cons_succ]
                refine wpAny_take (i := 13) (oi := ⟨some 18, _, _, _, _, _⟩) (v := ?_) rfl (by kernel_rfl) (by kernel_rfl) (by kernel_rfl) (fun _ _ _ h => h) (Or.inl ⟨by rfl, by intro w; go_simp; try rfl⟩) ?_
                try simp only [Act.put, List.setIfInBounds_toArray, List.set_cons_zero, List.set_cons_succ]
                refine wpAny_done (by kernel_rfl) ?_ _
                have HK8 : Kp _ := ⟨HB.out.at (g := g8) (cs := tvL a7 (didW tc d)) (by simp)⟩
                have HK6 : Kp _ := ⟨HB.out.at (g := g12) (cs := tvL v tc) (by simp)⟩
                have HL7 : Kp _ := ⟨tvL_length a7 (didW tc d)⟩
                have HL6 : Kp _ := ⟨tvL_length v tc⟩
                have HO7 : Kp _ := ⟨tvL_one a7 (didW tc d)⟩
                go_wp2_with (first | (with_reducible refine wpList_loadAll (o := ⟨some 81, _, _, _, _, _⟩) rwT rfl (.tmp 16) rfl rfl HK8.out HL7.out ?_) | (with_reducible refine wpList_storeAll (o := ⟨none, _, _, _, _, _⟩) (vs := tvL a7 (didW tc d)) rwT rfl (.tmp 12) (.tmp 81) rfl rfl HK6.out HL6.out HL7.out HO7.out rfl ?_))
                intro wE hkE hoE
                have HF : Kp (Bk w00 wE (i + j + 1) [(cc, didW tc d), (b, t)] [(A7, n7, c7, didL tc d), (A5, n5, c5, didL tc d)] [(a7, didW tc d), (a, t)] [(g12, tvL a7 (didW tc d)), (g6, tvL a t)]) := ⟨(HB.out.put (g := g12) (cs := tvL v tc) (ks' := [(g12, tvL a7 (didW tc d)), (g6, tvL a t)]) (by simp) hoE hkE (tvL_noB _ _) (fun x hx => by have := HNe.out; simp at hx ⊢; rcases hx with rfl | rfl; exact .inl rfl; exact .inr ⟨.inr (.inr rfl), by simp; omega⟩)).drop (fun x hx => by simp at hx ⊢; rcases hx with rfl | rfl <;> simp) (fun x hx => by simp at hx ⊢; rcases hx with rfl | rfl <;> simp)⟩
                have HL9 : Kp (a7.ln ≤ i + (j + 1)) := ⟨by have := HA7.out; have := HVl.out; omega⟩
                clear hkE hoE HK8 HK6 HL7 HL6 HO7 HB HA7
                go_wp2_with fail
                refine (st_same HF.out.st (A := A5) (n := n5) (c := c5) (B := A7) (m := n7) (d := c7) (l := didL tc d) (l' := didL tc d) (by simp) (by simp)).mono ?_
                rintro e wG ⟨rfl, rfl⟩
                have hbb : (didL tc d == didL tc d) = true := by simp
                rw [hbb]
                have hnn : (didB tc d != didB tc d) = false := by simp
                go_wp2
                go_roundg g3
                case measure => omega
                case rel => exact ⟨j + 1, by omega, by go_num, ⟨a7, didW tc d, HL9.out, by have h9 := HF.out.drop (hs2 := []) (l2 := [(a7, didW tc d), (a, t)]) (fun x hx => by cases hx) (fun x hx => hx); rwa [Nat.add_assoc] at h9⟩⟩
              · refine step_alloc tyT rfl rfl ?_
                intro w76 hk8 hb8
                have HB' := HB.out.var hb8 hk8 zeroT_noB
                have hne : g12 < wS.heap.size := (HB.out.at (g := g12) (cs := tvL v tc) (by simp)).lt
                obtain ⟨g8, hg8⟩ : ∃ g, g = wS.heap.size := ⟨_, rfl⟩
                rw [← hg8] at HB' hne ⊢
                replace HB : Kp _ := ⟨HB'⟩
                have HN8 : Kp (g12 < g8) := ⟨hne⟩
                clear hk8 hb8 HB' hne hg8
                refine hK _ _ ?_
                clear hK K
                try simp only [Act.put, List.setIfInBounds_toArray, List.set_cons_zero, List.set_cons_succ]
                refine wpAny_ready (rs := [5]) (by kernel_rfl) (by simp) ?_
                refine AllReady.cons (o := ⟨some 77, _, _, _, _, _⟩) rfl (fun K hK => ?_) AllReady.nil
                go_simp
                refine (kstep_any HB.out ⟨by have := HT6.out.1; omega, by have := HT6.out.2; omega⟩ (by have := HVl.out; omega) d HDk.out.1 A' n' c' (by simp)).mono ?_
                rintro e w77 ⟨a7, A7, n7, c7, rfl, hl7, S7⟩
                replace HB : Kp _ := ⟨S7⟩
                have HA7 : Kp (a7.ln ≤ v.ln + 1) := ⟨hl7⟩
                clear hl7 S7
                refine hK _ _ ?_
                clear hK K
                try simp only [Act.put, List.setIfInBounds_toArray, List.set_cons_zero, List.set_cons_succ]
                refine wpAny_take (i := 6) (oi := ⟨some 71, _, _, _, _, _⟩) (v := ?_) rfl (by kernel_rfl) (by kernel_rfl) (by kernel_rfl) (fun _ _ _ h => h) (Or.inl ⟨by rfl, by intro w; go_simp; try rfl⟩) ?_
                try simp only [Act.put, List.setIfInBounds_toArray, List.set_cons_zero, List.set_cons_succ]
                refine wpAny_take (i := 7) (oi := ⟨some 78, _, _, _, _, _⟩) (v := ?_) rfl (by kernel_rfl) (by kernel_rfl) (by kernel_rfl) (fun _ _ _ h => h) (Or.inl ⟨by rfl, by intro w; go_simp; try rfl⟩) ?_
                try simp only [Act.put, List.setIfInBounds_toArray, List.set_cons_zero, List.set_cons_succ]
                refine wpAny_take (i := 8) (oi := ⟨some 79, _, _, _, _, _⟩) (v := ?_) rfl (by kernel_rfl) (by kernel_rfl) (by kernel_rfl) (fun _ _ _ h => h) (Or.inl ⟨by rfl, by intro w; go_simp; try rfl⟩) ?_
                try simp only [Act.put, List.setIfInBounds_toArray, List.set_cons_zero, List.set_cons_succ]
                refine wpAny_take (i := 9) (oi := ⟨some 80, _, _, _, _, _⟩) (v := ?_) rfl (by kernel_rfl) (by kernel_rfl) (by kernel_rfl) (fun _ _ _ h => h) (Or.inl ⟨by rfl, by intro w; go_simp; try rfl⟩) ?_
                try simp only [Act.put, List.setIfInBounds_toArray, List.set_cons_zero, List.set_cons_succ]
                refine wpAny_ready (rs := [11]) (by kernel_rfl) (by simp) ?_
                refine AllReady.cons (o := ⟨none, _, _, _, _, _⟩) rfl (fun K hK => ?_) AllReady.nil
                refine step_store (vs := tvL a7 (didW tc d)) rwT rfl (.tmp 16) (.tmp 78) rfl rfl rfl (HB.out.at (g := g8) (cs := zeroT') (by simp)) rfl (by decide) (tvL_one _ _) ?_
                intro w78 hk9 ho9
                have HB9 := HB.out.put (g := g8) (cs := zeroT') (ks' := [(g8, tvL a7 (didW tc d)), (g12, tvL v tc), (g6, tvL a t)]) (by simp) ho9 hk9 (tvL_noB _ _) (fun x hx => by have := HN8.out; have := HNe.out; simp at hx ⊢; rcases hx with rfl | rfl | rfl; exact .inl rfl; exact .inr ⟨.inr (.inl rfl), by simp; omega⟩; exact .inr ⟨.inr (.inr rfl), by simp; omega⟩)
                replace HB : Kp _ := ⟨HB9⟩
                clear hk9 ho9 HB9
                refine hK _ _ ?_
                clear hK K
                try simp only [Act.put]
                refine wpAny_take (i := 12) (oi := ⟨some 17, _, _, _, _, _⟩) (v := ?_) rfl (by kernel_rfl) (by kernel_rfl) (by kernel_rfl) (fun _ _ _ h => h) (Or.inl ⟨by rfl, by intro w; go_simp; try rfl⟩) ?_
                try simp only [Act.put, List.setIfInBounds_toArray, List.set_cons_zero, List.set_cons_succ]
                refine wpAny_take (i := 13) (oi := ⟨some 18, _, _, _, _, _⟩) (v := ?_) rfl (by kernel_rfl) (by kernel_rfl) (by kernel_rfl) (fun _ _ _ h => h) (Or.inl ⟨by rfl, by intro w; go_simp; try rfl⟩) ?_
                try simp only [Act.put, List.setIfInBounds_toArray, List.set_cons_zero, List.set_cons_succ]
                refine wpAny_done (by kernel_rfl) ?_ _
                have HK8 : Kp _ := ⟨HB.out.at (g := g8) (cs := tvL a7 (didW tc d)) (by simp)⟩
                have HK6 : Kp _ := ⟨HB.out.at (g := g12) (cs := tvL v tc) (by simp)⟩
                have HL7 : Kp _ := ⟨tvL_length a7 (didW tc d)⟩
                have HL6 : Kp _ := ⟨tvL_length v tc⟩
                have HO7 : Kp _ := ⟨tvL_one a7 (didW tc d)⟩
                go_wp2_with (first | (with_reducible refine wpList_loadAll (o := ⟨some 81, _, _, _, _, _⟩) rwT rfl (.tmp 16) rfl rfl HK8.out HL7.out ?_) | (with_reducible refine wpList_storeAll (o := ⟨none, _, _, _, _, _⟩) (vs := tvL a7 (didW tc d)) rwT rfl (.tmp 12) (.tmp 81) rfl rfl HK6.out HL6.out HL7.out HO7.out rfl ?_))
                intro wE hkE hoE
                have HF : Kp (Bk w00 wE (i + j + 1) [(cc, didW tc d), (b, t)] [(A7, n7, c7, didL tc d), (A5, n5, c5, didL tc d)] [(a7, didW tc d), (a, t)] [(g12, tvL a7 (didW tc d)), (g6, tvL a t)]) := ⟨(HB.out.put (g := g12) (cs := tvL v tc) (ks' := [(g12, tvL a7 (didW tc d)), (g6, tvL a t)]) (by simp) hoE hkE (tvL_noB _ _) (fun x hx => by have := HNe.out; simp at hx ⊢; rcases hx with rfl | rfl; exact .inl rfl; exact .inr ⟨.inr (.inr rfl), by simp; omega⟩)).drop (fun x hx => by simp at hx ⊢; rcases hx with rfl | rfl <;> simp) (fun x hx => by simp at hx ⊢; rcases hx with rfl | rfl <;> simp)⟩
                have HL9 : Kp (a7.ln ≤ i + (j + 1)) := ⟨by have := HA7.out; have := HVl.out; omega⟩
                clear hkE hoE HK8 HK6 HL7 HL6 HO7 HB HA7
                go_wp2_with fail
                refine (st_same HF.out.st (A := A5) (n := n5) (c := c5) (B := A7) (m := n7) (d := c7) (l := didL tc d) (l' := didL tc d) (by simp) (by simp)).mono ?_
                rintro e wG ⟨rfl, rfl⟩
                have hbb : (didL tc d == didL tc d) = true := by simp
                rw [hbb]
                have hnn : (didB tc d != didB tc d) = false := by simp
                go_wp2
                go_roundg g3
                case measure => omega
                case rel => exact ⟨j + 1, by omega, by go_num, ⟨a7, didW tc d, HL9.out, by have h9 := HF.out.drop (hs2 := []) (l2 := [(a7, didW tc d), (a, t)]) (fun x hx => by cases hx) (fun x hx => hx); rwa [Nat.add_assoc] at h9⟩⟩
            · refine step_alloc tyT rfl rfl ?_
              intro w79 hk8 hb8
              have HB' := HB.out.var hb8 hk8 zeroT_noB
              have hne : g12 < wS.heap.size := (HB.out.at (g := g12) (cs := tvL v tc) (by simp)).lt
              obtain ⟨g8, hg8⟩ : ∃ g, g = wS.heap.size := ⟨_, rfl⟩
              rw [← hg8] at HB' hne ⊢
              replace HB : Kp _ := ⟨HB'⟩
              have HN8 : Kp (g12 < g8) := ⟨hne⟩
              clear hk8 hb8 HB' hne hg8
              refine hK _ _ ?_
              clear hK K
              try simp only [Act.put, List.setIfInBounds_toArray, List.set_cons_zero, List.set_cons_succ]
              refine wpAny_ready (rs := [0]) (by kernel_rfl) (by simp) ?_
              refine AllReady.cons (o := ⟨some 72, _, _, _, _, _⟩) rfl (fun K hK => ?_) AllReady.nil
              refine step_load rwT rfl (.tmp 12) rfl rfl (HB.out.at (g := g12) (cs := tvL v tc) (by simp)) (Nat.le_refl _) (vs := tvL v tc) rfl ?_
              refine hK _ _ ?_
              clear hK K
              try simp only [Act.put, List.setIfInBounds_toArray, List.set_cons_zero, List.set_cons_succ]
              refine wpAny_ready (rs := [5]) (by kernel_rfl) (by simp) ?_
              refine AllReady.cons (o := ⟨some 77, _, _, _, _, _⟩) rfl (fun K hK => ?_) AllReady.nil
              go_simp
              refine (kstep_any HB.out ⟨by have := HT6.out.1; omega, by have := HT6.out.2; omega⟩ (by have := HVl.out; omega) d HDk.out.1 A' n' c' (by simp)).mono ?_
              rintro e w80 ⟨a7, A7, n7, c7, rfl, hl7, S7⟩
              replace HB : Kp _ := ⟨S7⟩
              have HA7 : Kp (a7.ln ≤ v.ln + 1) := ⟨hl7⟩
              clear hl7 S7
              refine hK _ _ ?_
              clear hK K
              try simp only [Act.put, List.setIfInBounds_toArray, List.set_cons_zero, List.set_cons_succ]
              refine wpAny_take (i := 6) (oi := ⟨some 71, _, _, _, _, _⟩) (v := ?_) rfl (by kernel_rfl) (by kernel_rfl) (by kernel_rfl) (fun _ _ _ h => h) (Or.inl ⟨by rfl, by intro w; go_simp; try rfl⟩) ?_
              try simp only [Act.put, List.setIfInBounds_toArray, List.set_cons_zero, List.set_cons_succ]
              refine wpAny_take (i := 7) (oi := ⟨some 78, _, _, _, _, _⟩) (v := ?_) rfl (by kernel_rfl) (by kernel_rfl) (by kernel_rfl) (fun _ _ _ h => h) (Or.inl ⟨by rfl, by intro w; go_simp; try rfl⟩) ?_
              try simp only [Act.put, List.setIfInBounds_toArray, List.set_cons_zero, List.set_cons_succ]
              refine wpAny_take (i := 8) (oi := ⟨some 79, _, _, _, _, _⟩) (v := ?_) rfl (by kernel_rfl) (by kernel_rfl) (by kernel_rfl) (fun _ _ _ h => h) (Or.inl ⟨by rfl, by intro w; go_simp; try rfl⟩) ?_
              try simp only [Act.put, List.setIfInBounds_toArray, List.set_cons_zero, List.set_cons_succ]
              refine wpAny_take (i := 9) (oi := ⟨some 80, _, _, _, _, _⟩) (v := ?_) rfl (by kernel_rfl) (by kernel_rfl) (by kernel_rfl) (fun _ _ _ h => h) (Or.inl ⟨by rfl, by intro w; go_simp; try rfl⟩) ?_
              try simp only [Act.put, List.setIfInBounds_toArray, List.set_cons_zero, List.set_cons_succ]
              refine wpAny_ready (rs := [11]) (by kernel_rfl) (by simp) ?_
              refine AllReady.cons (o := ⟨none, _, _, _, _, _⟩) rfl (fun K hK => ?_) AllReady.nil
              refine step_store (vs := tvL a7 (didW tc d)) rwT rfl (.tmp 16) (.tmp 78) rfl rfl rfl (HB.out.at (g := g8) (cs := zeroT') (by simp)) rfl (by decide) (tvL_one _ _) ?_
              intro w81 hk9 ho9
              have HB9 := HB.out.put (g := g8) (cs := zeroT') (ks' := [(g8, tvL a7 (didW tc d)), (g12, tvL v tc), (g6, tvL a t)]) (by simp) ho9 hk9 (tvL_noB _ _) (fun x hx => by have := HN8.out; have := HNe.out; simp at hx ⊢; rcases hx with rfl | rfl | rfl; exact .inl rfl; exact .inr ⟨.inr (.inl rfl), by simp; omega⟩; exact .inr ⟨.inr (.inr rfl), by simp; omega⟩)
              replace HB : Kp _ := ⟨HB9⟩
              clear hk9 ho9 HB9
              refine hK _ _ ?_
              clear hK K
              try simp only [Act.put]
              refine wpAny_take (i := 12) (oi := ⟨some 17, _, _, _, _, _⟩) (v := ?_) rfl (by kernel_rfl) (by kernel_rfl) (by kernel_rfl) (fun _ _ _ h => h) (Or.inl ⟨by rfl, by intro w; go_simp; try rfl⟩) ?_
              try simp only [Act.put, List.setIfInBounds_toArray, List.set_cons_zero, List.set_cons_succ]
              refine wpAny_take (i := 13) (oi := ⟨some 18, _, _, _, _, _⟩) (v := ?_) rfl (by kernel_rfl) (by kernel_rfl) (by kernel_rfl) (fun _ _ _ h => h) (Or.inl ⟨by rfl, by intro w; go_simp; try rfl⟩) ?_
              try simp only [Act.put, List.setIfInBounds_toArray, List.set_cons_zero, List.set_cons_succ]
              refine wpAny_done (by kernel_rfl) ?_ _
              have HK8 : Kp _ := ⟨HB.out.at (g := g8) (cs := tvL a7 (didW tc d)) (by simp)⟩
              have HK6 : Kp _ := ⟨HB.out.at (g := g12) (cs := tvL v tc) (by simp)⟩
              have HL7 : Kp _ := ⟨tvL_length a7 (didW tc d)⟩
              have HL6 : Kp _ := ⟨tvL_length v tc⟩
              have HO7 : Kp _ := ⟨tvL_one a7 (didW tc d)⟩
              go_wp2_with (first | (with_reducible refine wpList_loadAll (o := ⟨some 81, _, _, _, _, _⟩) rwT rfl (.tmp 16) rfl rfl HK8.out HL7.out ?_) | (with_reducible refine wpList_storeAll (o := ⟨none, _, _, _, _, _⟩) (vs := tvL a7 (didW tc d)) rwT rfl (.tmp 12) (.tmp 81) rfl rfl HK6.out HL6.out HL7.out HO7.out rfl ?_))
              intro wE hkE hoE
              have HF : Kp (Bk w00 wE (i + j + 1) [(cc, didW tc d), (b, t)] [(A7, n7, c7, didL tc d), (A5, n5, c5, didL tc d)] [(a7, didW tc d), (a, t)] [(g12, tvL a7 (didW tc d)), (g6, tvL a t)]) := ⟨(HB.out.put (g := g12) (cs := tvL v tc) (ks' := [(g12, tvL a7 (didW tc d)), (g6, tvL a t)]) (by simp) hoE hkE (tvL_noB _ _) (fun x hx => by have := HNe.out; simp at hx ⊢; rcases hx with rfl | rfl; exact .inl rfl; exact .inr ⟨.inr (.inr rfl), by simp; omega⟩)).drop (fun x hx => by simp at hx ⊢; rcases hx with rfl | rfl <;> simp) (fun x hx => by simp at hx ⊢; rcases hx with rfl | rfl <;> simp)⟩
              have HL9 : Kp (a7.ln ≤ i + (j + 1)) := ⟨by have := HA7.out; have := HVl.out; omega⟩
              clear hkE hoE HK8 HK6 HL7 HL6 HO7 HB HA7
              go_wp2_with fail
              refine (st_same HF.out.st (A := A5) (n := n5) (c := c5) (B := A7) (m := n7) (d := c7) (l := didL tc d) (l' := didL tc d) (by simp) (by simp)).mono ?_
              rintro e wG ⟨rfl, rfl⟩
              have hbb : (didL tc d == didL tc d) = true := by simp
              rw [hbb]
              have hnn : (didB tc d != didB tc d) = false := by simp
              go_wp2
              go_roundg g3
              case measure => omega
              case rel => exact ⟨j + 1, by omega, by go_num, ⟨a7, didW tc d, HL9.out, by have h9 := HF.out.drop (hs2 := []) (l2 := [(a7, didW tc d), (a, t)]) (fun x hx => by cases hx) (fun x hx => hx); rwa [Nat.add_assoc] at h9⟩⟩
          · refine step_alloc tyT rfl rfl ?_
            intro w82 hk8 hb8
            have HB' := HB.out.var hb8 hk8 zeroT_noB
            have hne : g12 < wS.heap.size := (HB.out.at (g := g12) (cs := tvL v tc) (by simp)).lt
            obtain ⟨g8, hg8⟩ : ∃ g, g = wS.heap.size := ⟨_, rfl⟩
            rw [← hg8] at HB' hne ⊢
            replace HB : Kp _ := ⟨HB'⟩
            have HN8 : Kp (g12 < g8) := ⟨hne⟩
            clear hk8 hb8 HB' hne hg8
            refine hK _ _ ?_
            clear hK K
            try simp only [Act.put, List.setIfInBounds_toArray, List.set_cons_zero, List.set_cons_succ]
            refine wpAny_ready (rs := [0, 4]) (by kernel_rfl) (by simp) ?_
            refine AllReady.cons (o := ⟨some 72, _, _, _, _, _⟩) rfl (fun K hK => ?_) (AllReady.cons (o := ⟨some 76, _, _, _, _, _⟩) rfl (fun K hK => ?_) AllReady.nil)
            · refine step_load rwT rfl (.tmp 12) rfl rfl (HB.out.at (g := g12) (cs := tvL v tc) (by simp)) (Nat.le_refl _) (vs := tvL v tc) rfl ?_
              refine hK _ _ ?_
              clear hK K
              try simp only [Act.put, List.setIfInBounds_toArray, List.set_cons_zero, List.set_cons_succ]
              refine wpAny_ready (rs := [4]) (by kernel_rfl) (by simp) ?_
              refine AllReady.cons (o := ⟨some 76, _, _, _, _, _⟩) rfl (fun K hK => ?_) AllReady.nil
              obtain ⟨q0, q1, q2, q3, q4⟩ := HQ.out.at_ w82 HB.out.below
              go_simp
              refine hK _ _ ?_
              clear hK K q0 q1 q2 q3 q4
              try simp only [Act.put, List.setIfInBounds_toArray, List.set_cons_zero, List.set_cons_succ]
              refine wpAny_ready (rs := [5]) (by kernel_rfl) (by simp) ?_
              refine AllReady.cons (o := ⟨some 77, _, _, _, _, _⟩) rfl (fun K hK => ?_) AllReady.nil
              go_simp
              refine (kstep_any HB.out ⟨by have := HT6.out.1; omega, by have := HT6.out.2; omega⟩ (by have := HVl.out; omega) d HDk.out.1 A' n' c' (by simp)).mono ?_
              rintro e w84 ⟨a7, A7, n7, c7, rfl, hl7, S7⟩
              replace HB : Kp _ := ⟨S7⟩
              have HA7 : Kp (a7.ln ≤ v.ln + 1) := ⟨hl7⟩
              clear hl7 S7
              refine hK _ _ ?_
              clear hK K
              try simp only [Act.put, List.setIfInBounds_toArray, List.set_cons_zero, List.set_cons_succ]
              refine wpAny_take (i := 6) (oi := ⟨some 71, _, _, _, _, _⟩) (v := ?_) rfl (by kernel_rfl) (by kernel_rfl) (by kernel_rfl) (fun _ _ _ h => h) (Or.inl ⟨by rfl, by intro w; go_simp; try rfl⟩) ?_
              try simp only [Act.put, List.setIfInBounds_toArray, List.set_cons_zero, List.set_cons_succ]
              refine wpAny_take (i := 7) (oi := ⟨some 78, _, _, _, _, _⟩) (v := ?_) rfl (by kernel_rfl) (by kernel_rfl) (by kernel_rfl) (fun _ _ _ h => h) (Or.inl ⟨by rfl, by intro w; go_simp; try rfl⟩) ?_
              try simp only [Act.put, List.setIfInBounds_toArray, List.set_cons_zero, List.set_cons_succ]
              refine wpAny_take (i := 8) (oi := ⟨some 79, _, _, _, _, _⟩) (v := ?_) rfl (by kernel_rfl) (by kernel_rfl) (by kernel_rfl) (fun _ _ _ h => h) (Or.inl ⟨by rfl, by intro w; go_simp; try rfl⟩) ?_
              try simp only [Act.put, List.setIfInBounds_toArray, List.set_cons_zero, List.set_cons_succ]
              refine wpAny_take (i := 9) (oi := ⟨some 80, _, _, _, _, _⟩) (v := ?_) rfl (by kernel_rfl) (by kernel_rfl) (by kernel_rfl) (fun _ _ _ h => h) (Or.inl ⟨by rfl, by intro w; go_simp; try rfl⟩) ?_
              try simp only [Act.put, List.setIfInBounds_toArray, List.set_cons_zero, List.set_cons_succ]
              refine wpAny_ready (rs := [11]) (by kernel_rfl) (by simp) ?_
              refine AllReady.cons (o := ⟨none, _, _, _, _, _⟩) rfl (fun K hK => ?_) AllReady.nil
              refine step_store (vs := tvL a7 (didW tc d)) rwT rfl (.tmp 16) (.tmp 78) rfl rfl rfl (HB.out.at (g := g8) (cs := zeroT') (by simp)) rfl (by decide) (tvL_one _ _) ?_
              intro w85 hk9 ho9
              have HB9 := HB.out.put (g := g8) (cs := zeroT') (ks' := [(g8, tvL a7 (didW tc d)), (g12, tvL v tc), (g6, tvL a t)]) (by simp) ho9 hk9 (tvL_noB _ _) (fun x hx => by have := HN8.out; have := HNe.out; simp at hx ⊢; rcases hx with rfl | rfl | rfl; exact .inl rfl; exact .inr ⟨.inr (.inl rfl), by simp; omega⟩; exact .inr ⟨.inr (.inr rfl), by simp; omega⟩)
              replace HB : Kp _ := ⟨HB9⟩
              clear hk9 ho9 HB9
              refine hK _ _ ?_
              clear hK K
              try simp only [Act.put]
              refine wpAny_take (i := 12) (oi := ⟨some 17, _, _, _, _, _⟩) (v := ?_) rfl (by kernel_rfl) (by kernel_rfl) (by kernel_rfl) (fun _ _ _ h => h) (Or.inl ⟨by rfl, by intro w; go_simp; try rfl⟩) ?_
              try simp only [Act.put, List.setIfInBounds_toArray, List.set_cons_zero, List.set_cons_succ]
              refine wpAny_take (i := 13) (oi := ⟨some 18, _, _, _, _, _⟩) (v := ?_) rfl (by kernel_rfl) (by kernel_rfl) (by kernel_rfl) (fun _ _ _ h => h) (Or.inl ⟨by rfl, by intro w; go_simp; try rfl⟩) ?_
              try simp only [Act.put, List.setIfInBounds_toArray, List.set_cons_zero, List.set_cons_succ]
              refine wpAny_done (by kernel_rfl) ?_ _
              have HK8 : Kp _ := ⟨HB.out.at (g := g8) (cs := tvL a7 (didW tc d)) (by simp)⟩
              have HK6 : Kp _ := ⟨HB.out.at (g := g12) (cs := tvL v tc) (by simp)⟩
              have HL7 : Kp _ := ⟨tvL_length a7 (didW tc d)⟩
              have HL6 : Kp _ := ⟨tvL_length v tc⟩
              have HO7 : Kp _ := ⟨tvL_one a7 (didW tc d)⟩
              go_wp2_with (first | (with_reducible refine wpList_loadAll (o := ⟨some 81, _, _, _, _, _⟩) rwT rfl (.tmp 16) rfl rfl HK8.out HL7.out ?_) | (with_reducible refine wpList_storeAll (o := ⟨none, _, _, _, _, _⟩) (vs := tvL a7 (didW tc d)) rwT rfl (.tmp 12) (.tmp 81) rfl rfl HK6.out HL6.out HL7.out HO7.out rfl ?_))
              intro wE hkE hoE
              have HF : Kp (Bk w00 wE (i + j + 1) [(cc, didW tc d), (b, t)] [(A7, n7, c7, didL tc d), (A5, n5, c5, didL tc d)] [(a7, didW tc d), (a, t)] [(g12, tvL a7 (didW tc d)), (g6, tvL a t)]) := ⟨(HB.out.put (g := g12) (cs := tvL v tc) (ks' := [(g12, tvL a7 (didW tc d)), (g6, tvL a t)]) (by simp) hoE hkE (tvL_noB _ _) (fun x hx => by have := HNe.out; simp at hx ⊢; rcases hx with rfl | rfl; exact .inl rfl; exact .inr ⟨.inr (.inr rfl), by simp; omega⟩)).drop (fun x hx => by simp at hx ⊢; rcases hx with rfl | rfl <;> simp) (fun x hx => by simp at hx ⊢; rcases hx with rfl | rfl <;> simp)⟩
              have HL9 : Kp (a7.ln ≤ i + (j + 1)) := ⟨by have := HA7.out; have := HVl.out; omega⟩
              clear hkE hoE HK8 HK6 HL7 HL6 HO7 HB HA7
              go_wp2_with fail
              refine (st_same HF.out.st (A := A5) (n := n5) (c := c5) (B := A7) (m := n7) (d := c7) (l := didL tc d) (l' := didL tc d) (by simp) (by simp)).mono ?_
              rintro e wG ⟨rfl, rfl⟩
              have hbb : (didL tc d == didL tc d) = true := by simp
              rw [hbb]
              have hnn : (didB tc d != didB tc d) = false := by simp
              go_wp2
              go_roundg g3
              case measure => omega
              case rel => exact ⟨j + 1, by omega, by go_num, ⟨a7, didW tc d, HL9.out, by have h9 := HF.out.drop (hs2 := []) (l2 := [(a7, didW tc d), (a, t)]) (fun x hx => by cases hx) (fun x hx => hx); rwa [Nat.add_assoc] at h9⟩⟩
            · obtain ⟨q0, q1, q2, q3, q4⟩ := HQ.out.at_ w82 HB.out.below
              go_simp
              refine hK _ _ ?_
              clear hK K q0 q1 q2 q3 q4
              try simp only [Act.put, List.setIfInBounds_toArray, List.set_cons_zero, List.set_cons_succ]
              refine wpAny_ready (rs := [0]) (by kernel_rfl) (by simp) ?_
              refine AllReady.cons (o := ⟨some 72, _, _, _, _, _⟩) rfl (fun K hK => ?_) AllReady.nil
              refine step_load rwT rfl (.tmp 12) rfl rfl (HB.out.at (g := g12) (cs := tvL v tc) (by simp)) (Nat.le_refl _) (vs := tvL v tc) rfl ?_
              refine hK _ _ ?_
              clear hK K
              try simp only [Act.put, List.setIfInBounds_toArray, List.set_cons_zero, List.set_cons_succ]
              refine wpAny_ready (rs := [5]) (by kernel_rfl) (by simp) ?_
              refine AllReady.cons (o := ⟨some 77, _, _, _, _, _⟩) rfl (fun K hK => ?_) AllReady.nil
              go_simp
              refine (kstep_any HB.out ⟨by have := HT6.out.1; omega, by have := HT6.out.2; omega⟩ (by have := HVl.out; omega) d HDk.out.1 A' n' c' (by simp)).mono ?_
              rintro e w87 ⟨a7, A7, n7, c7, rfl, hl7, S7⟩
              replace HB : Kp _ := ⟨S7⟩
              have HA7 : Kp (a7.ln ≤ v.ln + 1) := ⟨hl7⟩
              clear hl7 S7
              refine hK _ _ ?_
              clear hK K
              try simp only [Act.put, List.setIfInBounds_toArray, List.set_cons_zero, List.set_cons_succ]
              refine wpAny_take (i := 6) (oi := ⟨some 71, _, _, _, _, _⟩) (v := ?_) rfl (by kernel_rfl) (by kernel_rfl) (by kernel_rfl) (fun _ _ _ h => h) (Or.inl ⟨by rfl, by intro w; go_simp; try rfl⟩) ?_
              try simp only [Act.put, List.setIfInBounds_toArray, List.set_cons_zero, List.set_cons_succ]
              refine wpAny_take (i := 7) (oi := ⟨some 78, _, _, _, _, _⟩) (v := ?_) rfl (by kernel_rfl) (by kernel_rfl) (by kernel_rfl) (fun _ _ _ h => h) (Or.inl ⟨by rfl, by intro w; go_simp; try rfl⟩) ?_
              try simp only [Act.put, List.setIfInBounds_toArray, List.set_cons_zero, List.set_cons_succ]
              refine wpAny_take (i := 8) (oi := ⟨some 79, _, _, _, _, _⟩) (v := ?_) rfl (by kernel_rfl) (by kernel_rfl) (by kernel_rfl) (fun _ _ _ h => h) (Or.inl ⟨by rfl, by intro w; go_simp; try rfl⟩) ?_
              try simp only [Act.put, List.setIfInBounds_toArray, List.set_cons_zero, List.set_cons_succ]
              refine wpAny_take (i := 9) (oi := ⟨some 80, _, _, _, _, _⟩) (v := ?_) rfl (by kernel_rfl) (by kernel_rfl) (by kernel_rfl) (fun _ _ _ h => h) (Or.inl ⟨by rfl, by intro w; go_simp; try rfl⟩) ?_
              try simp only [Act.put, List.setIfInBounds_toArray, List.set_cons_zero, List.set_cons_succ]
              refine wpAny_ready (rs := [11]) (by kernel_rfl) (by simp) ?_
              refine AllReady.cons (o := ⟨none, _, _, _, _, _⟩) rfl (fun K hK => ?_) AllReady.nil
              refine step_store (vs := tvL a7 (didW tc d)) rwT rfl (.tmp 16) (.tmp 78) rfl rfl rfl (HB.out.at (g := g8) (cs := zeroT') (by simp)) rfl (by decide) (tvL_one _ _) ?_
              intro w88 hk9 ho9
              have HB9 := HB.out.put (g := g8) (cs := zeroT') (ks' := [(g8, tvL a7 (didW tc d)), (g12, tvL v tc), (g6, tvL a t)]) (by simp) ho9 hk9 (tvL_noB _ _) (fun x hx => by have := HN8.out; have := HNe.out; simp at hx ⊢; rcases hx with rfl | rfl | rfl; exact .inl rfl; exact .inr ⟨.inr (.inl rfl), by simp; omega⟩; exact .inr ⟨.inr (.inr rfl), by simp; omega⟩)
              replace HB : Kp _ := ⟨HB9⟩
              clear hk9 ho9 HB9
              refine hK _ _ ?_
              clear hK K
              try simp only [Act.put]
              refine wpAny_take (i := 12) (oi := ⟨some 17, _, _, _, _, _⟩) (v := ?_) rfl (by kernel_rfl) (by kernel_rfl) (by kernel_rfl) (fun _ _ _ h => h) (Or.inl ⟨by rfl, by intro w; go_simp; try rfl⟩) ?_
              try simp only [Act.put, List.setIfInBounds_toArray, List.set_cons_zero, List.set_cons_succ]
              refine wpAny_take (i := 13) (oi := ⟨some 18, _, _, _, _, _⟩) (v := ?_) rfl (by kernel_rfl) (by kernel_rfl) (by kernel_rfl) (fun _ _ _ h => h) (Or.inl ⟨by rfl, by intro w; go_simp; try rfl⟩) ?_
              try simp only [Act.put, List.setIfInBounds_toArray, List.set_cons_zero, List.set_cons_succ]
              refine wpAny_done (by kernel_rfl) ?_ _
              have HK8 : Kp _ := ⟨HB.out.at (g := g8) (cs := tvL a7 (didW tc d)) (by simp)⟩
              have HK6 : Kp _ := ⟨HB.out.at (g := g12) (cs := tvL v tc) (by simp)⟩
              have HL7 : Kp _ := ⟨tvL_length a7 (didW tc d)⟩
              have HL6 : Kp _ := ⟨tvL_length v tc⟩
              have HO7 : Kp _ := ⟨tvL_one a7 (didW tc d)⟩
              go_wp2_with (first | (with_reducible refine wpList_loadAll (o := ⟨some 81, _, _, _, _, _⟩) rwT rfl (.tmp 16) rfl rfl HK8.out HL7.out ?_) | (with_reducible refine wpList_storeAll (o := ⟨none, _, _, _, _, _⟩) (vs := tvL a7 (didW tc d)) rwT rfl (.tmp 12) (.tmp 81) rfl rfl HK6.out HL6.out HL7.out HO7.out rfl ?_))
              intro wE hkE hoE
              have HF : Kp (Bk w00 wE (i + j + 1) [(cc, didW tc d), (b, t)] [(A7, n7, c7, didL tc d), (A5, n5, c5, didL tc d)] [(a7, didW tc d), (a, t)] [(g12, tvL a7 (didW tc d)), (g6, tvL a t)]) := ⟨(HB.out.put (g := g12) (cs := tvL v tc) (ks' := [(g12, tvL a7 (didW tc d)), (g6, tvL a t)]) (by simp) hoE hkE (tvL_noB _ _) (fun x hx => by have := HNe.out; simp at hx ⊢; rcases hx with rfl | rfl; exact .inl rfl; exact .inr ⟨.inr (.inr rfl), by simp; omega⟩)).drop (fun x hx => by simp at hx ⊢; rcases hx with rfl | rfl <;> simp) (fun x hx => by simp at hx ⊢; rcases hx with rfl | rfl <;> simp)⟩
              have HL9 : Kp (a7.ln ≤ i + (j + 1)) := ⟨by have := HA7.out; have := HVl.out; omega⟩
              clear hkE hoE HK8 HK6 HL7 HL6 HO7 HB HA7
              go_wp2_with fail
              refine (st_same HF.out.st (A := A5) (n := n5) (c := c5) (B := A7) (m := n7) (d := c7) (l := didL tc d) (l' := didL tc d) (by simp) (by simp)).mono ?_
              rintro e wG ⟨rfl, rfl⟩
              have hbb : (didL tc d == didL tc d) = true := by simp
              rw [hbb]
              have hnn : (didB tc d != didB tc d) = false := by simp
              go_wp2
              go_roundg g3
              case measure => omega
              case rel => exact ⟨j + 1, by omega, by go_num, ⟨a7, didW tc d, HL9.out, by have h9 := HF.out.drop (hs2 := []) (l2 := [(a7, didW tc d), (a, t)]) (fun x hx => by cases hx) (fun x hx => hx); rwa [Nat.add_assoc] at h9⟩⟩
    | succ g2 =>
      have hlt : (i : Int) < (m : Int) := by omega
      have him : i < m := by omega
      have hid : i < ds.length := by rw [HL.out]; exact him
      obtain ⟨bd, od, A', n', c', hAe, hdq, hby⟩ := DQ.of HD.out him
      have hdk : DdOk (ds[i]'hid) ∧ (ds[i]'hid).bs.length ≤ 3000 := ⟨HD.out.ok _ (List.getElem_mem hid), HM.out.2 _ (List.getElem_mem hid)⟩
      obtain ⟨d, hd⟩ : ∃ d, d = ds[i]'hid := ⟨_, rfl⟩
      rw [← hd] at hdq hby hdk
      have HQ : Kp _ := ⟨hdq⟩
      have HBy : Kp _ := ⟨hby⟩
      have HDk : Kp _ := ⟨hdk⟩
      subst hAe
      clear hd hdq hby hdk
      obtain ⟨q0, q1, q2, q3, q4⟩ := HQ.out.at_ wr HS.out.below
      go_wp2_with fail
      have HH : Kp _ := ⟨HS.out.hold HBy.out (by have := HBy.out.len; have := HDk.out.2; omega)⟩
      refine (kdid_any HH.out (by omega) d HDk.out.1 A' n' c' (by simp)).mono ?_
      rintro e w5 ⟨A5, n5, c5, rfl, S5⟩
      have H5 : Kp (Bk w00 w5 (i + 1) [(b, didW t d)] [(A', n', c', d.bs)] [(a, t)] [(g6, tvL a t)]) := ⟨S5.drop (fun x hx => by simp at hx; simp [hx]) (fun x hx => hx)⟩
      have HT6 : Kp (t.tr.length ≤ i ∧ t.reads ≤ i) := ⟨⟨(HS.out.small (b, t) (by simp)).tr, (HS.out.small (b, t) (by simp)).reads⟩⟩
      clear S5 HH HS q0 q1 q2 q3 q4
      go_wp2_with fail
      have hB0 := H5.out.drew
      clear H5
      refine wp_region_any (by kernel_rfl) ?_
      change wpAny _ _ _ _ _ _ _ w5.drew
      generalize w5.drew = wS at *
      have HB : Kp _ := ⟨hB0⟩
      clear hB0
      refine wpAny_take (i := 1) (oi := ⟨some 44, _, _, _, _, _⟩) (v := ?_) rfl (by kernel_rfl) (by kernel_rfl) (by kernel_rfl) (fun _ _ _ h => h) (Or.inl ⟨by rfl, by intro w; go_simp; try rfl⟩) ?_
      try simp only [Act.put, List.setIfInBounds_toArray, List.set_cons_zero, List.set_cons_succ]
      refine wpAny_take (i := 2) (oi := ⟨some 45, _, _, _, _, _⟩) (v := ?_) rfl (by kernel_rfl) (by kernel_rfl) (by kernel_rfl) (fun _ _ _ h => h) (Or.inl ⟨by rfl, by intro w; go_simp; try rfl⟩) ?_
      try simp only [Act.put, List.setIfInBounds_toArray, List.set_cons_zero, List.set_cons_succ]
      refine wpAny_take (i := 3) (oi := ⟨some 46, _, _, _, _, _⟩) (v := ?_) rfl (by kernel_rfl) (by kernel_rfl) (by kernel_rfl) (fun _ _ _ h => h) (Or.inl ⟨by rfl, by intro w; go_simp; try rfl⟩) ?_
      try simp only [Act.put, List.setIfInBounds_toArray, List.set_cons_zero, List.set_cons_succ]
      refine wpAny_ready (rs := [0, 4, 10]) (by kernel_rfl) (by simp) ?_
      refine AllReady.cons (o := ⟨some 43, _, _, _, _, _⟩) rfl (fun K hK => ?_) (AllReady.cons (o := ⟨some 47, _, _, _, _, _⟩) rfl (fun K hK => ?_) (AllReady.cons (o := ⟨some 8, _, _, _, _, _⟩) rfl (fun K hK => ?_) AllReady.nil))
      · refine step_load rwT rfl (.tmp 6) rfl rfl (HB.out.at (g := g6) (cs := tvL a t) (by simp)) (Nat.le_refl _) (vs := tvL a t) rfl ?_
        refine hK _ _ ?_
        clear hK K
        try simp only [Act.put, List.setIfInBounds_toArray, List.set_cons_zero, List.set_cons_succ]
        refine wpAny_ready (rs := [4, 10]) (by kernel_rfl) (by simp) ?_
        refine AllReady.cons (o := ⟨some 47, _, _, _, _, _⟩) rfl (fun K hK => ?_) (AllReady.cons (o := ⟨some 8, _, _, _, _, _⟩) rfl (fun K hK => ?_) AllReady.nil)
        · obtain ⟨q0, q1, q2, q3, q4⟩ := HQ.out.at_ wS HB.out.below
          go_simp
          refine hK _ _ ?_
          clear hK K q0 q1 q2 q3 q4
          try simp only [Act.put, List.setIfInBounds_toArray, List.set_cons_zero, List.set_cons_succ]
          refine wpAny_ready (rs := [5, 10]) (by kernel_rfl) (by simp) ?_
          refine AllReady.cons (o := ⟨some 48, _, _, _, _, _⟩) rfl (fun K hK => ?_) (AllReady.cons (o := ⟨some 8, _, _, _, _, _⟩) rfl (fun K hK => ?_) AllReady.nil)
          · go_simp
            refine (kstep_any HB.out ⟨by have := HT6.out.1; omega, by have := HT6.out.2; omega⟩ (by have := HAl.out; omega) d HDk.out.1 A' n' c' (by simp)).mono ?_
            rintro e w62 ⟨a7, A7, n7, c7, rfl, hl7, S7⟩
            replace HB : Kp _ := ⟨S7⟩
            have HA7 : Kp (a7.ln ≤ a.ln + 1) := ⟨hl7⟩
            clear hl7 S7
            refine hK _ _ ?_
            clear hK K
            try simp only [Act.put, List.setIfInBounds_toArray, List.set_cons_zero, List.set_cons_succ]
            refine wpAny_take (i := 6) (oi := ⟨some 42, _, _, _, _, _⟩) (v := ?_) rfl (by kernel_rfl) (by kernel_rfl) (by kernel_rfl) (fun _ _ _ h => h) (Or.inl ⟨by rfl, by intro w; go_simp; try rfl⟩) ?_
            try simp only [Act.put, List.setIfInBounds_toArray, List.set_cons_zero, List.set_cons_succ]
            refine wpAny_take (i := 7) (oi := ⟨some 49, _, _, _, _, _⟩) (v := ?_) rfl (by kernel_rfl) (by kernel_rfl) (by kernel_rfl) (fun _ _ _ h => h) (Or.inl ⟨by rfl, by intro w; go_simp; try rfl⟩) ?_
            try simp only [Act.put, List.setIfInBounds_toArray, List.set_cons_zero, List.set_cons_succ]
            refine wpAny_take (i := 8) (oi := ⟨some 50, _, _, _, _, _⟩) (v := ?_) rfl (by kernel_rfl) (by kernel_rfl) (by kernel_rfl) (fun _ _ _ h => h) (Or.inl ⟨by rfl, by intro w; go_simp; try rfl⟩) ?_
            try simp only [Act.put, List.setIfInBounds_toArray, List.set_cons_zero, List.set_cons_succ]
            refine wpAny_take (i := 9) (oi := ⟨some 51, _, _, _, _, _⟩) (v := ?_) rfl (by kernel_rfl) (by kernel_rfl) (by kernel_rfl) (fun _ _ _ h => h) (Or.inl ⟨by rfl, by intro w; go_simp; try rfl⟩) ?_
            try simp only [Act.put, List.setIfInBounds_toArray, List.set_cons_zero, List.set_cons_succ]
            refine wpAny_ready (rs := [10]) (by kernel_rfl) (by simp) ?_
            refine AllReady.cons (o := ⟨some 8, _, _, _, _, _⟩) rfl (fun K hK => ?_) AllReady.nil
            refine step_alloc tyT rfl rfl ?_
            intro w63 hk8 hb8
            have HB' := HB.out.var hb8 hk8 zeroT_noB
            have hne : g6 < w62.heap.size := (HB.out.at (g := g6) (cs := tvL a t) (by simp)).lt
            obtain ⟨g8, hg8⟩ : ∃ g, g = w62.heap.size := ⟨_, rfl⟩
            rw [← hg8] at HB' hne ⊢
            replace HB : Kp _ := ⟨HB'⟩
            have HN8 : Kp (g6 < g8) := ⟨hne⟩
            clear hk8 hb8 HB' hne hg8
            refine hK _ _ ?_
            clear hK K
            try simp only [Act.put, List.setIfInBounds_toArray, List.set_cons_zero, List.set_cons_succ]
            refine wpAny_ready (rs := [11]) (by kernel_rfl) (by simp) ?_
            refine AllReady.cons (o := ⟨none, _, _, _, _, _⟩) rfl (fun K hK => ?_) AllReady.nil
            refine step_store (vs := tvL a7 (didW t d)) rwT rfl (.tmp 8) (.tmp 49) rfl rfl rfl (HB.out.at (g := g8) (cs := zeroT') (by simp)) rfl (by decide) (tvL_one _ _) ?_
            intro w64 hk9 ho9
            have HB9 := HB.out.put (g := g8) (cs := zeroT') (ks' := [(g8, tvL a7 (didW t d)), (g6, tvL a t)]) (by simp) ho9 hk9 (tvL_noB _ _) (fun x hx => by have := HN8.out; simp at hx ⊢; rcases hx with rfl | rfl; exact .inl rfl; exact .inr ⟨.inr rfl, by simp; omega⟩)
            replace HB : Kp _ := ⟨HB9⟩
            clear hk9 ho9 HB9
            refine hK _ _ ?_
            clear hK K
            try simp only [Act.put]
            refine wpAny_take (i := 12) (oi := ⟨some 9, _, _, _, _, _⟩) (v := ?_) rfl (by kernel_rfl) (by kernel_rfl) (by kernel_rfl) (fun _ _ _ h => h) (Or.inl ⟨by rfl, by intro w; go_simp; try rfl⟩) ?_
            try simp only [Act.put, List.setIfInBounds_toArray, List.set_cons_zero, List.set_cons_succ]
            refine wpAny_take (i := 13) (oi := ⟨some 10, _, _, _, _, _⟩) (v := ?_) rfl (by kernel_rfl) (by kernel_rfl) (by kernel_rfl) (fun _ _ _ h => h) (Or.inl ⟨by rfl, by intro w; go_simp; try rfl⟩) ?_
            try simp only [Act.put, List.setIfInBounds_toArray, List.set_cons_zero, List.set_cons_succ]
            refine wpAny_done (by kernel_rfl) ?_ _
            have HK8 : Kp _ := ⟨HB.out.at (g := g8) (cs := tvL a7 (didW t d)) (by simp)⟩
            have HK6 : Kp _ := ⟨HB.out.at (g := g6) (cs := tvL a t) (by simp)⟩
            have HL7 : Kp _ := ⟨tvL_length a7 (didW t d)⟩
            have HL6 : Kp _ := ⟨tvL_length a t⟩
            have HO7 : Kp _ := ⟨tvL_one a7 (didW t d)⟩
            go_wp2_with (first | (with_reducible refine wpList_loadAll (o := ⟨some 52, _, _, _, _, _⟩) rwT rfl (.tmp 8) rfl rfl HK8.out HL7.out ?_) | (with_reducible refine wpList_storeAll (o := ⟨none, _, _, _, _, _⟩) (vs := tvL a7 (didW t d)) rwT rfl (.tmp 6) (.tmp 52) rfl rfl HK6.out HL6.out HL7.out HO7.out rfl ?_))
            intro wE hkE hoE
            have HF : Kp (∃ a t, a.ln ≤ i + 1 ∧ Bk w00 wE (i + 1) [(b, t)] [] [(a, t)] [(g6, tvL a t)]) := ⟨a7, didW t d, by have := HA7.out; have := HAl.out; omega, (HB.out.put (g := g6) (cs := tvL a t) (ks' := [(g6, tvL a7 (didW t d))]) (by simp) hoE hkE (tvL_noB _ _) (fun x hx => .inl (by simpa using hx))).drop (fun x hx => by cases hx) (fun x hx => by simp at hx; simp [hx])⟩
            clear hkE hoE HK8 HK6 HL7 HL6 HO7 HB
            go_wp2
            go_roundg g2
            case measure => omega
            case rel => exact ⟨i + 1, by omega, by go_num, HF⟩
          · refine step_alloc tyT rfl rfl ?_
            intro w65 hk8 hb8
            have HB' := HB.out.var hb8 hk8 zeroT_noB
            have hne : g6 < wS.heap.size := (HB.out.at (g := g6) (cs := tvL a t) (by simp)).lt
            obtain ⟨g8, hg8⟩ : ∃ g, g = wS.heap.size := ⟨_, rfl⟩
            rw [← hg8] at HB' hne ⊢
            replace HB : Kp _ := ⟨HB'⟩
            have HN8 : Kp (g6 < g8) := ⟨hne⟩
            clear hk8 hb8 HB' hne hg8
            refine hK _ _ ?_
            clear hK K
            try simp only [Act.put, List.setIfInBounds_toArray, List.set_cons_zero, List.set_cons_succ]
            refine wpAny_ready (rs := [5]) (by kernel_rfl) (by simp) ?_
            refine AllReady.cons (o := ⟨some 48, _, _, _, _, _⟩) rfl (fun K hK => ?_) AllReady.nil
            go_simp
            refine (kstep_any HB.out ⟨by have := HT6.out.1; omega, by have := HT6.out.2; omega⟩ (by have := HAl.out; omega) d HDk.out.1 A' n' c' (by simp)).mono ?_
            rintro e w66 ⟨a7, A7, n7, c7, rfl, hl7, S7⟩
            replace HB : Kp _ := ⟨S7⟩
            have HA7 : Kp (a7.ln ≤ a.ln + 1) := ⟨hl7⟩
            clear hl7 S7
            refine hK _ _ ?_
            clear hK K
            try simp only [Act.put, List.setIfInBounds_toArray, List.set_cons_zero, List.set_cons_succ]
            refine wpAny_take (i := 6) (oi := ⟨some 42, _, _, _, _, _⟩) (v := ?_) rfl (by kernel_rfl) (by kernel_rfl) (by kernel_rfl) (fun _ _ _ h => h) (Or.inl ⟨by rfl, by intro w; go_simp; try rfl⟩) ?_
            try simp only [Act.put, List.setIfInBounds_toArray, List.set_cons_zero, List.set_cons_succ]
            refine wpAny_take (i := 7) (oi := ⟨some 49, _, _, _, _, _⟩) (v := ?_) rfl (by kernel_rfl) (by kernel_rfl) (by kernel_rfl) (fun _ _ _ h => h) (Or.inl ⟨by rfl, by intro w; go_simp; try rfl⟩) ?_
            try simp only [Act.put, List.setIfInBounds_toArray, List.set_cons_zero, List.set_cons_succ]
            refine wpAny_take (i := 8) (oi := ⟨some 50, _, _, _, _, _⟩) (v := ?_) rfl (by kernel_rfl) (by kernel_rfl) (by kernel_rfl) (fun _ _ _ h => h) (Or.inl ⟨by rfl, by intro w; go_simp; try rfl⟩) ?_
            try simp only [Act.put, List.setIfInBounds_toArray, List.set_cons_zero, List.set_cons_succ]
            refine wpAny_take (i := 9) (oi := ⟨some 51, _, _, _, _, _⟩) (v := ?_) rfl (by kernel_rfl) (by kernel_rfl) (by kernel_rfl) (fun _ _ _ h => h) (Or.inl ⟨by rfl, by intro w; go_simp; try rfl⟩) ?_
            try simp only [Act.put, List.setIfInBounds_toArray, List.set_cons_zero, List.set_cons_succ]
            refine wpAny_ready (rs := [11]) (by kernel_rfl) (by simp) ?_
            refine AllReady.cons (o := ⟨none, _, _, _, _, _⟩) rfl (fun K hK => ?_) AllReady.nil
            refine step_store (vs := tvL a7 (didW t d)) rwT rfl (.tmp 8) (.tmp 49) rfl rfl rfl (HB.out.at (g := g8) (cs := zeroT') (by simp)) rfl (by decide) (tvL_one _ _) ?_
            intro w67 hk9 ho9
            have HB9 := HB.out.put (g := g8) (cs := zeroT') (ks' := [(g8, tvL a7 (didW t d)), (g6, tvL a t)]) (by simp) ho9 hk9 (tvL_noB _ _) (fun x hx => by have := HN8.out; simp at hx ⊢; rcases hx with rfl | rfl; exact .inl rfl; exact .inr ⟨.inr rfl, by simp; omega⟩)
            replace HB : Kp _ := ⟨HB9⟩
            clear hk9 ho9 HB9
            refine hK _ _ ?_
            clear hK K
            try simp only [Act.put]
            refine wpAny_take (i := 12) (oi := ⟨some 9, _, _, _, _, _⟩) (v := ?_) rfl (by kernel_rfl) (by kernel_rfl) (by kernel_rfl) (fun _ _ _ h => h) (Or.inl ⟨by rfl, by intro w; go_simp; try rfl⟩) ?_
            try simp only [Act.put, List.setIfInBounds_toArray, List.set_cons_zero, List.set_cons_succ]
            refine wpAny_take (i := 13) (oi := ⟨some 10, _, _, _, _, _⟩) (v := ?_) rfl (by kernel_rfl) (by kernel_rfl) (by kernel_rfl) (fun _ _ _ h => h) (Or.inl ⟨by rfl, by intro w; go_simp; try rfl⟩) ?_
            try simp only [Act.put, List.setIfInBounds_toArray, List.set_cons_zero, List.set_cons_succ]
            refine wpAny_done (by kernel_rfl) ?_ _
            have HK8 : Kp _ := ⟨HB.out.at (g := g8) (cs := tvL a7 (didW t d)) (by simp)⟩
            have HK6 : Kp _ := ⟨HB.out.at (g := g6) (cs := tvL a t) (by simp)⟩
            have HL7 : Kp _ := ⟨tvL_length a7 (didW t d)⟩
            have HL6 : Kp _ := ⟨tvL_length a t⟩
            have HO7 : Kp _ := ⟨tvL_one a7 (didW t d)⟩
            go_wp2_with (first | (with_reducible refine wpList_loadAll (o := ⟨some 52, _, _, _, _, _⟩) rwT rfl (.tmp 8) rfl rfl HK8.out HL7.out ?_) | (with_reducible refine wpList_storeAll (o := ⟨none, _, _, _, _, _⟩) (vs := tvL a7 (didW t d)) rwT rfl (.tmp 6) (.tmp 52) rfl rfl HK6.out HL6.out HL7.out HO7.out rfl ?_))
            intro wE hkE hoE
            have HF : Kp (∃ a t, a.ln ≤ i + 1 ∧ Bk w00 wE (i + 1) [(b, t)] [] [(a, t)] [(g6, tvL a t)]) := ⟨a7, didW t d, by have := HA7.out; have := HAl.out; omega, (HB.out.put (g := g6) (cs := tvL a t) (ks' := [(g6, tvL a7 (didW t d))]) (by simp) hoE hkE (tvL_noB _ _) (fun x hx => .inl (by simpa using hx))).drop (fun x hx => by cases hx) (fun x hx => by simp at hx; simp [hx])⟩
            clear hkE hoE HK8 HK6 HL7 HL6 HO7 HB
            go_wp2
            go_roundg g2
            case measure => omega
            case rel => exact ⟨i + 1, by omega, by go_num, HF⟩
        · refine step_alloc tyT rfl rfl ?_
          intro w68 hk8 hb8
          have HB' := HB.out.var hb8 hk8 zeroT_noB
          have hne : g6 < wS.heap.size := (HB.out.at (g := g6) (cs := tvL a t) (by simp)).lt
          obtain ⟨g8, hg8⟩ : ∃ g, g = wS.heap.size := ⟨_, rfl⟩
          rw [← hg8] at HB' hne ⊢
          replace HB : Kp _ := ⟨HB'⟩
          have HN8 : Kp (g6 < g8) := ⟨hne⟩
          clear hk8 hb8 HB' hne hg8
          refine hK _ _ ?_
          clear hK K
          try simp only [Act.put, List.setIfInBounds_toArray, List.set_cons_zero, List.set_cons_succ]
          refine wpAny_ready (rs := [4]) (by kernel_rfl) (by simp) ?_
          refine AllReady.cons (o := ⟨some 47, _, _, _, _, _⟩) rfl (fun K hK => ?_) AllReady.nil
          obtain ⟨q0, q1, q2, q3, q4⟩ := HQ.out.at_ w68 HB.out.below
          go_simp
          refine hK _ _ ?_
          clear hK K q0 q1 q2 q3 q4
          try simp only [Act.put, List.setIfInBounds_toArray, List.set_cons_zero, List.set_cons_succ]
          refine wpAny_ready (rs := [5]) (by kernel_rfl) (by simp) ?_
          refine AllReady.cons (o := ⟨some 48, _, _, _, _, _⟩) rfl (fun K hK => ?_) AllReady.nil
          go_simp
          refine (kstep_any HB.out ⟨by have := HT6.out.1; omega, by have := HT6.out.2; omega⟩ (by have := HAl.out; omega) d HDk.out.1 A' n' c' (by simp)).mono ?_
          rintro e w70 ⟨a7, A7, n7, c7, rfl, hl7, S7⟩
          replace HB : Kp _ := ⟨S7⟩
          have HA7 : Kp (a7.ln ≤ a.ln + 1) := ⟨hl7⟩
          clear hl7 S7
          refine hK _ _ ?_
          clear hK K
          try simp only [Act.put, List.setIfInBounds_toArray, List.set_cons_zero, List.set_cons_succ]
          refine wpAny_take (i := 6) (oi := ⟨some 42, _, _, _, _, _⟩) (v := ?_) rfl (by kernel_rfl) (by kernel_rfl) (by kernel_rfl) (fun _ _ _ h => h) (Or.inl ⟨by rfl, by intro w; go_simp; try rfl⟩) ?_
          try simp only [Act.put, List.setIfInBounds_toArray, List.set_cons_zero, List.set_cons_succ]
          refine wpAny_take (i := 7) (oi := ⟨some 49, _, _, _, _, _⟩) (v := ?_) rfl (by kernel_rfl) (by kernel_rfl) (by kernel_rfl) (fun _ _ _ h => h) (Or.inl ⟨by rfl, by intro w; go_simp; try rfl⟩) ?_
          try simp only [Act.put, List.setIfInBounds_toArray, List.set_cons_zero, List.set_cons_succ]
          refine wpAny_take (i := 8) (oi := ⟨some 50, _, _, _, _, _⟩) (v := ?_) rfl (by kernel_rfl) (by kernel_rfl) (by kernel_rfl) (fun _ _ _ h => h) (Or.inl ⟨by rfl, by intro w; go_simp; try rfl⟩) ?_
          try simp only [Act.put, List.setIfInBounds_toArray, List.set_cons_zero, List.set_cons_succ]
          refine wpAny_take (i := 9) (oi := ⟨some 51, _, _, _, _, _⟩) (v := ?_) rfl (by kernel_rfl) (by kernel_rfl) (by kernel_rfl) (fun _ _ _ h => h) (Or.inl ⟨by rfl, by intro w; go_simp; try rfl⟩) ?_
          try simp only [Act.put, List.setIfInBounds_toArray, List.set_cons_zero, List.set_cons_succ]
          refine wpAny_ready (rs := [11]) (by kernel_rfl) (by simp) ?_
          refine AllReady.cons (o := ⟨none, _, _, _, _, _⟩) rfl (fun K hK => ?_) AllReady.nil
          refine step_store (vs := tvL a7 (didW t d)) rwT rfl (.tmp 8) (.tmp 49) rfl rfl rfl (HB.out.at (g := g8) (cs := zeroT') (by simp)) rfl (by decide) (tvL_one _ _) ?_
          intro w71 hk9 ho9
          have HB9 := HB.out.put (g := g8) (cs := zeroT') (ks' := [(g8, tvL a7 (didW t d)), (g6, tvL a t)]) (by simp) ho9 hk9 (tvL_noB _ _) (fun x hx => by have := HN8.out; simp at hx ⊢; rcases hx with rfl | rfl; exact .inl rfl; exact .inr ⟨.inr rfl, by simp; omega⟩)
          replace HB : Kp _ := ⟨HB9⟩
          clear hk9 ho9 HB9
          refine hK _ _ ?_
          clear hK K
          try simp only [Act.put]
          refine wpAny_take (i := 12) (oi := ⟨some 9, _, _, _, _, _⟩) (v := ?_) rfl (by kernel_rfl) (by kernel_rfl) (by kernel_rfl) (fun _ _ _ h => h) (Or.inl ⟨by rfl, by intro w; go_simp; try rfl⟩) ?_
          try simp only [Act.put, List.setIfInBounds_toArray, List.set_cons_zero, List.set_cons_succ]
          refine wpAny_take (i := 13) (oi := ⟨some 10, _, _, _, _, _⟩) (v := ?_) rfl (by kernel_rfl) (by kernel_rfl) (by kernel_rfl) (fun _ _ _ h => h) (Or.inl ⟨by rfl, by intro w; go_simp; try rfl⟩) ?_
          try simp only [Act.put, List.setIfInBounds_toArray, List.set_cons_zero, List.set_cons_succ]
          refine wpAny_done (by kernel_rfl) ?_ _
          have HK8 : Kp _ := ⟨HB.out.at (g := g8) (cs := tvL a7 (didW t d)) (by simp)⟩
          have HK6 : Kp _ := ⟨HB.out.at (g := g6) (cs := tvL a t) (by simp)⟩
          have HL7 : Kp _ := ⟨tvL_length a7 (didW t d)⟩
          have HL6 : Kp _ := ⟨tvL_length a t⟩
          have HO7 : Kp _ := ⟨tvL_one a7 (didW t d)⟩
          go_wp2_with (first | (with_reducible refine wpList_loadAll (o := ⟨some 52, _, _, _, _, _⟩) rwT rfl (.tmp 8) rfl rfl HK8.out HL7.out ?_) | (with_reducible refine wpList_storeAll (o := ⟨none, _, _, _, _, _⟩) (vs := tvL a7 (didW t d)) rwT rfl (.tmp 6) (.tmp 52) rfl rfl HK6.out HL6.out HL7.out HO7.out rfl ?_))
          intro wE hkE hoE
          have HF : Kp (∃ a t, a.ln ≤ i + 1 ∧ Bk w00 wE (i + 1) [(b, t)] [] [(a, t)] [(g6, tvL a t)]) := ⟨a7, didW t d, by have := HA7.out; have := HAl.out; omega, (HB.out.put (g := g6) (cs := tvL a t) (ks' := [(g6, tvL a7 (didW t d))]) (by simp) hoE hkE (tvL_noB _ _) (fun x hx => .inl (by simpa using hx))).drop (fun x hx => by cases hx) (fun x hx => by simp at hx; simp [hx])⟩
          clear hkE hoE HK8 HK6 HL7 HL6 HO7 HB
          go_wp2
          go_roundg g2
          case measure => omega
          case rel => exact ⟨i + 1, by omega, by go_num, HF⟩
      · obtain ⟨q0, q1, q2, q3, q4⟩ := HQ.out.at_ wS HB.out.below
        go_simp
        refine hK _ _ ?_
        clear hK K q0 q1 q2 q3 q4
        try simp only [Act.put, List.setIfInBounds_toArray, List.set_cons_zero, List.set_cons_succ]
        refine wpAny_ready (rs := [0, 10]) (by kernel_rfl) (by simp) ?_
        refine AllReady.cons (o := ⟨some 43, _, _, _, _, _⟩) rfl (fun K hK => ?_) (AllReady.cons (o := ⟨some 8, _, _, _, _, _⟩) rfl (fun K hK => ?_) AllReady.nil)
        · refine step_load rwT rfl (.tmp 6) rfl rfl (HB.out.at (g := g6) (cs := tvL a t) (by simp)) (Nat.le_refl _) (vs := tvL a t) rfl ?_
          refine hK _ _ ?_
          clear hK K
          try simp only [Act.put, List.setIfInBounds_toArray, List.set_cons_zero, List.set_cons_succ]
          refine wpAny_ready (rs := [5, 10]) (by kernel_rfl) (by simp) ?_
          refine AllReady.cons (o := ⟨some 48, _, _, _, _, _⟩) rfl (fun K hK => ?_) (AllReady.cons (o := ⟨some 8, _, _, _, _, _⟩) rfl (fun K hK => ?_) AllReady.nil)
          · go_simp
            refine (kstep_any HB.out ⟨by have := HT6.out.1; omega, by have := HT6.out.2; omega⟩ (by have := HAl.out; omega) d HDk.out.1 A' n' c' (by simp)).mono ?_
            rintro e w73 ⟨a7, A7, n7, c7, rfl, hl7, S7⟩
            replace HB : Kp _ := ⟨S7⟩
            have HA7 : Kp (a7.ln ≤ a.ln + 1) := ⟨hl7⟩
            clear hl7 S7
            refine hK _ _ ?_
            clear hK K
            try simp only [Act.put, List.setIfInBounds_toArray, List.set_cons_zero, List.set_cons_succ]
            refine wpAny_take (i := 6) (oi := ⟨some 42, _, _, _, _, _⟩) (v := ?_) rfl (by kernel_rfl) (by kernel_rfl) (by kernel_rfl) (fun _ _ _ h => h) (Or.inl ⟨by rfl, by intro w; go_simp; try rfl⟩) ?_
            try simp only [Act.put, List.setIfInBounds_toArray, List.set_cons_zero, List.set_cons_succ]
            refine wpAny_take (i := 7) (oi := ⟨some 49, _, _, _, _, _⟩) (v := ?_) rfl (by kernel_rfl) (by kernel_rfl) (by kernel_rfl) (fun _ _ _ h => h) (Or.inl ⟨by rfl, by intro w; go_simp; try rfl⟩) ?_
            try simp only [Act.put, List.setIfInBounds_toArray, List.set_cons_zero, List.set_cons_succ]
            refine wpAny_take (i := 8) (oi := ⟨some 50, _, _, _, _, _⟩) (v := ?_) rfl (by kernel_rfl) (by kernel_rfl) (by kernel_rfl) (fun _ _ _ h => h) (Or.inl ⟨by rfl, by intro w; go_simp; try rfl⟩) ?_
            try simp only [Act.put, List.setIfInBounds_toArray, List.set_cons_zero, List.set_cons_succ]
            refine wpAny_take (i := 9) (oi := ⟨some 51, _, _, _, _, _⟩) (v := ?_) rfl (by kernel_rfl) (by kernel_rfl) (by kernel_rfl) (fun _ _ _ h => h) (Or.inl ⟨by rfl, by intro w; go_simp; try rfl⟩) ?_
            try simp only [Act.put, List.setIfInBounds_toArray, List.set_cons_zero, List.set_cons_succ]
            refine wpAny_ready (rs := [10]) (by kernel_rfl) (by simp) ?_
            refine AllReady.cons (o := ⟨some 8, _, _, _, _, _⟩) rfl (fun K hK => ?_) AllReady.nil
            refine step_alloc tyT rfl rfl ?_
            intro w74 hk8 hb8
            have HB' := HB.out.var hb8 hk8 zeroT_noB
            have hne : g6 < w73.heap.size := (HB.out.at (g := g6) (cs := tvL a t) (by simp)).lt
            obtain ⟨g8, hg8⟩ : ∃ g, g = w73.heap.size := ⟨_, rfl⟩
            rw [← hg8] at HB' hne ⊢
            replace HB : Kp _ := ⟨HB'⟩
            have HN8 : Kp (g6 < g8) := ⟨hne⟩
            clear hk8 hb8 HB' hne hg8
            refine hK _ _ ?_
            clear hK K
            try simp only [Act.put, List.setIfInBounds_toArray, List.set_cons_zero, List.set_cons_succ]
            refine wpAny_ready (rs := [11]) (by kernel_rfl) (by simp) ?_
            refine AllReady.cons (o := ⟨none, _, _, _, _, _⟩) rfl (fun K hK => ?_) AllReady.nil
            refine step_store (vs := tvL a7 (didW t d)) rwT rfl (.tmp 8) (.tmp 49) rfl rfl rfl (HB.out.at (g := g8) (cs := zeroT') (by simp)) rfl (by decide) (tvL_one _ _) ?_
            intro w75 hk9 ho9
            have HB9 := HB.out.put (g := g8) (cs := zeroT') (ks' := [(g8, tvL a7 (didW t d)), (g6, tvL a t)]) (by simp) ho9 hk9 (tvL_noB _ _) (fun x hx => by have := HN8.out; simp at hx ⊢; rcases hx with rfl | rfl; exact .inl rfl; exact .inr ⟨.inr rfl, by simp; omega⟩)
            replace HB : Kp _ := ⟨HB9⟩
            clear hk9 ho9 HB9
            refine hK _ _ ?_
            clear hK K
            try simp only [Act.put]
            refine wpAny_take (i := 12) (oi := ⟨some 9, _, _, _, _, _⟩) (v := ?_) rfl (by kernel_rfl) (by kernel_rfl) (by kernel_rfl) (fun _ _ _ h => h) (Or.inl ⟨by rfl, by intro w; go_simp; try rfl⟩) ?_
            try simp only [Act.put, List.setIfInBounds_toArray, List.set_cons_zero, List.set_cons_succ]
            refine wpAny_take (i := 13) (oi := ⟨some 10, _, _, _, _, _⟩) (v := ?_) rfl (by kernel_rfl) (by kernel_rfl) (by kernel_rfl) (fun _ _ _ h => h) (Or.inl ⟨by rfl, by intro w; go_simp; try rfl⟩) ?_
            try simp only [Act.put, List.setIfInBounds_toArray, List.set_cons_zero, List.set_cons_succ]
            refine wpAny_done (by kernel_rfl) ?_ _
            have HK8 : Kp _ := ⟨HB.out.at (g := g8) (cs := tvL a7 (didW t d)) (by simp)⟩
            have HK6 : Kp _ := ⟨HB.out.at (g := g6) (cs := tvL a t) (by simp)⟩
            have HL7 : Kp _ := ⟨tvL_length a7 (didW t d)⟩
            have HL6 : Kp _ := ⟨tvL_length a t⟩
            have HO7 : Kp _ := ⟨tvL_one a7 (didW t d)⟩
            go_wp2_with (first | (with_reducible refine wpList_loadAll (o := ⟨some 52, _, _, _, _, _⟩) rwT rfl (.tmp 8) rfl rfl HK8.out HL7.out ?_) | (with_reducible refine wpList_storeAll (o := ⟨none, _, _, _, _, _⟩) (vs := tvL a7 (didW t d)) rwT rfl (.tmp 6) (.tmp 52) rfl rfl HK6.out HL6.out HL7.out HO7.out rfl ?_))
            intro wE hkE hoE
            have HF : Kp (∃ a t, a.ln ≤ i + 1 ∧ Bk w00 wE (i + 1) [(b, t)] [] [(a, t)] [(g6, tvL a t)]) := ⟨a7, didW t d, by have := HA7.out; have := HAl.out; omega, (HB.out.put (g := g6) (cs := tvL a t) (ks' := [(g6, tvL a7 (didW t d))]) (by simp) hoE hkE (tvL_noB _ _) (fun x hx => .inl (by simpa using hx))).drop (fun x hx => by cases hx) (fun x hx => by simp at hx; simp [hx])⟩
            clear hkE hoE HK8 HK6 HL7 HL6 HO7 HB
            go_wp2
            go_roundg g2
            case measure => omega
            case rel => exact ⟨i + 1, by omega, by go_num, HF⟩
          · refine step_alloc tyT rfl rfl ?_
            intro w76 hk8 hb8
            have HB' := HB.out.var hb8 hk8 zeroT_noB
            have hne : g6 < wS.heap.size := (HB.out.at (g := g6) (cs := tvL a t) (by simp)).lt
            obtain ⟨g8, hg8⟩ : ∃ g, g = wS.heap.size := ⟨_, rfl⟩
            rw [← hg8] at HB' hne ⊢
            replace HB : Kp _ := ⟨HB'⟩
            have HN8 : Kp (g6 < g8) := ⟨hne⟩
            clear hk8 hb8 HB' hne hg8
            refine hK _ _ ?_
            clear hK K
            try simp only [Act.put, List.setIfInBounds_toArray, List.set_cons_zero, List.set_cons_succ]
            refine wpAny_ready (rs := [5]) (by kernel_rfl) (by simp) ?_
            refine AllReady.cons (o := ⟨some 48, _, _, _, _, _⟩) rfl (fun K hK => ?_) AllReady.nil
            go_simp
            refine (kstep_any HB.out ⟨by have := HT6.out.1; omega, by have := HT6.out.2; omega⟩ (by have := HAl.out; omega) d HDk.out.1 A' n' c' (by simp)).mono ?_
            rintro e w77 ⟨a7, A7, n7, c7, rfl, hl7, S7⟩
            replace HB : Kp _ := ⟨S7⟩
            have HA7 : Kp (a7.ln ≤ a.ln + 1) := ⟨hl7⟩
            clear hl7 S7
            refine hK _ _ ?_
            clear hK K
            try simp only [Act.put, List.setIfInBounds_toArray, List.set_cons_zero, List.set_cons_succ]
            refine wpAny_take (i := 6) (oi := ⟨some 42, _, _, _, _, _⟩) (v := ?_) rfl (by kernel_rfl) (by kernel_rfl) (by kernel_rfl) (fun _ _ _ h => h) (Or.inl ⟨by rfl, by intro w; go_simp; try rfl⟩) ?_
            try simp only [Act.put, List.setIfInBounds_toArray, List.set_cons_zero, List.set_cons_succ]
            refine wpAny_take (i := 7) (oi := ⟨some 49, _, _, _, _, _⟩) (v := ?_) rfl (by kernel_rfl) (by kernel_rfl) (by kernel_rfl) (fun _ _ _ h => h) (Or.inl ⟨by rfl, by intro w; go_simp; try rfl⟩) ?_
            try simp only [Act.put, List.setIfInBounds_toArray, List.set_cons_zero, List.set_cons_succ]
            refine wpAny_take (i := 8) (oi := ⟨some 50, _, _, _, _, _⟩) (v := ?_) rfl (by kernel_rfl) (by kernel_rfl) (by kernel_rfl) (fun _ _ _ h => h) (Or.inl ⟨by rfl, by intro w; go_simp; try rfl⟩) ?_
            try simp only [Act.put, List.setIfInBounds_toArray, List.set_cons_zero, List.set_cons_succ]
            refine wpAny_take (i := 9) (oi := ⟨some 51, _, _, _, _, _⟩) (v := ?_) rfl (by kernel_rfl) (by kernel_rfl) (by kernel_rfl) (fun _ _ _ h => h) (Or.inl ⟨by rfl, by intro w; go_simp; try rfl⟩) ?_
            try simp only [Act.put, List.setIfInBounds_toArray, List.set_cons_zero, List.set_cons_succ]
            refine wpAny_ready (rs := [11]) (by kernel_rfl) (by simp) ?_
            refine AllReady.cons (o := ⟨none, _, _, _, _, _⟩) rfl (fun K hK => ?_) AllReady.nil
            refine step_store (vs := tvL a7 (didW t d)) rwT rfl (.tmp 8) (.tmp 49) rfl rfl rfl (HB.out.at (g := g8) (cs := zeroT') (by simp)) rfl (by decide) (tvL_one _ _) ?_
            intro w78 hk9 ho9
            have HB9 := HB.out.put (g := g8) (cs := zeroT') (ks' := [(g8, tvL a7 (didW t d)), (g6, tvL a t)]) (by simp) ho9 hk9 (tvL_noB _ _) (fun x hx => by have := HN8.out; simp at hx ⊢; rcases hx with rfl | rfl; exact .inl rfl; exact .inr ⟨.inr rfl, by simp; omega⟩)
            replace HB : Kp _ := ⟨HB9⟩
            clear hk9 ho9 HB9
            refine hK _ _ ?_
            clear hK K
            try simp only [Act.put]
            refine wpAny_take (i := 12) (oi := ⟨some 9, _, _, _, _, _⟩) (v := ?_) rfl (by kernel_rfl) (by kernel_rfl) (by kernel_rfl) (fun _ _ _ h => h) (Or.inl ⟨by rfl, by intro w; go_simp; try rfl⟩) ?_
            try simp only [Act.put, List.setIfInBounds_toArray, List.set_cons_zero, List.set_cons_succ]
            refine wpAny_take (i := 13) (oi := ⟨some 10, _, _, _, _, _⟩) (v := ?_) rfl (by kernel_rfl) (by kernel_rfl) (by kernel_rfl) (fun _ _ _ h => h) (Or.inl ⟨by rfl, by intro w; go_simp; try rfl⟩) ?_
            try simp only [Act.put, List.setIfInBounds_toArray, List.set_cons_zero, List.set_cons_succ]
            refine wpAny_done (by kernel_rfl) ?_ _
            have HK8 : Kp _ := ⟨HB.out.at (g := g8) (cs := tvL a7 (didW t d)) (by simp)⟩
            have HK6 : Kp _ := ⟨HB.out.at (g := g6) (cs := tvL a t) (by simp)⟩
            have HL7 : Kp _ := ⟨tvL_length a7 (didW t d)⟩
            have HL6 : Kp _ := ⟨tvL_length a t⟩
            have HO7 : Kp _ := ⟨tvL_one a7 (didW t d)⟩
            go_wp2_with (first | (with_reducible refine wpList_loadAll (o := ⟨some 52, _, _, _, _, _⟩) rwT rfl (.tmp 8) rfl rfl HK8.out HL7.out ?_) | (with_reducible refine wpList_storeAll (o := ⟨none, _, _, _, _, _⟩) (vs := tvL a7 (didW t d)) rwT rfl (.tmp 6) (.tmp 52) rfl rfl HK6.out HL6.out HL7.out HO7.out rfl ?_))
            intro wE hkE hoE
            have HF : Kp (∃ a t, a.ln ≤ i + 1 ∧ Bk w00 wE (i + 1) [(b, t)] [] [(a, t)] [(g6, tvL a t)]) := ⟨a7, didW t d, by have := HA7.out; have := HAl.out; omega, (HB.out.put (g := g6) (cs := tvL a t) (ks' := [(g6, tvL a7 (didW t d))]) (by simp) hoE hkE (tvL_noB _ _) (fun x hx => .inl (by simpa using hx))).drop (fun x hx => by cases hx) (fun x hx => by simp at hx; simp [hx])⟩
            clear hkE hoE HK8 HK6 HL7 HL6 HO7 HB
            go_wp2
            go_roundg g2
            case measure => omega
            case rel => exact ⟨i + 1, by omega, by go_num, HF⟩
        · refine step_alloc tyT rfl rfl ?_
          intro w79 hk8 hb8
          have HB' := HB.out.var hb8 hk8 zeroT_noB
          have hne : g6 < wS.heap.size := (HB.out.at (g := g6) (cs := tvL a t) (by simp)).lt
          obtain ⟨g8, hg8⟩ : ∃ g, g = wS.heap.size := ⟨_, rfl⟩
          rw [← hg8] at HB' hne ⊢
          replace HB : Kp _ := ⟨HB'⟩
          have HN8 : Kp (g6 < g8) := ⟨hne⟩
          clear hk8 hb8 HB' hne hg8
          refine hK _ _ ?_
          clear hK K
          try simp only [Act.put, List.setIfInBounds_toArray, List.set_cons_zero, List.set_cons_succ]
          refine wpAny_ready (rs := [0]) (by kernel_rfl) (by simp) ?_
          refine AllReady.cons (o := ⟨some 43, _, _, _, _, _⟩) rfl (fun K hK => ?_) AllReady.nil
          refine step_load rwT rfl (.tmp 6) rfl rfl (HB.out.at (g := g6) (cs := tvL a t) (by simp)) (Nat.le_refl _) (vs := tvL a t) rfl ?_
          refine hK _ _ ?_
          clear hK K
          try simp only [Act.put, List.setIfInBounds_toArray, List.set_cons_zero, List.set_cons_succ]
          refine wpAny_ready (rs := [5]) (by kernel_rfl) (by simp) ?_
          refine AllReady.cons (o := ⟨some 48, _, _, _, _, _⟩) rfl (fun K hK => ?_) AllReady.nil
          go_simp
          refine (kstep_any HB.out ⟨by have := HT6.out.1; omega, by have := HT6.out.2; omega⟩ (by have := HAl.out; omega) d HDk.out.1 A' n' c' (by simp)).mono ?_
          rintro e w80 ⟨a7, A7, n7, c7, rfl, hl7, S7⟩
          replace HB : Kp _ := ⟨S7⟩
          have HA7 : Kp (a7.ln ≤ a.ln + 1) := ⟨hl7⟩
          clear hl7 S7
          refine hK _ _ ?_
          clear hK K
          try simp only [Act.put, List.setIfInBounds_toArray, List.set_cons_zero, List.set_cons_succ]
          refine wpAny_take (i := 6) (oi := ⟨some 42, _, _, _, _, _⟩) (v := ?_) rfl (by kernel_rfl) (by kernel_rfl) (by kernel_rfl) (fun _ _ _ h => h) (Or.inl ⟨by rfl, by intro w; go_simp; try rfl⟩) ?_
          try simp only [Act.put, List.setIfInBounds_toArray, List.set_cons_zero, List.set_cons_succ]
          refine wpAny_take (i := 7) (oi := ⟨some 49, _, _, _, _, _⟩) (v := ?_) rfl (by kernel_rfl) (by kernel_rfl) (by kernel_rfl) (fun _ _ _ h => h) (Or.inl ⟨by rfl, by intro w; go_simp; try rfl⟩) ?_
          try simp only [Act.put, List.setIfInBounds_toArray, List.set_cons_zero, List.set_cons_succ]
          refine wpAny_take (i := 8) (oi := ⟨some 50, _, _, _, _, _⟩) (v := ?_) rfl (by kernel_rfl) (by kernel_rfl) (by kernel_rfl) (fun _ _ _ h => h) (Or.inl ⟨by rfl, by intro w; go_simp; try rfl⟩) ?_
          try simp only [Act.put, List.setIfInBounds_toArray, List.set_cons_zero, List.set_cons_succ]
          refine wpAny_take (i := 9) (oi := ⟨some 51, _, _, _, _, _⟩) (v := ?_) rfl (by kernel_rfl) (by kernel_rfl) (by kernel_rfl) (fun _ _ _ h => h) (Or.inl ⟨by rfl, by intro w; go_simp; try rfl⟩) ?_
          try simp only [Act.put, List.setIfInBounds_toArray, List.set_cons_zero, List.set_cons_succ]
          refine wpAny_ready (rs := [11]) (by kernel_rfl) (by simp) ?_
          refine AllReady.cons (o := ⟨none, _, _, _, _, _⟩) rfl (fun K hK => ?_) AllReady.nil
          refine step_store (vs := tvL a7 (didW t d)) rwT rfl (.tmp 8) (.tmp 49) rfl rfl rfl (HB.out.at (g := g8) (cs := zeroT') (by simp)) rfl (by decide) (tvL_one _ _) ?_
          intro w81 hk9 ho9
          have HB9 := HB.out.put (g := g8) (cs := zeroT') (ks' := [(g8, tvL a7 (didW t d)), (g6, tvL a t)]) (by simp) ho9 hk9 (tvL_noB _ _) (fun x hx => by have := HN8.out; simp at hx ⊢; rcases hx with rfl | rfl; exact .inl rfl; exact .inr ⟨.inr rfl, by simp; omega⟩)
          replace HB : Kp _ := ⟨HB9⟩
          clear hk9 ho9 HB9
          refine hK _ _ ?_
          clear hK K
          try simp only [Act.put]
          refine wpAny_take (i := 12) (oi := ⟨some 9, _, _, _, _, _⟩) (v := ?_) rfl (by kernel_rfl) (by kernel_rfl) (by kernel_rfl) (fun _ _ _ h => h) (Or.inl ⟨by rfl, by intro w; go_simp; try rfl⟩) ?_
          try simp only [Act.put, List.setIfInBounds_toArray, List.set_cons_zero, List.set_cons_succ]
          refine wpAny_take (i := 13) (oi := ⟨some 10, _, _, _, _, _⟩) (v := ?_) rfl (by kernel_rfl) (by kernel_rfl) (by kernel_rfl) (fun _ _ _ h => h) (Or.inl ⟨by rfl, by intro w; go_simp; try rfl⟩) ?_
          try simp only [Act.put, List.setIfInBounds_toArray, List.set_cons_zero, List.set_cons_succ]
          refine wpAny_done (by kernel_rfl) ?_ _
          have HK8 : Kp _ := ⟨HB.out.at (g := g8) (cs := tvL a7 (didW t d)) (by simp)⟩
          have HK6 : Kp _ := ⟨HB.out.at (g := g6) (cs := tvL a t) (by simp)⟩
          have HL7 : Kp _ := ⟨tvL_length a7 (didW t d)⟩
          have HL6 : Kp _ := ⟨tvL_length a t⟩
          have HO7 : Kp _ := ⟨tvL_one a7 (didW t d)⟩
          go_wp2_with (first | (with_reducible refine wpList_loadAll (o := ⟨some 52, _, _, _, _, _⟩) rwT rfl (.tmp 8) rfl rfl HK8.out HL7.out ?_) | (with_reducible refine wpList_storeAll (o := ⟨none, _, _, _, _, _⟩) (vs := tvL a7 (didW t d)) rwT rfl (.tmp 6) (.tmp 52) rfl rfl HK6.out HL6.out HL7.out HO7.out rfl ?_))
          intro wE hkE hoE
          have HF : Kp (∃ a t, a.ln ≤ i + 1 ∧ Bk w00 wE (i + 1) [(b, t)] [] [(a, t)] [(g6, tvL a t)]) := ⟨a7, didW t d, by have := HA7.out; have := HAl.out; omega, (HB.out.put (g := g6) (cs := tvL a t) (ks' := [(g6, tvL a7 (didW t d))]) (by simp) hoE hkE (tvL_noB _ _) (fun x hx => .inl (by simpa using hx))).drop (fun x hx => by cases hx) (fun x hx => by simp at hx; simp [hx])⟩
          clear hkE hoE HK8 HK6 HL7 HL6 HO7 HB
          go_wp2
          go_roundg g2
          case measure => omega
          case rel => exact ⟨i + 1, by omega, by go_num, HF⟩
      · refine step_alloc tyT rfl rfl ?_
        intro w82 hk8 hb8
        have HB' := HB.out.var hb8 hk8 zeroT_noB
        have hne : g6 < wS.heap.size := (HB.out.at (g := g6) (cs := tvL a t) (by simp)).lt
        obtain ⟨g8, hg8⟩ : ∃ g, g = wS.heap.size := ⟨_, rfl⟩
        rw [← hg8] at HB' hne ⊢
        replace HB : Kp _ := ⟨HB'⟩
        have HN8 : Kp (g6 < g8) := ⟨hne⟩
        clear hk8 hb8 HB' hne hg8
        refine hK _ _ ?_
        clear hK K
        try simp only [Act.put, List.setIfInBounds_toArray, List.set_cons_zero, List.set_cons_succ]
        refine wpAny_ready (rs := [0, 4]) (by kernel_rfl) (by simp) ?_
        refine AllReady.cons (o := ⟨some 43, _, _, _, _, _⟩) rfl (fun K hK => ?_) (AllReady.cons (o := ⟨some 47, _, _, _, _, _⟩) rfl (fun K hK => ?_) AllReady.nil)
        · refine step_load rwT rfl (.tmp 6) rfl rfl (HB.out.at (g := g6) (cs := tvL a t) (by simp)) (Nat.le_refl _) (vs := tvL a t) rfl ?_
          refine hK _ _ ?_
          clear hK K
          try simp only [Act.put, List.setIfInBounds_toArray, List.set_cons_zero, List.set_cons_succ]
          refine wpAny_ready (rs := [4]) (by kernel_rfl) (by simp) ?_
          refine AllReady.cons (o := ⟨some 47, _, _, _, _, _⟩) rfl (fun K hK => ?_) AllReady.nil
          obtain ⟨q0, q1, q2, q3, q4⟩ := HQ.out.at_ w82 HB.out.below
          go_simp
          refine hK _ _ ?_
          clear hK K q0 q1 q2 q3 q4
          try simp only [Act.put, List.setIfInBounds_toArray, List.set_cons_zero, List.set_cons_succ]
          refine wpAny_ready (rs := [5]) (by kernel_rfl) (by simp) ?_
          refine AllReady.cons (o := ⟨some 48, _, _, _, _, _⟩) rfl (fun K hK => ?_) AllReady.nil
          go_simp
          refine (kstep_any HB.out ⟨by have := HT6.out.1; omega, by have := HT6.out.2; omega⟩ (by have := HAl.out; omega) d HDk.out.1 A' n' c' (by simp)).mono ?_
          rintro e w84 ⟨a7, A7, n7, c7, rfl, hl7, S7⟩
          replace HB : Kp _ := ⟨S7⟩
          have HA7 : Kp (a7.ln ≤ a.ln + 1) := ⟨hl7⟩
          clear hl7 S7
          refine hK _ _ ?_
          clear hK K
          try simp only [Act.put, List.setIfInBounds_toArray, List.set_cons_zero, List.set_cons_succ]
          refine wpAny_take (i := 6) (oi := ⟨some 42, _, _, _, _, _⟩) (v := ?_) rfl (by kernel_rfl) (by kernel_rfl) (by kernel_rfl) (fun _ _ _ h => h) (Or.inl ⟨by rfl, by intro w; go_simp; try rfl⟩) ?_
          try simp only [Act.put, List.setIfInBounds_toArray, List.set_cons_zero, List.set_cons_succ]
          refine wpAny_take (i := 7) (oi := ⟨some 49, _, _, _, _, _⟩) (v := ?_) rfl (by kernel_rfl) (by kernel_rfl) (by kernel_rfl) (fun _ _ _ h => h) (Or.inl ⟨by rfl, by intro w; go_simp; try rfl⟩) ?_
          try simp only [Act.put, List.setIfInBounds_toArray, List.set_cons_zero, List.set_cons_succ]
          refine wpAny_take (i := 8) (oi := ⟨some 50, _, _, _, _, _⟩) (v := ?_) rfl (by kernel_rfl) (by kernel_rfl) (by kernel_rfl) (fun _ _ _ h => h) (Or.inl ⟨by rfl, by intro w; go_simp; try rfl⟩) ?_
          try simp only [Act.put, List.setIfInBounds_toArray, List.set_cons_zero, List.set_cons_succ]
          refine wpAny_take (i := 9) (oi := ⟨some 51, _, _, _, _, _⟩) (v := ?_) rfl (by kernel_rfl) (by kernel_rfl) (by kernel_rfl) (fun _ _ _ h => h) (Or.inl ⟨by rfl, by intro w; go_simp; try rfl⟩) ?_
          try simp only [Act.put, List.setIfInBounds_toArray, List.set_cons_zero, List.set_cons_succ]
          refine wpAny_ready (rs := [11]) (by kernel_rfl) (by simp) ?_
          refine AllReady.cons (o := ⟨none, _, _, _, _, _⟩) rfl (fun K hK => ?_) AllReady.nil
          refine step_store (vs := tvL a7 (didW t d)) rwT rfl (.tmp 8) (.tmp 49) rfl rfl rfl (HB.out.at (g := g8) (cs := zeroT') (by simp)) rfl (by decide) (tvL_one _ _) ?_
          intro w85 hk9 ho9
          have HB9 := HB.out.put (g := g8) (cs := zeroT') (ks' := [(g8, tvL a7 (didW t d)), (g6, tvL a t)]) (by simp) ho9 hk9 (tvL_noB _ _) (fun x hx => by have := HN8.out; simp at hx ⊢; rcases hx with rfl | rfl; exact .inl rfl; exact .inr ⟨.inr rfl, by simp; omega⟩)
          replace HB : Kp _ := ⟨HB9⟩
          clear hk9 ho9 HB9
          refine hK _ _ ?_
          clear hK K
          try simp only [Act.put]
          refine wpAny_take (i := 12) (oi := ⟨some 9, _, _, _, _, _⟩) (v := ?_) rfl (by kernel_rfl) (by kernel_rfl) (by kernel_rfl) (fun _ _ _ h => h) (Or.inl ⟨by rfl, by intro w; go_simp; try rfl⟩) ?_
          try simp only [Act.put, List.setIfInBounds_toArray, List.set_cons_zero, List.set_cons_succ]
          refine wpAny_take (i := 13) (oi := ⟨some 10, _, _, _, _, _⟩) (v := ?_) rfl (by kernel_rfl) (by kernel_rfl) (by kernel_rfl) (fun _ _ _ h => h) (Or.inl ⟨by rfl, by intro w; go_simp; try rfl⟩) ?_
          try simp only [Act.put, List.setIfInBounds_toArray, List.set_cons_zero, List.set_cons_succ]
          refine wpAny_done (by kernel_rfl) ?_ _
          have HK8 : Kp _ := ⟨HB.out.at (g := g8) (cs := tvL a7 (didW t d)) (by simp)⟩
          have HK6 : Kp _ := ⟨HB.out.at (g := g6) (cs := tvL a t) (by simp)⟩
          have HL7 : Kp _ := ⟨tvL_length a7 (didW t d)⟩
          have HL6 : Kp _ := ⟨tvL_length a t⟩
          have HO7 : Kp _ := ⟨tvL_one a7 (didW t d)⟩
          go_wp2_with (first | (with_reducible refine wpList_loadAll (o := ⟨some 52, _, _, _, _, _⟩) rwT rfl (.tmp 8) rfl rfl HK8.out HL7.out ?_) | (with_reducible refine wpList_storeAll (o := ⟨none, _, _, _, _, _⟩) (vs := tvL a7 (didW t d)) rwT rfl (.tmp 6) (.tmp 52) rfl rfl HK6.out HL6.out HL7.out HO7.out rfl ?_))
          intro wE hkE hoE
          have HF : Kp (∃ a t, a.ln ≤ i + 1 ∧ Bk w00 wE (i + 1) [(b, t)] [] [(a, t)] [(g6, tvL a t)]) := ⟨a7, didW t d, by have := HA7.out; have := HAl.out; omega, (HB.out.put (g := g6) (cs := tvL a t) (ks' := [(g6, tvL a7 (didW t d))]) (by simp) hoE hkE (tvL_noB _ _) (fun x hx => .inl (by simpa using hx))).drop (fun x hx => by cases hx) (fun x hx => by simp at hx; simp [hx])⟩
          clear hkE hoE HK8 HK6 HL7 HL6 HO7 HB
          go_wp2
          go_roundg g2
          case measure => omega
          case rel => exact ⟨i + 1, by omega, by go_num, HF⟩
        · obtain ⟨q0, q1, q2, q3, q4⟩ := HQ.out.at_ w82 HB.out.below
          go_simp
          refine hK _ _ ?_
          clear hK K q0 q1 q2 q3 q4
          try simp only [Act.put, List.setIfInBounds_toArray, List.set_cons_zero, List.set_cons_succ]
          refine wpAny_ready (rs := [0]) (by kernel_rfl) (by simp) ?_
          refine AllReady.cons (o := ⟨some 43, _, _, _, _, _⟩) rfl (fun K hK => ?_) AllReady.nil
          refine step_load rwT rfl (.tmp 6) rfl rfl (HB.out.at (g := g6) (cs := tvL a t) (by simp)) (Nat.le_refl _) (vs := tvL a t) rfl ?_
          refine hK _ _ ?_
          clear hK K
          try simp only [Act.put, List.setIfInBounds_toArray, List.set_cons_zero, List.set_cons_succ]
          refine wpAny_ready (rs := [5]) (by kernel_rfl) (by simp) ?_
          refine AllReady.cons (o := ⟨some 48, _, _, _, _, _⟩) rfl (fun K hK => ?_) AllReady.nil
          go_simp
          refine (kstep_any HB.out ⟨by have := HT6.out.1; omega, by have := HT6.out.2; omega⟩ (by have := HAl.out; omega) d HDk.out.1 A' n' c' (by simp)).mono ?_
          rintro e w87 ⟨a7, A7, n7, c7, rfl, hl7, S7⟩
          replace HB : Kp _ := ⟨S7⟩
          have HA7 : Kp (a7.ln ≤ a.ln + 1) := ⟨hl7⟩
          clear hl7 S7
          refine hK _ _ ?_
          clear hK K
          try simp only [Act.put, List.setIfInBounds_toArray, List.set_cons_zero, List.set_cons_succ]
          refine wpAny_take (i := 6) (oi := ⟨some 42, _, _, _, _, _⟩) (v := ?_) rfl (by kernel_rfl) (by kernel_rfl) (by kernel_rfl) (fun _ _ _ h => h) (Or.inl ⟨by rfl, by intro w; go_simp; try rfl⟩) ?_
          try simp only [Act.put, List.setIfInBounds_toArray, List.set_cons_zero, List.set_cons_succ]
          refine wpAny_take (i := 7) (oi := ⟨some 49, _, _, _, _, _⟩) (v := ?_) rfl (by kernel_rfl) (by kernel_rfl) (by kernel_rfl) (fun _ _ _ h => h) (Or.inl ⟨by rfl, by intro w; go_simp; try rfl⟩) ?_
          try simp only [Act.put, List.setIfInBounds_toArray, List.set_cons_zero, List.set_cons_succ]
          refine wpAny_take (i := 8) (oi := ⟨some 50, _, _, _, _, _⟩) (v := ?_) rfl (by kernel_rfl) (by kernel_rfl) (by kernel_rfl) (fun _ _ _ h => h) (Or.inl ⟨by rfl, by intro w; go_simp; try rfl⟩) ?_
          try simp only [Act.put, List.setIfInBounds_toArray, List.set_cons_zero, List.set_cons_succ]
          refine wpAny_take (i := 9) (oi := ⟨some 51, _, _, _, _, _⟩) (v := ?_) rfl (by kernel_rfl) (by kernel_rfl) (by kernel_rfl) (fun _ _ _ h => h) (Or.inl ⟨by rfl, by intro w; go_simp; try rfl⟩) ?_
          try simp only [Act.put, List.setIfInBounds_toArray, List.set_cons_zero, List.set_cons_succ]
          refine wpAny_ready (rs := [11]) (by kernel_rfl) (by simp) ?_
          refine AllReady.cons (o := ⟨none, _, _, _, _, _⟩) rfl (fun K hK => ?_) AllReady.nil
          refine step_store (vs := tvL a7 (didW t d)) rwT rfl (.tmp 8) (.tmp 49) rfl rfl rfl (HB.out.at (g := g8) (cs := zeroT') (by simp)) rfl (by decide) (tvL_one _ _) ?_
          intro w88 hk9 ho9
          have HB9 := HB.out.put (g := g8) (cs := zeroT') (ks' := [(g8, tvL a7 (didW t d)), (g6, tvL a t)]) (by simp) ho9 hk9 (tvL_noB _ _) (fun x hx => by have := HN8.out; simp at hx ⊢; rcases hx with rfl | rfl; exact .inl rfl; exact .inr ⟨.inr rfl, by simp; omega⟩)
          replace HB : Kp _ := ⟨HB9⟩
          clear hk9 ho9 HB9
          refine hK _ _ ?_
          clear hK K
          try simp only [Act.put]
          refine wpAny_take (i := 12) (oi := ⟨some 9, _, _, _, _, _⟩) (v := ?_) rfl (by kernel_rfl) (by kernel_rfl) (by kernel_rfl) (fun _ _ _ h => h) (Or.inl ⟨by rfl, by intro w; go_simp; try rfl⟩) ?_
          try simp only [Act.put, List.setIfInBounds_toArray, List.set_cons_zero, List.set_cons_succ]
          refine wpAny_take (i := 13) (oi := ⟨some 10, _, _, _, _, _⟩) (v := ?_) rfl (by kernel_rfl) (by kernel_rfl) (by kernel_rfl) (fun _ _ _ h => h) (Or.inl ⟨by rfl, by intro w; go_simp; try rfl⟩) ?_
          try simp only [Act.put, List.setIfInBounds_toArray, List.set_cons_zero, List.set_cons_succ]
          refine wpAny_done (by kernel_rfl) ?_ _
          have HK8 : Kp _ := ⟨HB.out.at (g := g8) (cs := tvL a7 (didW t d)) (by simp)⟩
          have HK6 : Kp _ := ⟨HB.out.at (g := g6) (cs := tvL a t) (by simp)⟩
          have HL7 : Kp _ := ⟨tvL_length a7 (didW t d)⟩
          have HL6 : Kp _ := ⟨tvL_length a t⟩
          have HO7 : Kp _ := ⟨tvL_one a7 (didW t d)⟩
          go_wp2_with (first | (with_reducible refine wpList_loadAll (o := ⟨some 52, _, _, _, _, _⟩) rwT rfl (.tmp 8) rfl rfl HK8.out HL7.out ?_) | (with_reducible refine wpList_storeAll (o := ⟨none, _, _, _, _, _⟩) (vs := tvL a7 (didW t d)) rwT rfl (.tmp 6) (.tmp 52) rfl rfl HK6.out HL6.out HL7.out HO7.out rfl ?_))
          intro wE hkE hoE
          have HF : Kp (∃ a t, a.ln ≤ i + 1 ∧ Bk w00 wE (i + 1) [(b, t)] [] [(a, t)] [(g6, tvL a t)]) := ⟨a7, didW t d, by have := HA7.out; have := HAl.out; omega, (HB.out.put (g := g6) (cs := tvL a t) (ks' := [(g6, tvL a7 (didW t d))]) (by simp) hoE hkE (tvL_noB _ _) (fun x hx => .inl (by simpa using hx))).drop (fun x hx => by cases hx) (fun x hx => by simp at hx; simp [hx])⟩
          clear hkE hoE HK8 HK6 HL7 HL6 HO7 HB
          go_wp2
          go_roundg g2
          case measure => omega
          case rel => exact ⟨i + 1, by omega, by go_num, HF⟩
set_option maxHeartbeats 1000000 in
theorem law_worldCopies (A : Option Addr) (m c : Nat) (ds : List Dd) (B : Option Addr) (m2 c2 : Nat) (es : List Dd) (w : World) (hD : Dos w w.heap.size A m c ds ∧ ∀ x ∈ ds, x.bs.length ≤ 140737488351232) (hE : Dos w w.heap.size B m2 c2 es ∧ ∀ x ∈ es, x.bs.length ≤ 140737488351232) :
    Calls Try.prog 5 #[.slice A m c, .slice B m2 c2] w fun e w' => e = .returned (.bool true) ∧ Below w.heap.size w w' := by
  cases hsm : dsmall ds
  · have HD : Kp _ := ⟨hD⟩
    clear hD hE
    go_enter Try.func5, Try.ntmps5
    go_wp2_with fail
    refine (small_any A m c ds w _ HD.out.1 HD.out.2).mono ?_
    rintro e w0 ⟨rfl, rfl⟩
    rw [hsm]
    go_wp2_with fail
    refine (known6_any _).mono ?_
    rintro e w1 ⟨rfl, hB1⟩
    go_wp2
    go_ret
    exact ⟨rfl, hB1⟩
  · cases hsm2 : dsmall es
    · have HD : Kp _ := ⟨hD⟩
      have HE : Kp _ := ⟨hE⟩
      clear hD hE
      go_enter Try.func5, Try.ntmps5
      go_wp2_with fail
      refine (small_any A m c ds w _ HD.out.1 HD.out.2).mono ?_
      rintro e w0 ⟨rfl, rfl⟩
      rw [hsm]
      go_wp2_with fail
      refine (small_any B m2 c2 es w0 _ HE.out.1 HE.out.2).mono ?_
      rintro e w00 ⟨rfl, rfl⟩
      rw [hsm2]
      go_wp2_with fail
      refine (known6_any _).mono ?_
      rintro e w1 ⟨rfl, hB1⟩
      go_wp2
      go_ret
      exact ⟨rfl, hB1⟩
    · exact wcopies A B m c m2 c2 ds es w hD.1 hE.1 hsm hsm2 hD.2 hE.2
end Go.Proofs.Ytpbpegoobgfjcaa
