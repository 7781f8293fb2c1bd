/- The contract of the document's Read of a world.
   The contract of the document's Pad. -/
import Derived.Test.YtpbpegoobgfjcaaG11
import Derived.Deep.RegionHeld3
import Derived.Test.YtpbpegoobgfjcaaG05
import Derived.Test.YtpbpegoobgfjcaaG02
namespace Go.Proofs.Ytpbpegoobgfjcaa
open Go.RowKit

section
variable {M : Nat → Prop} {w : World} {a : Ta} {t : Wd}
set_option maxRecDepth 100000 in
set_option maxHeartbeats 4000000 in
theorem rread_any (h : TvM w M a t) (hM : ∀ k, M k → k < w.heap.size) (hlen : t.tr.length ≤ 1000000) (hrd : t.reads ≤ 1000000) (x y : Int) (hx : (Lit.int .i64 x).wf = true) (hy : (Lit.int .i64 y).wf = true) :
    Calls Try.prog 44 #[.agg (tvL a t).toArray, .int .i64 x, .int .i64 y] w fun e w' => ∃ a' A n c, e = .returned (.tuple #[.agg (tvL a' (readW t (x, y))).toArray, .slice A n c]) ∧ Below w.heap.size w w' ∧ a'.ln = a.ln ∧ TvM w' M a' (readW t (x, y)) ∧ BsM w' M A n c (readL t (x, y)) := by
  have HZ : Kp (zeroT'.length = 10) := ⟨rfl⟩
  have HL10 : Kp _ := ⟨tvL_length a t⟩
  have HO10 : Kp _ := ⟨tvL_one a t⟩
  have HT : Kp _ := ⟨h⟩
  have HM : Kp _ := ⟨hM⟩
  have HLe : Kp (t.tr.length ≤ 1000000 ∧ t.reads ≤ 1000000) := ⟨⟨hlen, hrd⟩⟩
  clear hlen hrd hM
  by_cases hth : thereW t (x, y) = true
  · have HW : Kp (readW t (x, y) = tellW t 1 x y (t.sl (x, y))) := ⟨by unfold readW; rw [if_pos hth]⟩
    have HLd : Kp (readL t (x, y) = toldL t (t.sl (x, y))) := ⟨by unfold readL; rw [if_pos hth]⟩
    have h9 := hth
    unfold thereW inR at h9
    simp only [Bool.and_eq_true, Bool.not_eq_true', decide_eq_true_eq] at h9
    obtain ⟨hx0, hx1, hy0, hy1⟩ : 0 ≤ x ∧ x < (t.n : Int) ∧ 0 ≤ y ∧ y < 2 := by omega
    obtain ⟨i, rfl⟩ : ∃ k : Nat, x = k := ⟨x.toNat, by omega⟩
    obtain ⟨s, rfl⟩ : ∃ k : Nat, y = k := ⟨y.toNat, by omega⟩
    obtain ⟨vs, hse⟩ := h.slots
    obtain ⟨v3, hv3, ⟨A3, n3, c3, rfl, hb3⟩, _⟩ := hse.each i (by omega) s (by omega)
    obtain ⟨l0, hl0⟩ : ∃ l, l = t.sl ((i : Int), (s : Int)) := ⟨_, rfl⟩
    rw [← hl0] at hb3
    have hbig := h.big
    have hsn := hse.num
    obtain ⟨bs, os, hA, hbs, _, hcs⟩ := hse.row.cells (by omega)
    have hcv := hcs _ _ hv3
    obtain ⟨k2, hk2⟩ : ∃ k, k = 2 * i := ⟨_, rfl⟩
    obtain ⟨k, hk⟩ : ∃ k, k = k2 + s := ⟨_, rfl⟩
    rw [← hk2, ← hk] at hcv
    have hw1 : IntKind.i64.wrap (2 * (i : Int)) = (k2 : Int) := by rw [IntKind.wrap_i64]; omega
    have hw2 : IntKind.i64.wrap ((k2 : Int) + (s : Int)) = (k : Int) := by rw [IntKind.wrap_i64]; omega
    have hkn : (k : Int) < (a.sn : Int) := by omega
    have HBt : Kp _ := ⟨hb3⟩
    have HCv : Kp (∀ W, Below w.heap.size w W → W.cell? ⟨bs, os + k, none⟩ = some (.slice A3 n3 c3)) := ⟨fun W hW => (hW.cell (p := ⟨bs, os + k, none⟩) hbs).trans hcv⟩
    have HA : Kp (a.sA = some ⟨bs, os, none⟩) := ⟨hA⟩
    have HHl : Kp _ := ⟨hl0⟩
    rw [← hl0] at HW HLd
    have HOk : Kp (TrOk ⟨1, (i : Int), (s : Int), toldL t l0⟩) := ⟨⟨.inl rfl, hx, hy⟩⟩
    have HTh : Kp _ := ⟨hth⟩
    clear hcs hcv hse hv3 hb3 hA hth h hx hy hl0 hx0 hx1 hy0 hy1 h9 hk2 hk hbig hsn
    go_enter Try.func44, Try.ntmps44
    go_wp2_with (with_reducible refine wpList_box (o := ⟨some 3, _, _, _, _, _⟩) (cs := tvL a t) rfl (.tmp 0) rfl rfl ?_)
    intro w1 hk1 hb1 hs1
    have HK1 : Kp _ := ⟨hk1⟩
    clear hk1 hs1
    go_wp2_with (with_reducible refine wpList_alloc (o := ⟨some 6, _, _, _, _, _⟩) tyT rfl rfl ?_)
    intro w1' hk2' hb2 hs2
    have HK2' : Kp _ := ⟨HK1.out.below hb2 HK1.out.lt⟩
    have HR2' : Kp _ := ⟨hk2'⟩
    have hB2' : Below w.heap.size w w1' := hb1.trans (hb2.mono hb1.size)
    have hw12' : w1.heap.size < w1'.heap.size := hk2'.lt
    have h4' := HK1.out.lt
    clear hk2' hb2 hs2 HK1 hb1
    go_wp2_with (with_reducible refine wpList_loadAll (o := ⟨some 10, _, _, _, _, _⟩) rwT rfl (.tmp 3) rfl rfl HK2'.out HL10.out ?_)
    refine (there_any w1' a t (i : Int) (s : Int)).mono ?_
    rw [HTh.out]
    rintro e w2 ⟨rfl, hb22⟩
    have HK2 : Kp _ := ⟨HK2'.out.below hb22 HK2'.out.lt⟩
    have HR2 : Kp _ := ⟨HR2'.out.below hb22 HR2'.out.lt⟩
    have hB2 := hB2'.trans (hb22.mono hB2'.size)
    have e2 : w2.cell? ⟨w.heap.size, 1, none⟩ = some (.slice a.sA a.sn a.sc) := HK2.out.cell? 1
    rw [HA.out] at e2
    have q1 : ∀ W, Below w2.heap.size w2 W → W.cell? ⟨w.heap.size, 1, none⟩ = some (.slice (some ⟨bs, os, none⟩) a.sn a.sc) := fun W hW => (hW.cell (p := ⟨w.heap.size, 1, none⟩) HK2.out.lt).trans e2
    have q2 : ∀ W, Below w2.heap.size w2 W → W.cell? ⟨bs, os + k, none⟩ = some (.slice A3 n3 c3) := fun W hW => HCv.out W (hB2.trans (hW.mono hB2.size))
    have HTl : Kp (∀ W, Below w2.heap.size w2 W → TvM W (fun k => M k ∨ w.heap.size ≤ k ∧ k < W.heap.size) a t) := ⟨fun W hW => HT.out.chg (Chg.of_below (fun _ => False) (hB2.trans (hW.mono hB2.size))) (fun _ h => h.elim) (fun k hk => hk.imp id (fun h => h.1))⟩
    have HBl : Kp (∀ W, Below w2.heap.size w2 W → BsM W (fun k => M k ∨ w.heap.size ≤ k ∧ k < W.heap.size) A3 n3 c3 l0) := ⟨fun W hW => HBt.out.chg (Chg.of_below (fun _ => False) (hB2.trans (hW.mono hB2.size))) (fun _ h => h.elim) (fun k hk => hk.imp id (fun h => h.1))⟩
    have HMl : Kp (∀ W, Below w2.heap.size w2 W → ∀ k, (M k ∨ w.heap.size ≤ k ∧ k < W.heap.size) → k < W.heap.size) := ⟨fun W hW k hk => hk.elim (fun h9 => Nat.lt_of_lt_of_le (HM.out k h9) (Nat.le_trans hB2.size hW.size)) (fun h9 => h9.2)⟩
    have hw12 : w1.heap.size < w2.heap.size := HR2.out.lt
    obtain ⟨g4, hg4⟩ : ∃ g, g = w1.heap.size := ⟨_, rfl⟩
    rw [← hg4] at HR2 hw12 h4' ⊢
    have h4 : w.heap.size < g4 := h4'
    clear HCv HBt hg4 e2 HK2' HR2' hB2' hb22 hw12' h4' HTh
    go_wp2_with fail
    refine wp_region_held_drew (S := fun W => Below w2.heap.size w2 W) (by kernel_rfl) ((Below.refl _ _).drew) (fun hHeld => ?_)
    generalize w2.drew = wS at *
    refine wpAnyH_take (i := 0) (oi := ⟨some 17, _, _, _, _, _⟩) (v := _) rfl (by kernel_rfl) (by kernel_rfl) (by kernel_rfl) (fun _ _ _ h => h) (yieldsIf_load_mid (by rfl) 42 (.tmp 3) rfl w.heap.size 0 rfl (tvL a t) _ (fun W hW => (HK2.out.below hW HK2.out.lt).allC) rwT.ty rwT.row (by rw [rwT.size, HL10.out])) (by assumption) ?_
    try simp only [Act.put, List.setIfInBounds_toArray, List.set_cons_zero, List.set_cons_succ]
    refine wpAnyH_take (i := 1) (oi := ⟨some 18, _, _, _, _, _⟩) (v := ?_) rfl (by kernel_rfl) (by kernel_rfl) (by kernel_rfl) (fun _ _ _ h => h) (Or.inl ⟨by rfl, by intro w hSw; go_simp; try rfl⟩) (by assumption) ?_
    try simp only [Act.put, List.setIfInBounds_toArray, List.set_cons_zero, List.set_cons_succ]
    refine wpAnyH_take (i := 2) (oi := ⟨some 19, _, _, _, _, _⟩) (v := ?_) rfl (by kernel_rfl) (by kernel_rfl) (by kernel_rfl) (fun _ _ _ h => h) (Or.inl ⟨by rfl, by intro w hSw; go_simp; try rfl⟩) (by assumption) ?_
    try simp only [Act.put, List.setIfInBounds_toArray, List.set_cons_zero, List.set_cons_succ]
    refine wpAnyH_take (i := 3) (oi := ⟨some 20, _, _, _, _, _⟩) (v := ?_) rfl (by kernel_rfl) (by kernel_rfl) (by kernel_rfl) (fun _ _ _ h => h) (Or.inl ⟨by rfl, by intro w hSw; go_simp; try rfl⟩) (by assumption) ?_
    try simp only [Act.put, List.setIfInBounds_toArray, List.set_cons_zero, List.set_cons_succ]
    refine wpAnyH_take (i := 4) (oi := ⟨some 21, _, _, _, _, _⟩) (v := ?_) rfl (by kernel_rfl) (by kernel_rfl) (by kernel_rfl) (fun _ _ _ h => h) (Or.inl ⟨by rfl, by intro w hSw; go_simp; try rfl⟩) (by assumption) ?_
    try simp only [Act.put, List.setIfInBounds_toArray, List.set_cons_zero, List.set_cons_succ]
    refine wpAnyH_take (i := 5) (oi := ⟨some 22, _, _, _, _, _⟩) (v := ?_) rfl (by kernel_rfl) (by kernel_rfl) (by kernel_rfl) (fun _ _ _ h => h) (Or.inl ⟨by rfl, by intro w hSw; go_simp; try rfl⟩) (by assumption) ?_
    try simp only [Act.put, List.setIfInBounds_toArray, List.set_cons_zero, List.set_cons_succ]
    refine wpAnyH_take (i := 6) (oi := ⟨some 23, _, _, _, _, _⟩) (v := ?_) rfl (by kernel_rfl) (by kernel_rfl) (by kernel_rfl) (fun _ _ _ h => h) (Or.inl ⟨by rfl, by intro w hSw; go_simp; try rfl⟩) (by assumption) ?_
    try simp only [Act.put, List.setIfInBounds_toArray, List.set_cons_zero, List.set_cons_succ]
    refine wpAnyH_take (i := 7) (oi := ⟨some 24, _, _, _, _, _⟩) (v := ?_) rfl (by kernel_rfl) (by kernel_rfl) (by kernel_rfl) (fun _ _ _ h => h) (Or.inl ⟨by rfl, by intro w hSw; go_simp; try rfl⟩) (by assumption) ?_
    try simp only [Act.put, List.setIfInBounds_toArray, List.set_cons_zero, List.set_cons_succ]
    refine wpAnyH_take (i := 8) (oi := ⟨some 25, _, _, _, _, _⟩) (v := ?_) rfl (by kernel_rfl) (by kernel_rfl) (by kernel_rfl) (fun _ _ _ h => h) (Or.inl ⟨by rfl, by intro w hSw; go_simp; try rfl⟩) (by assumption) ?_
    try simp only [Act.put, List.setIfInBounds_toArray, List.set_cons_zero, List.set_cons_succ]
    refine wpAnyH_ready (rs := [9, 13]) (by kernel_rfl) (by simp) ?_
    refine AllReadyH.cons (o := ⟨some 26, _, _, _, _, _⟩) rfl (fun K hK => ?_) (AllReadyH.cons (o := ⟨some 8, _, _, _, _, _⟩) rfl (fun K hK => ?_) AllReadyH.nil)
    · have hWs := hHeld.size
      go_simp
      refine (rtold_any (HTl.out wS hHeld) HLe.out.2 A3 n3 c3 l0 (HBl.out _ hHeld)).mono ?_
      rintro e w51 ⟨A5, n5, c5, rfl, hb', ht5, hx5⟩
      have HT5 : Kp (TB w51 (fun k => M k ∨ w.heap.size ≤ k ∧ k < wS.heap.size) a (toldT t) A5 n5 c5 (toldL t l0)) := ⟨⟨_, fun _ h => h, fun k hk => Nat.lt_of_lt_of_le (HMl.out wS hHeld k hk) hb'.size, ht5, hx5⟩⟩
      first | (have HT5 : Kp (TB w51 (fun k => (M k ∨ k = g4) ∨ k = g6) a (toldT t) A5 n5 c5 (toldL t l0)) := ⟨by obtain ⟨M5, z1, z2, z3, z4⟩ := HT5.out.ex; exact ⟨M5, fun k hk => z1 k (hk.elim (fun h => h.imp id (fun h9 => by omega)) (fun h9 => .inr (by omega))), z2, z3, z4⟩⟩) | (replace HT5 : Kp (TB w51 (fun k => M k ∨ k = g4) a (toldT t) A5 n5 c5 (toldL t l0)) := ⟨by obtain ⟨M5, z1, z2, z3, z4⟩ := HT5.out.ex; exact ⟨M5, fun k hk => z1 k (hk.imp id (fun h9 => by omega)), z2, z3, z4⟩⟩)
      try replace HU : Kp _ := ⟨HU.out.below hb' HU.out.lt⟩
      refine hK.out _ _ (hHeld.trans (hb'.mono hHeld.size)) (fun hHeld2 => ?_)
      clear hb' ht5 hx5 hWs
      clear hK K hHeld
      have hHeld := hHeld2
      clear hHeld2
      try simp only [Act.put, List.setIfInBounds_toArray, List.set_cons_zero, List.set_cons_succ]
      refine wpAnyH_take (i := 10) (oi := ⟨some 16, _, _, _, _, _⟩) (v := ?_) rfl (by kernel_rfl) (by kernel_rfl) (by kernel_rfl) (fun _ _ _ h => h) (Or.inl ⟨by rfl, by intro w hSw; go_simp; try rfl⟩) (by assumption) ?_
      try simp only [Act.put, List.setIfInBounds_toArray, List.set_cons_zero, List.set_cons_succ]
      refine wpAnyH_take (i := 11) (oi := ⟨some 27, _, _, _, _, _⟩) (v := ?_) rfl (by kernel_rfl) (by kernel_rfl) (by kernel_rfl) (fun _ _ _ h => h) (Or.inl ⟨by rfl, by intro w hSw; go_simp; try rfl⟩) (by assumption) ?_
      try simp only [Act.put, List.setIfInBounds_toArray, List.set_cons_zero, List.set_cons_succ]
      refine wpAnyH_take (i := 12) (oi := ⟨some 28, _, _, _, _, _⟩) (v := ?_) rfl (by kernel_rfl) (by kernel_rfl) (by kernel_rfl) (fun _ _ _ h => h) (Or.inl ⟨by rfl, by intro w hSw; go_simp; try rfl⟩) (by assumption) ?_
      try simp only [Act.put, List.setIfInBounds_toArray, List.set_cons_zero, List.set_cons_succ]
      refine wpAnyH_ready (rs := [13]) (by kernel_rfl) (by simp) ?_
      refine AllReadyH.cons (o := ⟨some 8, _, _, _, _, _⟩) rfl (fun K hK => ?_) AllReadyH.nil
      refine step_alloc tyT rfl rfl ?_
      intro w52 hk4 hb'
      have hgl := hk4.lt
      have hge := hHeld.size
      try replace HT5 : Kp (TB w52 (fun k => (M k ∨ k = g4) ∨ k = w51.heap.size) a (toldT t) A5 n5 c5 (toldL t l0)) := ⟨HT5.out.add hb' (Nat.le_refl _) hgl⟩
      have HU : Kp _ := ⟨hk4⟩
      obtain ⟨g6, hg6⟩ : ∃ g, g = w51.heap.size := ⟨_, rfl⟩
      rw [← hg6] at HU hge hgl ⊢
      try rw [← hg6] at HT5
      refine hK.out _ _ (hHeld.trans (hb'.mono hHeld.size)) (fun hHeld2 => ?_)
      clear hk4 hb' hg6
      clear hK K hHeld
      have hHeld := hHeld2
      clear hHeld2
      try simp only [Act.put, List.setIfInBounds_toArray, List.set_cons_zero, List.set_cons_succ]
      refine wpAnyH_ready (rs := [14]) (by kernel_rfl) (by simp) ?_
      refine AllReadyH.cons (o := ⟨none, _, _, _, _, _⟩) rfl (fun K hK => ?_) AllReadyH.nil
      have HLu : Kp _ := ⟨tvL_length a (toldT t)⟩
      refine step_store rwT rfl (.tmp 8) (.tmp 27) rfl rfl rfl HU.out HLu.out (by rw [HZ.out]; decide) (tvL_one _ _) ?_
      intro w53 hk ho
      have HV : Kp (Blk w53 g6 42 (tvL a (toldT t))) := ⟨by have h := hk; rwa [List.drop_of_length_le (by rw [HZ.out]; decide), List.take_zero, List.nil_append, List.append_nil] at h⟩
      replace HT5 : Kp _ := ⟨HT5.out.only ho (.inr rfl)⟩
      refine hK.out _ _ (hHeld.trans (ho.below hge)) (fun hHeld2 => ?_)
      clear hk ho HU
      clear hK K hHeld
      have hHeld := hHeld2
      clear hHeld2
      try simp only [Act.put]
      refine wpAnyH_take (i := 15) (oi := ⟨some 9, _, _, _, _, _⟩) (v := ?_) rfl (by kernel_rfl) (by kernel_rfl) (by kernel_rfl) (fun _ _ _ h => h) (Or.inl ⟨by rfl, by intro w hSw; go_simp; try rfl⟩) (by assumption) ?_
      try simp only [Act.put, List.setIfInBounds_toArray, List.set_cons_zero, List.set_cons_succ]
      refine wpAnyH_done (by kernel_rfl) ?_ _
      have HR5 : Kp _ := ⟨HR2.out.below hHeld HR2.out.lt⟩
      have hB5 := hB2.trans (hHeld.mono hB2.size)
      clear hHeld HR2 HK2 HTl HBl HMl q1 q2
      generalize w53 = w5 at *
      obtain ⟨M5, z1, z2, z3, z4⟩ := HT5.out.ex
      have HT6 : Kp _ := ⟨z3⟩
      have HX6 : Kp _ := ⟨z4⟩
      have HM5 : Kp ((∀ k, ((M k ∨ k = g4) ∨ k = g6) → M5 k) ∧ ∀ k, M5 k → k < w5.heap.size) := ⟨⟨z1, z2⟩⟩
      have HLu : Kp _ := ⟨tvL_length a (toldT t)⟩
      have HTr : Kp ((toldT t).tr.length ≤ 1000000) := ⟨HLe.out.1⟩
      clear z1 z2 z3 z4 HT5
      go_wp2_with (with_reducible refine wpList_loadAll (o := ⟨some 29, _, _, _, _, _⟩) rwT rfl (.tmp 8) rfl rfl HV.out HLu.out ?_)
      refine (rnote_any HT6.out HM5.out.2 HTr.out ⟨1, (i : Int), (s : Int), toldL t l0⟩ HOk.out A5 n5 c5 HX6.out).mono ?_
      rintro e w6 ⟨a6, rfl, hb6, hn6, ht6⟩
      have HN6 : Kp (a6.ln = a.ln) := ⟨hn6⟩
      clear hn6
      have HR6 : Kp _ := ⟨HR5.out.below hb6 HR5.out.lt⟩
      have HX7 : Kp _ := ⟨HX6.out.below hb6⟩
      have hB6 := hB5.trans (hb6.mono hB5.size)
      have ht7 : TvM w6 M5 a6 (tellW t 1 (i : Int) (s : Int) l0) := ht6
      have HT7 : Kp _ := ⟨ht7⟩
      have HLv : Kp _ := ⟨tvL_length a6 (tellW t 1 (i : Int) (s : Int) l0)⟩
      have HOv : Kp _ := ⟨tvL_one a6 (tellW t 1 (i : Int) (s : Int) l0)⟩
      rw [tell_is]
      clear hb6 ht6 ht7 HR5 HX6 HT6 HV HLu hB5
      go_wp2_with (with_reducible refine wpList_storeAll (o := ⟨none, _, _, _, _, _⟩) (vs := tvL a6 (tellW t 1 (i : Int) (s : Int) l0)) rwT rfl (.tmp 6) (.tmp 33) rfl rfl HR6.out HZ.out HLv.out HOv.out rfl ?_)
      intro w7 hk7 ho7
      have HK7 : Kp _ := ⟨hk7⟩
      have hB7 := hB6.trans (ho7.below (Nat.le_of_lt h4))
      have hM4 : ∀ k, k = g4 → M5 k := fun k hk => HM5.out.1 k (.inl (.inr hk))
      have hMM : ∀ k, M k → M5 k ∨ w6.heap.size ≤ k := fun k hk => .inl (HM5.out.1 k (.inl (.inl hk)))
      have HT8 : Kp (TvM w7 M a6 (tellW t 1 (i : Int) (s : Int) l0)) := ⟨HT7.out.chg (Chg.of_only (S := fun k => k = g4) ho7 rfl) hM4 hMM⟩
      have HX8 : Kp (BsM w7 M A5 n5 c5 (toldL t l0)) := ⟨HX7.out.chg (Chg.of_only (S := fun k => k = g4) ho7 rfl) hM4 hMM⟩
      clear hk7 hM4 hMM HT7 HX7 HM5 ho7
      go_wp2
      refine ret_arrB rfl rwT rfl rfl HK7.out (tvL_length _ _) rfl ?_
      rw [HW.out, HLd.out]
      exact ⟨a6, A5, n5, c5, rfl, hB7, HN6.out, HT8.out, HX8.out⟩
    · refine step_alloc tyT rfl rfl ?_
      intro w54 hk4 hb'
      have hgl := hk4.lt
      have hge := hHeld.size
      try replace HT5 : Kp (TB w54 (fun k => (M k ∨ k = g4) ∨ k = wS.heap.size) a (toldT t) A5 n5 c5 (toldL t l0)) := ⟨HT5.out.add hb' (Nat.le_refl _) hgl⟩
      have HU : Kp _ := ⟨hk4⟩
      obtain ⟨g6, hg6⟩ : ∃ g, g = wS.heap.size := ⟨_, rfl⟩
      rw [← hg6] at HU hge hgl ⊢
      try rw [← hg6] at HT5
      refine hK.out _ _ (hHeld.trans (hb'.mono hHeld.size)) (fun hHeld2 => ?_)
      clear hk4 hb' hg6
      clear hK K hHeld
      have hHeld := hHeld2
      clear hHeld2
      try simp only [Act.put, List.setIfInBounds_toArray, List.set_cons_zero, List.set_cons_succ]
      refine wpAnyH_ready (rs := [9]) (by kernel_rfl) (by simp) ?_
      refine AllReadyH.cons (o := ⟨some 26, _, _, _, _, _⟩) rfl (fun K hK => ?_) AllReadyH.nil
      have hWs := hHeld.size
      go_simp
      refine (rtold_any (HTl.out w54 hHeld) HLe.out.2 A3 n3 c3 l0 (HBl.out _ hHeld)).mono ?_
      rintro e w55 ⟨A5, n5, c5, rfl, hb', ht5, hx5⟩
      have HT5 : Kp (TB w55 (fun k => M k ∨ w.heap.size ≤ k ∧ k < w54.heap.size) a (toldT t) A5 n5 c5 (toldL t l0)) := ⟨⟨_, fun _ h => h, fun k hk => Nat.lt_of_lt_of_le (HMl.out w54 hHeld k hk) hb'.size, ht5, hx5⟩⟩
      first | (have HT5 : Kp (TB w55 (fun k => (M k ∨ k = g4) ∨ k = g6) a (toldT t) A5 n5 c5 (toldL t l0)) := ⟨by obtain ⟨M5, z1, z2, z3, z4⟩ := HT5.out.ex; exact ⟨M5, fun k hk => z1 k (hk.elim (fun h => h.imp id (fun h9 => by omega)) (fun h9 => .inr (by omega))), z2, z3, z4⟩⟩) | (replace HT5 : Kp (TB w55 (fun k => M k ∨ k = g4) a (toldT t) A5 n5 c5 (toldL t l0)) := ⟨by obtain ⟨M5, z1, z2, z3, z4⟩ := HT5.out.ex; exact ⟨M5, fun k hk => z1 k (hk.imp id (fun h9 => by omega)), z2, z3, z4⟩⟩)
      try replace HU : Kp _ := ⟨HU.out.below hb' HU.out.lt⟩
      refine hK.out _ _ (hHeld.trans (hb'.mono hHeld.size)) (fun hHeld2 => ?_)
      clear hb' ht5 hx5 hWs
      clear hK K hHeld
      have hHeld := hHeld2
      clear hHeld2
      try simp only [Act.put, List.setIfInBounds_toArray, List.set_cons_zero, List.set_cons_succ]
      refine wpAnyH_take (i := 10) (oi := ⟨some 16, _, _, _, _, _⟩) (v := ?_) rfl (by kernel_rfl) (by kernel_rfl) (by kernel_rfl) (fun _ _ _ h => h) (Or.inl ⟨by rfl, by intro w hSw; go_simp; try rfl⟩) (by assumption) ?_
      try simp only [Act.put, List.setIfInBounds_toArray, List.set_cons_zero, List.set_cons_succ]
      refine wpAnyH_take (i := 11) (oi := ⟨some 27, _, _, _, _, _⟩) (v := ?_) rfl (by kernel_rfl) (by kernel_rfl) (by kernel_rfl) (fun _ _ _ h => h) (Or.inl ⟨by rfl, by intro w hSw; go_simp; try rfl⟩) (by assumption) ?_
      try simp only [Act.put, List.setIfInBounds_toArray, List.set_cons_zero, List.set_cons_succ]
      refine wpAnyH_take (i := 12) (oi := ⟨some 28, _, _, _, _, _⟩) (v := ?_) rfl (by kernel_rfl) (by kernel_rfl) (by kernel_rfl) (fun _ _ _ h => h) (Or.inl ⟨by rfl, by intro w hSw; go_simp; try rfl⟩) (by assumption) ?_
      try simp only [Act.put, List.setIfInBounds_toArray, List.set_cons_zero, List.set_cons_succ]
      refine wpAnyH_ready (rs := [14]) (by kernel_rfl) (by simp) ?_
      refine AllReadyH.cons (o := ⟨none, _, _, _, _, _⟩) rfl (fun K hK => ?_) AllReadyH.nil
      have HLu : Kp _ := ⟨tvL_length a (toldT t)⟩
      refine step_store rwT rfl (.tmp 8) (.tmp 27) rfl rfl rfl HU.out HLu.out (by rw [HZ.out]; decide) (tvL_one _ _) ?_
      intro w56 hk ho
      have HV : Kp (Blk w56 g6 42 (tvL a (toldT t))) := ⟨by have h := hk; rwa [List.drop_of_length_le (by rw [HZ.out]; decide), List.take_zero, List.nil_append, List.append_nil] at h⟩
      replace HT5 : Kp _ := ⟨HT5.out.only ho (.inr rfl)⟩
      refine hK.out _ _ (hHeld.trans (ho.below hge)) (fun hHeld2 => ?_)
      clear hk ho HU
      clear hK K hHeld
      have hHeld := hHeld2
      clear hHeld2
      try simp only [Act.put]
      refine wpAnyH_take (i := 15) (oi := ⟨some 9, _, _, _, _, _⟩) (v := ?_) rfl (by kernel_rfl) (by kernel_rfl) (by kernel_rfl) (fun _ _ _ h => h) (Or.inl ⟨by rfl, by intro w hSw; go_simp; try rfl⟩) (by assumption) ?_
      try simp only [Act.put, List.setIfInBounds_toArray, List.set_cons_zero, List.set_cons_succ]
      refine wpAnyH_done (by kernel_rfl) ?_ _
      have HR5 : Kp _ := ⟨HR2.out.below hHeld HR2.out.lt⟩
      have hB5 := hB2.trans (hHeld.mono hB2.size)
      clear hHeld HR2 HK2 HTl HBl HMl q1 q2
      generalize w56 = w5 at *
      obtain ⟨M5, z1, z2, z3, z4⟩ := HT5.out.ex
      have HT6 : Kp _ := ⟨z3⟩
      have HX6 : Kp _ := ⟨z4⟩
      have HM5 : Kp ((∀ k, ((M k ∨ k = g4) ∨ k = g6) → M5 k) ∧ ∀ k, M5 k → k < w5.heap.size) := ⟨⟨z1, z2⟩⟩
      have HLu : Kp _ := ⟨tvL_length a (toldT t)⟩
      have HTr : Kp ((toldT t).tr.length ≤ 1000000) := ⟨HLe.out.1⟩
      clear z1 z2 z3 z4 HT5
      go_wp2_with (with_reducible refine wpList_loadAll (o := ⟨some 29, _, _, _, _, _⟩) rwT rfl (.tmp 8) rfl rfl HV.out HLu.out ?_)
      refine (rnote_any HT6.out HM5.out.2 HTr.out ⟨1, (i : Int), (s : Int), toldL t l0⟩ HOk.out A5 n5 c5 HX6.out).mono ?_
      rintro e w6 ⟨a6, rfl, hb6, hn6, ht6⟩
      have HN6 : Kp (a6.ln = a.ln) := ⟨hn6⟩
      clear hn6
      have HR6 : Kp _ := ⟨HR5.out.below hb6 HR5.out.lt⟩
      have HX7 : Kp _ := ⟨HX6.out.below hb6⟩
      have hB6 := hB5.trans (hb6.mono hB5.size)
      have ht7 : TvM w6 M5 a6 (tellW t 1 (i : Int) (s : Int) l0) := ht6
      have HT7 : Kp _ := ⟨ht7⟩
      have HLv : Kp _ := ⟨tvL_length a6 (tellW t 1 (i : Int) (s : Int) l0)⟩
      have HOv : Kp _ := ⟨tvL_one a6 (tellW t 1 (i : Int) (s : Int) l0)⟩
      rw [tell_is]
      clear hb6 ht6 ht7 HR5 HX6 HT6 HV HLu hB5
      go_wp2_with (with_reducible refine wpList_storeAll (o := ⟨none, _, _, _, _, _⟩) (vs := tvL a6 (tellW t 1 (i : Int) (s : Int) l0)) rwT rfl (.tmp 6) (.tmp 33) rfl rfl HR6.out HZ.out HLv.out HOv.out rfl ?_)
      intro w7 hk7 ho7
      have HK7 : Kp _ := ⟨hk7⟩
      have hB7 := hB6.trans (ho7.below (Nat.le_of_lt h4))
      have hM4 : ∀ k, k = g4 → M5 k := fun k hk => HM5.out.1 k (.inl (.inr hk))
      have hMM : ∀ k, M k → M5 k ∨ w6.heap.size ≤ k := fun k hk => .inl (HM5.out.1 k (.inl (.inl hk)))
      have HT8 : Kp (TvM w7 M a6 (tellW t 1 (i : Int) (s : Int) l0)) := ⟨HT7.out.chg (Chg.of_only (S := fun k => k = g4) ho7 rfl) hM4 hMM⟩
      have HX8 : Kp (BsM w7 M A5 n5 c5 (toldL t l0)) := ⟨HX7.out.chg (Chg.of_only (S := fun k => k = g4) ho7 rfl) hM4 hMM⟩
      clear hk7 hM4 hMM HT7 HX7 HM5 ho7
      go_wp2
      refine ret_arrB rfl rwT rfl rfl HK7.out (tvL_length _ _) rfl ?_
      rw [HW.out, HLd.out]
      exact ⟨a6, A5, n5, c5, rfl, hB7, HN6.out, HT8.out, HX8.out⟩
  · have HW : Kp (readW t (x, y) = t) := ⟨by unfold readW; rw [if_neg hth]⟩
    have HLd : Kp (readL t (x, y) = []) := ⟨by unfold readL; rw [if_neg hth]⟩
    rw [HW.out, HLd.out]
    have HTh : Kp (thereW t (x, y) = false) := ⟨by simpa using hth⟩
    clear HLe h hth hx hy
    go_enter Try.func44, Try.ntmps44
    go_wp2_with (with_reducible refine wpList_box (o := ⟨some 3, _, _, _, _, _⟩) (cs := tvL a t) rfl (.tmp 0) rfl rfl ?_)
    intro w1 hk1 hb1 hs1
    have HK1 : Kp _ := ⟨hk1⟩
    clear hk1 hs1
    go_wp2_with (with_reducible refine wpList_alloc (o := ⟨some 6, _, _, _, _, _⟩) tyT rfl rfl ?_)
    intro w2 hk2 hb2 hs2
    have hl1 : w.heap.size < w1.heap.size := HK1.out.lt
    have HK2 : Kp _ := ⟨HK1.out.below hb2 HK1.out.lt⟩
    have HR2 : Kp _ := ⟨hk2⟩
    have hB2 : Below w.heap.size w w2 := hb1.trans (hb2.mono hb1.size)
    clear hk2 hb2 hs2 HK1 hb1
    go_wp2_with (with_reducible refine wpList_loadAll (o := ⟨some 10, _, _, _, _, _⟩) rwT rfl (.tmp 3) rfl rfl HK2.out HL10.out ?_)
    refine (there_any w2 a t x y).mono ?_
    rw [HTh.out]
    rintro e w3 ⟨rfl, hb3⟩
    have HK3 : Kp _ := ⟨HK2.out.below hb3 HK2.out.lt⟩
    have HR3 : Kp _ := ⟨HR2.out.below hb3 HR2.out.lt⟩
    have hB3 := hB2.trans (hb3.mono hB2.size)
    clear hb3 HK2 HR2 hB2
    go_wp2_with (first
      | (with_reducible refine wpList_loadAll (o := ⟨some 15, _, _, _, _, _⟩) rwT rfl (.tmp 3) rfl rfl HK3.out HL10.out ?_)
      | (with_reducible refine wpList_storeAll (o := ⟨none, _, _, _, _, _⟩) (vs := tvL a t) rwT rfl (.tmp 6) (.tmp 15) rfl rfl HR3.out HZ.out HL10.out HO10.out rfl ?_))
    intro w6 hk6 ho6
    have HK6 : Kp _ := ⟨hk6⟩
    clear hk6
    go_wp2
    refine ret_arrB rfl rwT rfl rfl HK6.out (tvL_length _ _) rfl ?_
    have hBf := hB3.trans (ho6.below (by omega))
    exact ⟨a, none, 0, 0, rfl, hBf, rfl, HT.out.below hBf, BsM.zero _ _⟩
end
end Go.Proofs.Ytpbpegoobgfjcaa

namespace Go.Proofs.Ytpbpegoobgfjcaa
open Go.RowKit
set_option maxHeartbeats 400000 in
theorem refpad_any (A : Option Addr) (n c : Nat) (wide : Int) (xs : List UInt8) (w : World) (ha : Bs w w.heap.size A n c xs) (hn : n ≤ 4294967296) (hw : wide ≤ 4294967296) :
    Calls Try.prog 57 #[.slice A n c, .int .i64 wide] w fun e w' => ∃ v, e = .returned v ∧ w'.ownsRow w.heap.size 5 1 v (padL xs wide).length (cells8 (padL xs wide)) ∧ Below w.heap.size w w' := by
  have HL := Lib.hid ha.len
  go_enter Try.func57, Try.ntmps57
  go_wp2_with (at_builtin; refine wpList_app el8 rfl _ _ rfl w.heap.size _ 0 [] rfl (own_nil _ _ _) A n c (cells8 xs) rfl ?_ ?_ ha.news (cells8_one _) ?_ ?_ (Nat.le_refl _) ?_)
  · rw [cells8_length, HL.out]
  · exact fun h => ⟨by have := ha.nil h; have := ha.cap; omega, ha.nil h⟩
  · simp only [maxLen]; omega
  · omega
  intro v1 w1 hown hg _
  have hbel : Below w.heap.size w w1 := (Below.refl _ _).grown hg (Nat.le_refl _) (by simp [Value.ownBlock])
  have H1 : Hid (w1.ownsRow w.heap.size 5 1 v1 n (cells8 xs)) := by simpa [Hid] using hown
  clear hown hg
  go_wp2
  go_loopw [5] (fun v wr => ∃ k : Nat, k ≤ wide.toNat - n ∧ Hid (wr.ownsRow w.heap.size 5 1 v (n + k) (cells8 (xs ++ List.replicate k 0))) ∧ Below w.heap.size w wr) (fun v _ => match v with | .slice _ m _ => wide.toNat - m | _ => 0)
  case atStart => exact ⟨0, Nat.zero_le _, by simpa [Hid] using H1, hbel⟩
  case round =>
    obtain ⟨k, hk, H, hb⟩ := hrel
    obtain ⟨A5, c5, rfl, _, _, _, _⟩ := own_form H.out
    by_cases hlt : ((n + k : Nat) : Int) < wide
    · go_wp2_with (at_builtin; refine wpList_app1 el8 rfl _ _ rfl w.heap.size _ (n + k) _ rfl H.out rfl rfl (by simp only [maxLen]; omega) (by omega) hb.size ?_)
      intro v' w' H' hb' _ _
      obtain ⟨A6, c6, rfl, _, _, _, _⟩ := own_form H'.out
      go_wp2
      go_roundw
      case rel =>
        refine ⟨k + 1, by omega, ?_, hb.trans hb'⟩
        have h1 := H'.out
        show World.ownsRow _ _ _ _ _ _ _
        have e : cells8 (xs ++ List.replicate (k + 1) 0) = cells8 (xs ++ List.replicate k 0) ++ [.int .u8 0] := by
          rw [List.replicate_succ', ← List.append_assoc, cells8_append]; rfl
        rw [e]
        exact h1
      case measure => simp; omega
    · have e : k = wide.toNat - n := by omega
      have H3 : Hid (wr.ownsRow w.heap.size 5 1 (.slice A5 (n + k) c5) (padL xs wide).length (cells8 (padL xs wide))) := by
        have h1 := H.out
        have e1 : (padL xs wide).length = n + k := by rw [padL_length, HL.out]; omega
        have e2 : padL xs wide = xs ++ List.replicate k 0 := by rw [padL, HL.out, e]
        rw [e1, e2]
        exact h1
      clear e H
      go_wp2
      go_ret
      exact ⟨_, rfl, H3.out, hb⟩
end Go.Proofs.Ytpbpegoobgfjcaa
