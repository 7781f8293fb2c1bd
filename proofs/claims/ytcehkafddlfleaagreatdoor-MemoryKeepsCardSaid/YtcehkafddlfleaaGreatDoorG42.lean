/-  -/
import Derived.Test.YtcehkafddlfleaaGreatDoorG02
import Derived.Test.YtcehkafddlfleaaGreatDoorG41
namespace Go.Proofs.YtcehkafddlfleaaGreatDoor
open Go.RowKit
section
variable {w0 w wx : World} {k : Nat} {t : Wd} {Om : Nat → Prop} {hs : List Held} {s : Sto}
structure MntI (w0 w wx : World) (k : Nat) (s : Sto) (t : Wd) (Om : Nat → Prop) (hs : List Held) (g1 g2 : Nat) : Prop where
 st : StM w0 wx k s.b t (fun j => (Om j ∨ j = g1) ∨ j = g2) hs
 box : Blk wx g1 119 (stL s)
 res : Blk wx g2 63 rcZ
 keep : Keep Om w wx
theorem MntI.grow {g1 g2 : Nat} {w' : World} (h : MntI w0 w wx k s t Om hs g1 g2) (hb : Below wx.heap.size wx w') : MntI w0 w w' k s t Om hs g1 g2 := ⟨h.st.grow hb, h.box.below hb h.box.lt, h.res.below hb h.res.lt, h.keep.trans ((h.st.keepBelow hb).less fun _ h => .inl (.inl h))⟩
theorem MntI.step {g1 g2 k' : Nat} {t' : Wd} {hs' : List Held} {w' : World} (h : MntI w0 w wx k s t Om hs g1 g2) (h2 : StM w0 w' k' s.b t' (fun j => (Om j ∨ j = g1) ∨ j = g2) hs') (hk : Keep (fun j => (Om j ∨ j = g1) ∨ j = g2) wx w') : MntI w0 w w' k' s t' Om hs' g1 g2 := ⟨h2, hk.blk h.box (.inl (.inr rfl)), hk.blk h.res (.inr rfl), h.keep.trans (hk.less fun _ h => .inl (.inl h))⟩
theorem StM.growHold2 {b : Nat} {w' : World} {A B : Option Addr} {n c m d : Nat} {l l2 : List UInt8} (h : StM w0 w k b t Om hs) (hb : Below w.heap.size w w') (hA : BsN w.heap.size w' A n c l) (hn : n ≤ 4294967296) (hB : BsN w.heap.size w' B m d l2) (hm : m ≤ 4294967296) : StM w0 w' k b t Om ((B, m, d, l2) :: (A, n, c, l) :: hs) := by
 obtain ⟨M, O, ad, p, L, hP, h1, h2, hh⟩ := h.is
 refine ⟨⟨M, O, ad, p, L, hP.below hb, h1, h2, fun x hx => ?_⟩, h.below.trans (hb.mono h.below.size), h.small⟩
 rcases List.mem_cons.1 hx with rfl | hx
 ·exact ⟨hB.bs, fun ad hA _ hm => by have := hB.fr ad hA; have := hP.lt _ hm; omega, hm⟩
 ·rcases List.mem_cons.1 hx with rfl | hx
  ·exact ⟨hA.bs, fun ad hB _ hm => by have := hA.fr ad hB; have := hP.lt _ hm; omega, hn⟩
  ·exact (hh x hx).below hb
theorem Ds.flat {w : World} {B m e : Nat} {D : Option Addr} {ds : List (List UInt8)} (h : Ds w B D m e ds) (hm : m ≤ 1000000) : Bs w B D (32 * m) (if D = none then 0 else 32 * m) ds.flatten := by
 have hl : ds.flatten.length = 32 * m := by have h1 := flat9_len ds h.wide; rw [cells8_length] at h1; rw [h1, h.len]; omega
 cases D with
 | none =>
  have h0 : m = 0 := by
   have h1 := h.nil rfl
   have h2 := h.cap
   omega
  subst h0
  have h3 : ds.flatten = [] := List.eq_nil_of_length_eq_zero (by omega)
  rw [h3]
  exact Bs.zero _ _
 | some ad =>
  rw [if_neg (by simp)]
  refine ⟨hl, Nat.le_refl _, by simp only [maxLen]; omega, (fun h => by cases h), fun h0 => ?_⟩
  obtain ⟨b, o, hA, hb, hc⟩ := h.cells (by omega)
  refine ⟨b, o, hA, hb, fun j hj => ?_⟩
  have hq : j / 32 < ds.length := by rw [h.len]; omega
  have h1 := hc (j / 32) hq (j % 32)
  have h2 := flat9_at ds h.wide (j / 32) hq
  rw [← h2] at h1
  have h3 := h1 (.int .u8 (ds.flatten[j].toNat : Int)) (by
   rw [List.getElem?_take, if_pos (Nat.mod_lt _ (by omega)), List.getElem?_drop, show j / 32 * 32 + j % 32 = j by omega]
   exact cells8_at _ _ hj)
  rw [show o + j = o + j / 32 * 32 + j % 32 by omega]
  exact h3
theorem Ds.unflat {w w' : World} {B m e : Nat} {D : Option Addr} {ds : List (List UInt8)} (h : Ds w B D m e ds) (hb : Bs w' w'.heap.size D (32 * m) (if D = none then 0 else 32 * m) ds.flatten) : Ds w' w'.heap.size D m e ds :=
 ⟨h.len, h.cap, h.max, h.nil, h.wide, fun h0 => by
  obtain ⟨b, o, hA, hlt, hc⟩ := hb.cells (by omega)
  refine ⟨b, o, hA, hlt, fun i hi j v hv => ?_⟩
  have hw := h.wide ds[i] (List.getElem_mem hi)
  have hj : j < 32 := by have := (List.getElem?_eq_some_iff.1 hv).1; rw [cells8_length] at this; omega
  have hl : ds.flatten.length = ds.length * 32 := by have h1 := flat9_len ds h.wide; rwa [cells8_length] at h1
  have hij : i * 32 + j < ds.flatten.length := by rw [hl]; omega
  have h1 := hc (i * 32 + j) hij
  have h2 := flat9_at ds h.wide i hi
  rw [← h2, List.getElem?_take, if_pos hj, List.getElem?_drop, cells8_at _ _ hij] at hv
  rw [Nat.add_assoc, h1]
  exact hv⟩
theorem rt_num {N : Nat} {r : Rc} (h : Rt r) : Rt ⟨N, r.blk, r.sl, r.su⟩ := ⟨h.lo, h.hi, h.sl, h.su, h.zero⟩
set_option maxRecDepth 100000 in
set_option maxHeartbeats 8000000 in
theorem smount_any (h : StM w0 w k s.b t Om hs) (hk : k + 4 ≤ 1000000) (hKy : s.hk.length = 16) (kt : List UInt8) (hmT : (s.TA, 32, s.tc, kt) ∈ hs) (hH : Hw t) (hc : t.ctr + 1 < 18446744073709551615) (r : Rc) (hr : chooseO kt t.ctr [t.s0, t.s1] = some r) (hnum : r.num = t.ctr) (hblk : r.blk = (t.n : Int)) (hRt : Rt r)
  (h0l : t.s0.length ≤ 1000000) (h1l : t.s1.length ≤ 1000000) (N : Nat) (hN : N = t.ctr + 1) :
  Calls Tryz.prog 51 #[.agg (stL s).toArray] w fun x w' => ∃ A n c D m e, x = .returned (.tuple #[rcV ⟨N, r.blk, r.sl, r.su⟩ A n c D m e, .nilIface]) ∧ Keep Om w w' ∧ Rs w' w'.heap.size A n c D m e ⟨N, r.blk, r.sl, r.su⟩ ∧
   StM w0 w' (k + 4) s.b (bumpW (sealedW (lookW (lookW t 0) 1) ((N % 2 : Nat) : Int) (encL kt ⟨N, r.blk, r.sl, r.su⟩))) Om ((D, 32 * m, (if D = none then 0 else 32 * m), r.su.flatten) :: (A, n, c, r.sl) :: hs) := by
 obtain ⟨e0, hw1, hs1⟩ := hw_look hH (i := 0) (.inl rfl)
 obtain ⟨e1, hw2, hs2⟩ := hw_look hw1 (i := 1) (.inr rfl)
 have HL0 : Kp (lookL t 0 = t.s0 ∧ lookL (lookW t 0) 1 = t.s1) := ⟨e0, e1.trans hs1.s1⟩
 have HHw : Kp (Hw (lookW (lookW t 0) 1) ∧ SameW t (lookW (lookW t 0) 1) ∧ ctrW (lookW (lookW t 0) 1) = t.ctr ∧ (lookW (lookW t 0) 1).lost = false) := ⟨hw2, hs1.trans hs2, by unfold ctrW; rw [if_neg (by rw [hw2.lost]; simp), hs2.ctr, hs1.ctr], hw2.lost⟩
 have H : Kp _ := ⟨h⟩
 have HSl : Kp ((stL s).length = 19 ∧ s.hk.length = 16) := ⟨stL_length s hKy, hKy⟩
 have HC : Kp (chooseO kt t.ctr [t.s0, t.s1] = some r ∧ r.num = t.ctr ∧ r.blk = (t.n : Int) ∧ Rt r) := ⟨hr, hnum, hblk, hRt⟩
 have HLn : Kp (t.s0.length ≤ 1000000 ∧ t.s1.length ≤ 1000000) := ⟨h0l, h1l⟩
 have HN : Kp (N = t.ctr + 1 ∧ t.ctr + 1 < 18446744073709551615) := ⟨hN, hc⟩
 clear h hr hnum hblk hRt h0l h1l hN hc hH e0 e1 hw1 hs1 hw2 hs2
 go_enter Tryz.func51, Tryz.ntmps51
 go_wp2_with (with_reducible refine wpList_box (o := ⟨some 1, _, _, _, _, _⟩) (cs := stL s) rfl (.tmp 0) rfl rfl ?_)
 intro w1 hk1 hb1 hs1
 have H1 : Kp _ := ⟨H.out.box hk1 hb1⟩
 have HG1 : Kp _ := ⟨hk1⟩
 have HKe1 : Kp _ := ⟨H.out.keepBelow hb1⟩
 obtain ⟨g1, hg1⟩ : ∃ g, g = w.heap.size := ⟨_, rfl⟩
 have HG : Kp (∀ j, Om j → j < g1) := ⟨fun j hj => by rw [hg1]; exact (H.out.lt hj).2⟩
 rw [← hg1] at HG1 H1 ⊢
 clear hk1 hb1 hs1 H hg1
 go_wp2_with (with_reducible refine wpList_alloc (o := ⟨some 2, _, _, _, _, _⟩) tySeal rfl rfl ?_)
 intro w2 hk2 hb2 hs2
 have HM : Kp (MntI w0 w w2 k s t Om hs g1 w1.heap.size) := ⟨⟨H1.out.box hk2 hb2, HG1.out.below hb2 HG1.out.lt, hk2, HKe1.out.trans ((H1.out.keepBelow hb2).less fun _ h => .inl h)⟩⟩
 obtain ⟨g2, hg2⟩ : ∃ g, g = w1.heap.size := ⟨_, rfl⟩
 have HGs : Kp (g1 < g2) := ⟨by rw [hg2]; exact HG1.out.lt⟩
 rw [← hg2] at HM ⊢
 clear hk2 hb2 hs2 H1 HG1 HKe1 hg2
 go_upto_region 1 with fail
 go_cut [4, 5] from 9 to 14 (fun v4 v5 wx => ∃ A0 n0 c0 A1 n1 c1, v4 = .slice A0 n0 c0 ∧ v5 = .slice A1 n1 c1 ∧ Kp (MntI w0 w wx (k + 2) s (lookW (lookW t 0) 1) Om ((A1, n1, c1, t.s1) :: (A0, n0, c0, t.s0) :: hs) g1 g2))
 case first =>
  have HI : Kp _ := ⟨HM.out.grow (Below.refl _ _).drew⟩
  go_wp2_with fail
  refine wp_region_any (by kernel_rfl) ?_
  change wpAny _ _ _ _ _ _ _ w2.drew
  generalize w2.drew = wS at *
  refine wT 0 9 ?_ rfl ?_
  try simp only [Act.put, sA, sB, sC]
  refine wT 3 12 ?_ rfl ?_
  try simp only [Act.put, sA, sB, sC]
  refine rK [1, 4] ?_
  refine aS 10 13 rfl rfl (fun K hK => ?_) fun K hK => ?_
  ·have q0 : wS.cell? ⟨g1, 0, none⟩ = some (.pointer (some ⟨s.b, 0, none⟩)) := HI.out.box.cell? 0
   go_simp
   refine hK _ _ ?_
   clear hK K q0
   try simp only [Act.put, sA, sB, sC]
   refine rK [2, 4] ?_
   refine aS 11 13 rfl rfl (fun K hK => ?_) fun K hK => ?_
   ·go_simp
    refine (sw_look HI.out.st (by omega) 0).mono ?_
    rintro e w62 ⟨A0, n0, c0, rfl, h9, k9⟩
    rw [HL0.out.1] at h9
    replace HI : Kp _ := ⟨HI.out.step h9 k9⟩
    clear h9 k9
    refine hK _ _ ?_
    clear hK K
    try simp only [Act.put, sA, sB, sC]
    refine rK [4] ?_
    refine aR 13 rfl fun K hK => ?_
    have q0 : w62.cell? ⟨g1, 0, none⟩ = some (.pointer (some ⟨s.b, 0, none⟩)) := HI.out.box.cell? 0
    go_simp
    refine hK _ _ ?_
    clear hK K q0
    try simp only [Act.put, sA, sB, sC]
    refine rK [5] ?_
    refine aR 14 rfl fun K hK => ?_
    go_simp
    refine (sw_look HI.out.st (by omega) 1).mono ?_
    rintro e w64 ⟨A1, n1, c1, rfl, h9, k9⟩
    rw [HL0.out.2] at h9
    replace HI : Kp _ := ⟨HI.out.step h9 k9⟩
    clear h9 k9
    refine hK _ _ ?_
    clear hK K
    try simp only [Act.put, sA, sB, sC]
    refine wT 6 4 ?_ rfl ?_
    try simp only [Act.put, sA, sB, sC]
    refine wT 7 5 ?_ rfl ?_
    try simp only [Act.put, sA, sB, sC]
    refine wpAny_done (by kernel_rfl) ?_ _
    go_wp2_with fail
    go_meet
    case rel => exact ⟨A0, n0, c0, A1, n1, c1, rfl, rfl, HI⟩
   ·have q0 : wS.cell? ⟨g1, 0, none⟩ = some (.pointer (some ⟨s.b, 0, none⟩)) := HI.out.box.cell? 0
    go_simp
    refine hK _ _ ?_
    clear hK K q0
    try simp only [Act.put, sA, sB, sC]
    refine rK [2] ?_
    refine aR 11 rfl fun K hK => ?_
    go_simp
    refine (sw_look HI.out.st (by omega) 0).mono ?_
    rintro e w66 ⟨A0, n0, c0, rfl, h9, k9⟩
    rw [HL0.out.1] at h9
    replace HI : Kp _ := ⟨HI.out.step h9 k9⟩
    clear h9 k9
    refine hK _ _ ?_
    clear hK K
    try simp only [Act.put, sA, sB, sC]
    refine rK [5] ?_
    refine aR 14 rfl fun K hK => ?_
    go_simp
    refine (sw_look HI.out.st (by omega) 1).mono ?_
    rintro e w67 ⟨A1, n1, c1, rfl, h9, k9⟩
    rw [HL0.out.2] at h9
    replace HI : Kp _ := ⟨HI.out.step h9 k9⟩
    clear h9 k9
    refine hK _ _ ?_
    clear hK K
    try simp only [Act.put, sA, sB, sC]
    refine wT 6 4 ?_ rfl ?_
    try simp only [Act.put, sA, sB, sC]
    refine wT 7 5 ?_ rfl ?_
    try simp only [Act.put, sA, sB, sC]
    refine wpAny_done (by kernel_rfl) ?_ _
    go_wp2_with fail
    go_meet
    case rel => exact ⟨A0, n0, c0, A1, n1, c1, rfl, rfl, HI⟩
  ·have q0 : wS.cell? ⟨g1, 0, none⟩ = some (.pointer (some ⟨s.b, 0, none⟩)) := HI.out.box.cell? 0
   go_simp
   refine hK _ _ ?_
   clear hK K q0
   try simp only [Act.put, sA, sB, sC]
   refine rK [1] ?_
   refine aR 10 rfl fun K hK => ?_
   have q0 : wS.cell? ⟨g1, 0, none⟩ = some (.pointer (some ⟨s.b, 0, none⟩)) := HI.out.box.cell? 0
   go_simp
   refine hK _ _ ?_
   clear hK K q0
   try simp only [Act.put, sA, sB, sC]
   refine rK [2] ?_
   refine aR 11 rfl fun K hK => ?_
   go_simp
   refine (sw_look HI.out.st (by omega) 0).mono ?_
   rintro e w70 ⟨A0, n0, c0, rfl, h9, k9⟩
   rw [HL0.out.1] at h9
   replace HI : Kp _ := ⟨HI.out.step h9 k9⟩
   clear h9 k9
   refine hK _ _ ?_
   clear hK K
   try simp only [Act.put, sA, sB, sC]
   refine rK [5] ?_
   refine aR 14 rfl fun K hK => ?_
   go_simp
   refine (sw_look HI.out.st (by omega) 1).mono ?_
   rintro e w71 ⟨A1, n1, c1, rfl, h9, k9⟩
   rw [HL0.out.2] at h9
   replace HI : Kp _ := ⟨HI.out.step h9 k9⟩
   clear h9 k9
   refine hK _ _ ?_
   clear hK K
   try simp only [Act.put, sA, sB, sC]
   refine wT 6 4 ?_ rfl ?_
   try simp only [Act.put, sA, sB, sC]
   refine wT 7 5 ?_ rfl ?_
   try simp only [Act.put, sA, sB, sC]
   refine wpAny_done (by kernel_rfl) ?_ _
   go_wp2_with fail
   go_meet
   case rel => exact ⟨A0, n0, c0, A1, n1, c1, rfl, rfl, HI⟩
 case rest =>
  obtain ⟨A0, n0, c0, A1, n1, c1, rfl, rfl, HI⟩ := hcut
  clear HM
  have q0 : wc.cell? ⟨g1, 0, none⟩ = some (.pointer (some ⟨s.b, 0, none⟩)) := HI.out.box.cell? 0
  go_wp2_with fail
  refine (sw_dead HI.out.st).mono ?_
  rintro x w3 ⟨rfl, rfl⟩
  rw [HHw.out.2.2.2]
  clear q0
  go_upto_region 4 with fail
  go_cut [6, 7] from 20 to 31 (fun v6 v7 wx => ∃ g6 A n c D m e, v6 = .pointer (some ⟨g6, 0, none⟩) ∧ v7 = .int .i64 0 ∧ Kp (Blk wx g6 63 (rcL r.num r.blk A n c D m e)) ∧ Kp (Rs wx wx.heap.size A n c D m e r) ∧ Kp (MntI w0 w wx (k + 2) s (lookW (lookW t 0) 1) Om ((D, 32 * m, (if D = none then 0 else 32 * m), r.su.flatten) :: (A, n, c, r.sl) :: hs) g1 g2))
  case first =>
   have HSt : Kp (∀ W, Below w3.drew.heap.size w3.drew W → StM w0 W (k + 2) s.b (lookW (lookW t 0) 1) (fun j => (Om j ∨ j = g1) ∨ j = g2) ((A1, n1, c1, t.s1) :: (A0, n0, c0, t.s0) :: hs)) := ⟨fun W hW => HI.out.st.drew.grow hW⟩
   have HBx : Kp (∀ W, Below w3.drew.heap.size w3.drew W → Blk W g1 119 (stL s)) := ⟨fun W hW => HI.out.box.drew.below hW HI.out.box.lt⟩
   obtain ⟨L0, hL0⟩ : ∃ L, L = w3.drew.heap.size := ⟨_, rfl⟩
   have HLz : Kp (∀ W, Below w3.drew.heap.size w3.drew W → L0 ≤ W.heap.size) := ⟨fun W hW => by rw [hL0]; exact hW.size⟩
   have HLe : Kp (w3.drew.heap.size ≤ L0) := ⟨Nat.le_of_eq hL0.symm⟩
   have HGh : Kp (∀ W, Below w3.drew.heap.size w3.drew W → ∀ A n c l, BsN L0 W A n c l → n ≤ 4294967296 → ∀ D m d l2, BsN L0 W D m d l2 → m ≤ 4294967296 → MntI w0 w W (k + 2) s (lookW (lookW t 0) 1) Om ((D, m, d, l2) :: (A, n, c, l) :: hs) g1 g2) := ⟨fun W hW A n c l h1 h2 D m d l2 h3 h4 => by
    rw [hL0] at h1 h3
    have h5 := HI.out.grow (Below.refl _ _).drew
    exact ⟨(h5.st.growHold2 hW h1 h2 h3 h4).forget (fun x hx => by
     rcases List.mem_cons.1 hx with e | hx
     ·exact List.mem_cons.2 (.inl e)
     ·rcases List.mem_cons.1 hx with e | hx
      ·exact List.mem_cons_of_mem _ (List.mem_cons.2 (.inl e))
      ·exact List.mem_cons_of_mem _ (List.mem_cons_of_mem _ (List.mem_cons_of_mem _ (List.mem_cons_of_mem _ hx)))), (h5.grow hW).box, (h5.grow hW).res, (h5.grow hW).keep⟩⟩
   clear hL0
   go_wp2_with fail
   refine wp_region_held_drew (S := fun W => Below w3.drew.heap.size w3.drew W) (by kernel_rfl) (Below.refl _ _) (fun hHeld => ?_)
   generalize w3.drew = wS at *
   refine wU 0 21 ?_ rfl ?_
   try simp only [Act.put, sA, sB, sC]
   refine wpAnyH_take (i := 1) (oi := ⟨some 22, _, _, _, _, _⟩) (v := _) rfl (by kernel_rfl) (by kernel_rfl) (by kernel_rfl) (fun _ _ _ h => h) (Or.inl ⟨by rfl, by intro W hW; have c := (HBx.out W hW).cell? 18; rw [stL_18 s HSl.out.2] at c; go_simp; try rfl⟩) (by assumption) ?_
   try simp only [Act.put, sA, sB, sC]
   refine wU 2 23 ?_ rfl ?_
   try simp only [Act.put, sA, sB, sC]
   refine wpAnyH_take (i := 3) (oi := ⟨some 24, _, _, _, _, _⟩) (v := _) rfl (by kernel_rfl) (by kernel_rfl) (by kernel_rfl) (fun _ _ _ h => h) (Or.inl ⟨by rfl, by intro W hW; have c : W.cell? ⟨g1, 0, none⟩ = some (.pointer (some ⟨s.b, 0, none⟩)) := (HBx.out W hW).cell? 0; go_simp; try rfl⟩) (by assumption) ?_
   try simp only [Act.put, sA, sB, sC]
   refine wU 5 26 ?_ rfl ?_
   try simp only [Act.put, sA, sB, sC]
   refine wU 6 27 ?_ rfl ?_
   try simp only [Act.put, sA, sB, sC]
   refine rH [4, 7, 12] ?_
   refine AllReadyH.cons (o := ⟨some 25, _, _, _, _, _⟩) rfl (fun K hK => ?_) (AllReadyH.cons (o := ⟨some 28, _, _, _, _, _⟩) rfl (fun K hK => ?_) (aH 6 rfl fun K hK => ?_))
   ·go_simp
    refine (sw_counter (b := s.b) (t := (lookW (lookW t 0) 1)) (HSt.out wS hHeld)).mono ?_
    rintro e w51 ⟨rfl, rfl⟩
    rw [HHw.out.2.2.1]
    refine hK.out _ _ hHeld (fun hHeld2 => ?_)
    clear hK K hHeld
    have hHeld := hHeld2
    clear hHeld2
    try simp only [Act.put, sA, sB, sC]
    refine rH [7, 12] ?_
    refine AllReadyH.cons (o := ⟨some 28, _, _, _, _, _⟩) rfl (fun K hK => ?_) (aH 6 rfl fun K hK => ?_)
    ·go_simp
     have HLs : Kp (Ls (w51.alloc (.cells #[.slice A0 n0 c0, .slice A1 n1 c1] 29)) (w51.alloc (.cells #[.slice A0 n0 c0, .slice A1 n1 c1] 29)).heap.size (some ⟨w51.heap.size, 0, none⟩) 2 2 [t.s0, t.s1]) := ⟨ls_two w51 29 ((HSt.out w51 hHeld).held (A := A0) (n := n0) (c := c0) (l := t.s0) (by simp)).1 ((HSt.out w51 hHeld).held (A := A1) (n := n1) (c := c1) (l := t.s1) (by simp)).1⟩
     have hb' : Below w51.heap.size w51 (w51.alloc (.cells #[.slice A0 n0 c0, .slice A1 n1 c1] 29)) := (Below.refl _ _).alloc (Nat.le_refl _) _
     try replace HK6 : Kp _ := ⟨HK6.out.below hb' HK6.out.lt⟩
     obtain ⟨gp, hgp⟩ : ∃ g, g = w51.heap.size := ⟨_, rfl⟩
     rw [← hgp] at HLs ⊢
     refine hK.out _ _ (hHeld.trans (hb'.mono hHeld.size)) (fun hHeld2 => ?_)
     clear hb' hgp
     generalize w51.alloc (.cells #[.slice A0 n0 c0, .slice A1 n1 c1] 29) = w52 at *
     clear hK K hHeld
     have hHeld := hHeld2
     clear hHeld2
     try simp only [Act.put, sA, sB, sC]
     refine rH [8, 12] ?_
     refine AllReadyH.cons (o := ⟨some 29, _, _, _, _, _⟩) rfl (fun K hK => ?_) (aH 6 rfl fun K hK => ?_)
     ·go_simp
      refine (pick8_any kt s.TA 32 s.tc t.ctr (some ⟨gp, 0, none⟩) 2 2 [t.s0, t.s1] w52 ((HSt.out w52 hHeld).held (A := s.TA) (n := 32) (c := s.tc) (l := kt) (by simp [hmT])).1 HLs.out (by omega) (by have := HN.out.2; omega) (fun x hx => by simp at hx; rcases hx with rfl | rfl; exact HLn.out.1; exact HLn.out.2)).mono ?_
      rw [HC.out.1]
      rintro e w53 ⟨A', n', c', D', m', e', rfl, hr9, hb'⟩
      have HRn : Kp (RsN L0 w53 A' n' c' D' m' e' r) := ⟨hr9.low (HLz.out _ hHeld)⟩
      try replace HK6 : Kp _ := ⟨HK6.out.below hb' HK6.out.lt⟩
      refine hK.out _ _ (hHeld.trans (hb'.mono hHeld.size)) (fun hHeld2 => ?_)
      clear hb' hr9 HLs
      clear hK K hHeld
      have hHeld := hHeld2
      clear hHeld2
      try simp only [Act.put, sA, sB, sC]
      refine wU 9 20 ?_ rfl ?_
      try simp only [Act.put, sA, sB, sC]
      refine wU 10 30 ?_ rfl ?_
      try simp only [Act.put, sA, sB, sC]
      refine wU 11 31 ?_ rfl ?_
      try simp only [Act.put, sA, sB, sC]
      refine rH [12] ?_
      refine aH 6 rfl fun K hK => ?_
      refine step_alloc tySeal rfl rfl ?_
      intro w54 hk6 hb'
      obtain ⟨g6, hg6⟩ : ∃ g, g = w53.heap.size := ⟨_, rfl⟩
      rw [← hg6] at hk6 ⊢
      have HK6 : Kp _ := ⟨hk6⟩
      have HG6s : Kp (L0 ≤ g6) := ⟨by rw [hg6]; exact HLz.out _ hHeld⟩
      try replace HLs : Kp _ := ⟨HLs.out.next hb' (Nat.le_refl _)⟩
      try replace HRn : Kp _ := ⟨HRn.out.next hb' (Nat.le_refl _)⟩
      refine hK.out _ _ (hHeld.trans (hb'.mono hHeld.size)) (fun hHeld2 => ?_)
      clear hb' hk6 hg6
      clear hK K hHeld
      have hHeld := hHeld2
      clear hHeld2
      try simp only [Act.put, sA, sB, sC]
      refine rH [13] ?_
      refine AllReadyH.cons (o := ⟨none, _, _, _, _, _⟩) rfl (fun K hK => ?_) AllReadyH.nil
      refine step_store rwSeal rfl (.tmp 6) (.tmp 30) (vs := rcL r.num r.blk A' n' c' D' m' e') rfl rfl rfl HK6.out rfl (by decide) (rcL_one _ _ _ _ _ _ _ _) ?_
      intro w55 hk9 ho9
      have HRm : Kp _ := ⟨HRn.out.over ho9 HK6.out⟩
      have HKm : Kp (Blk w55 g6 63 (rcL r.num r.blk A' n' c' D' m' e')) := ⟨by have h := hk9; simpa using h⟩
      refine hK.out _ _ (hHeld.trans (ho9.below (Nat.le_trans HLe.out HG6s.out))) (fun hHeld2 => ?_)
      clear hk9 ho9 HRn HK6
      clear hK K hHeld
      have hHeld := hHeld2
      clear hHeld2
      try simp only [Act.put]
      refine wU 14 7 ?_ rfl ?_
      try simp only [Act.put, sA, sB, sC]
      refine wpAnyH_done (by kernel_rfl) ?_ _
      have hsl9 := HC.out.2.2.2.sl
      have hsu9 := HC.out.2.2.2.su
      have hhi9 := HC.out.2.2.2.hi
      have hl9 := HRm.out.sl.len
      have hm9 := HRm.out.su.len
      have HX9 : Kp _ := ⟨HGh.out _ hHeld A' n' c' r.sl ⟨HRm.out.sl, HRm.out.fa⟩ (by omega) D' (32 * m') _ r.su.flatten ⟨Ds.flat HRm.out.su (by omega), HRm.out.fd⟩ (by omega)⟩
      clear hsl9 hsu9 hhi9 hl9 hm9
      go_wp2_with fail
      go_meet
      case rel => exact ⟨g6, A', n', c', D', m', e', rfl, rfl, HKm, ⟨HRm.out.toRs⟩, HX9⟩
     ·refine step_alloc tySeal rfl rfl ?_
      intro w56 hk6 hb'
      obtain ⟨g6, hg6⟩ : ∃ g, g = w52.heap.size := ⟨_, rfl⟩
      rw [← hg6] at hk6 ⊢
      have HK6 : Kp _ := ⟨hk6⟩
      have HG6s : Kp (L0 ≤ g6) := ⟨by rw [hg6]; exact HLz.out _ hHeld⟩
      try replace HLs : Kp _ := ⟨HLs.out.next hb' (Nat.le_refl _)⟩
      try replace HRn : Kp _ := ⟨HRn.out.next hb' (Nat.le_refl _)⟩
      refine hK.out _ _ (hHeld.trans (hb'.mono hHeld.size)) (fun hHeld2 => ?_)
      clear hb' hk6 hg6
      clear hK K hHeld
      have hHeld := hHeld2
      clear hHeld2
      try simp only [Act.put, sA, sB, sC]
      refine rH [8] ?_
      refine aH 29 rfl fun K hK => ?_
      go_simp
      refine (pick8_any kt s.TA 32 s.tc t.ctr (some ⟨gp, 0, none⟩) 2 2 [t.s0, t.s1] w56 ((HSt.out w56 hHeld).held (A := s.TA) (n := 32) (c := s.tc) (l := kt) (by simp [hmT])).1 HLs.out (by omega) (by have := HN.out.2; omega) (fun x hx => by simp at hx; rcases hx with rfl | rfl; exact HLn.out.1; exact HLn.out.2)).mono ?_
      rw [HC.out.1]
      rintro e w57 ⟨A', n', c', D', m', e', rfl, hr9, hb'⟩
      have HRn : Kp (RsN L0 w57 A' n' c' D' m' e' r) := ⟨hr9.low (HLz.out _ hHeld)⟩
      try replace HK6 : Kp _ := ⟨HK6.out.below hb' HK6.out.lt⟩
      refine hK.out _ _ (hHeld.trans (hb'.mono hHeld.size)) (fun hHeld2 => ?_)
      clear hb' hr9 HLs
      clear hK K hHeld
      have hHeld := hHeld2
      clear hHeld2
      try simp only [Act.put, sA, sB, sC]
      refine wU 9 20 ?_ rfl ?_
      try simp only [Act.put, sA, sB, sC]
      refine wU 10 30 ?_ rfl ?_
      try simp only [Act.put, sA, sB, sC]
      refine wU 11 31 ?_ rfl ?_
      try simp only [Act.put, sA, sB, sC]
      refine rH [13] ?_
      refine AllReadyH.cons (o := ⟨none, _, _, _, _, _⟩) rfl (fun K hK => ?_) AllReadyH.nil
      refine step_store rwSeal rfl (.tmp 6) (.tmp 30) (vs := rcL r.num r.blk A' n' c' D' m' e') rfl rfl rfl HK6.out rfl (by decide) (rcL_one _ _ _ _ _ _ _ _) ?_
      intro w58 hk9 ho9
      have HRm : Kp _ := ⟨HRn.out.over ho9 HK6.out⟩
      have HKm : Kp (Blk w58 g6 63 (rcL r.num r.blk A' n' c' D' m' e')) := ⟨by have h := hk9; simpa using h⟩
      refine hK.out _ _ (hHeld.trans (ho9.below (Nat.le_trans HLe.out HG6s.out))) (fun hHeld2 => ?_)
      clear hk9 ho9 HRn HK6
      clear hK K hHeld
      have hHeld := hHeld2
      clear hHeld2
      try simp only [Act.put]
      refine wU 14 7 ?_ rfl ?_
      try simp only [Act.put, sA, sB, sC]
      refine wpAnyH_done (by kernel_rfl) ?_ _
      have hsl9 := HC.out.2.2.2.sl
      have hsu9 := HC.out.2.2.2.su
      have hhi9 := HC.out.2.2.2.hi
      have hl9 := HRm.out.sl.len
      have hm9 := HRm.out.su.len
      have HX9 : Kp _ := ⟨HGh.out _ hHeld A' n' c' r.sl ⟨HRm.out.sl, HRm.out.fa⟩ (by omega) D' (32 * m') _ r.su.flatten ⟨Ds.flat HRm.out.su (by omega), HRm.out.fd⟩ (by omega)⟩
      clear hsl9 hsu9 hhi9 hl9 hm9
      go_wp2_with fail
      go_meet
      case rel => exact ⟨g6, A', n', c', D', m', e', rfl, rfl, HKm, ⟨HRm.out.toRs⟩, HX9⟩
    ·refine step_alloc tySeal rfl rfl ?_
     intro w59 hk6 hb'
     obtain ⟨g6, hg6⟩ : ∃ g, g = w51.heap.size := ⟨_, rfl⟩
     rw [← hg6] at hk6 ⊢
     have HK6 : Kp _ := ⟨hk6⟩
     have HG6s : Kp (L0 ≤ g6) := ⟨by rw [hg6]; exact HLz.out _ hHeld⟩
     try replace HLs : Kp _ := ⟨HLs.out.next hb' (Nat.le_refl _)⟩
     try replace HRn : Kp _ := ⟨HRn.out.next hb' (Nat.le_refl _)⟩
     refine hK.out _ _ (hHeld.trans (hb'.mono hHeld.size)) (fun hHeld2 => ?_)
     clear hb' hk6 hg6
     clear hK K hHeld
     have hHeld := hHeld2
     clear hHeld2
     try simp only [Act.put, sA, sB, sC]
     refine rH [7] ?_
     refine aH 28 rfl fun K hK => ?_
     go_simp
     have HLs : Kp (Ls (w59.alloc (.cells #[.slice A0 n0 c0, .slice A1 n1 c1] 29)) (w59.alloc (.cells #[.slice A0 n0 c0, .slice A1 n1 c1] 29)).heap.size (some ⟨w59.heap.size, 0, none⟩) 2 2 [t.s0, t.s1]) := ⟨ls_two w59 29 ((HSt.out w59 hHeld).held (A := A0) (n := n0) (c := c0) (l := t.s0) (by simp)).1 ((HSt.out w59 hHeld).held (A := A1) (n := n1) (c := c1) (l := t.s1) (by simp)).1⟩
     have hb' : Below w59.heap.size w59 (w59.alloc (.cells #[.slice A0 n0 c0, .slice A1 n1 c1] 29)) := (Below.refl _ _).alloc (Nat.le_refl _) _
     try replace HK6 : Kp _ := ⟨HK6.out.below hb' HK6.out.lt⟩
     obtain ⟨gp, hgp⟩ : ∃ g, g = w59.heap.size := ⟨_, rfl⟩
     rw [← hgp] at HLs ⊢
     refine hK.out _ _ (hHeld.trans (hb'.mono hHeld.size)) (fun hHeld2 => ?_)
     clear hb' hgp
     generalize w59.alloc (.cells #[.slice A0 n0 c0, .slice A1 n1 c1] 29) = w60 at *
     clear hK K hHeld
     have hHeld := hHeld2
     clear hHeld2
     try simp only [Act.put, sA, sB, sC]
     refine rH [8] ?_
     refine aH 29 rfl fun K hK => ?_
     go_simp
     refine (pick8_any kt s.TA 32 s.tc t.ctr (some ⟨gp, 0, none⟩) 2 2 [t.s0, t.s1] w60 ((HSt.out w60 hHeld).held (A := s.TA) (n := 32) (c := s.tc) (l := kt) (by simp [hmT])).1 HLs.out (by omega) (by have := HN.out.2; omega) (fun x hx => by simp at hx; rcases hx with rfl | rfl; exact HLn.out.1; exact HLn.out.2)).mono ?_
     rw [HC.out.1]
     rintro e w61 ⟨A', n', c', D', m', e', rfl, hr9, hb'⟩
     have HRn : Kp (RsN L0 w61 A' n' c' D' m' e' r) := ⟨hr9.low (HLz.out _ hHeld)⟩
     try replace HK6 : Kp _ := ⟨HK6.out.below hb' HK6.out.lt⟩
     refine hK.out _ _ (hHeld.trans (hb'.mono hHeld.size)) (fun hHeld2 => ?_)
     clear hb' hr9 HLs
     clear hK K hHeld
     have hHeld := hHeld2
     clear hHeld2
     try simp only [Act.put, sA, sB, sC]
     refine wU 9 20 ?_ rfl ?_
     try simp only [Act.put, sA, sB, sC]
     refine wU 10 30 ?_ rfl ?_
     try simp only [Act.put, sA, sB, sC]
     refine wU 11 31 ?_ rfl ?_
     try simp only [Act.put, sA, sB, sC]
     refine rH [13] ?_
     refine AllReadyH.cons (o := ⟨none, _, _, _, _, _⟩) rfl (fun K hK => ?_) AllReadyH.nil
     refine step_store rwSeal rfl (.tmp 6) (.tmp 30) (vs := rcL r.num r.blk A' n' c' D' m' e') rfl rfl rfl HK6.out rfl (by decide) (rcL_one _ _ _ _ _ _ _ _) ?_
     intro w62 hk9 ho9
     have HRm : Kp _ := ⟨HRn.out.over ho9 HK6.out⟩
     have HKm : Kp (Blk w62 g6 63 (rcL r.num r.blk A' n' c' D' m' e')) := ⟨by have h := hk9; simpa using h⟩
     refine hK.out _ _ (hHeld.trans (ho9.below (Nat.le_trans HLe.out HG6s.out))) (fun hHeld2 => ?_)
     clear hk9 ho9 HRn HK6
     clear hK K hHeld
     have hHeld := hHeld2
     clear hHeld2
     try simp only [Act.put]
     refine wU 14 7 ?_ rfl ?_
     try simp only [Act.put, sA, sB, sC]
     refine wpAnyH_done (by kernel_rfl) ?_ _
     have hsl9 := HC.out.2.2.2.sl
     have hsu9 := HC.out.2.2.2.su
     have hhi9 := HC.out.2.2.2.hi
     have hl9 := HRm.out.sl.len
     have hm9 := HRm.out.su.len
     have HX9 : Kp _ := ⟨HGh.out _ hHeld A' n' c' r.sl ⟨HRm.out.sl, HRm.out.fa⟩ (by omega) D' (32 * m') _ r.su.flatten ⟨Ds.flat HRm.out.su (by omega), HRm.out.fd⟩ (by omega)⟩
     clear hsl9 hsu9 hhi9 hl9 hm9
     go_wp2_with fail
     go_meet
     case rel => exact ⟨g6, A', n', c', D', m', e', rfl, rfl, HKm, ⟨HRm.out.toRs⟩, HX9⟩
   ·go_simp
    have HLs : Kp (Ls (wS.alloc (.cells #[.slice A0 n0 c0, .slice A1 n1 c1] 29)) (wS.alloc (.cells #[.slice A0 n0 c0, .slice A1 n1 c1] 29)).heap.size (some ⟨wS.heap.size, 0, none⟩) 2 2 [t.s0, t.s1]) := ⟨ls_two wS 29 ((HSt.out wS hHeld).held (A := A0) (n := n0) (c := c0) (l := t.s0) (by simp)).1 ((HSt.out wS hHeld).held (A := A1) (n := n1) (c := c1) (l := t.s1) (by simp)).1⟩
    have hb' : Below wS.heap.size wS (wS.alloc (.cells #[.slice A0 n0 c0, .slice A1 n1 c1] 29)) := (Below.refl _ _).alloc (Nat.le_refl _) _
    try replace HK6 : Kp _ := ⟨HK6.out.below hb' HK6.out.lt⟩
    obtain ⟨gp, hgp⟩ : ∃ g, g = wS.heap.size := ⟨_, rfl⟩
    rw [← hgp] at HLs ⊢
    refine hK.out _ _ (hHeld.trans (hb'.mono hHeld.size)) (fun hHeld2 => ?_)
    clear hb' hgp
    generalize wS.alloc (.cells #[.slice A0 n0 c0, .slice A1 n1 c1] 29) = w63 at *
    clear hK K hHeld
    have hHeld := hHeld2
    clear hHeld2
    try simp only [Act.put, sA, sB, sC]
    refine rH [4, 12] ?_
    refine AllReadyH.cons (o := ⟨some 25, _, _, _, _, _⟩) rfl (fun K hK => ?_) (aH 6 rfl fun K hK => ?_)
    ·go_simp
     refine (sw_counter (b := s.b) (t := (lookW (lookW t 0) 1)) (HSt.out w63 hHeld)).mono ?_
     rintro e w64 ⟨rfl, rfl⟩
     rw [HHw.out.2.2.1]
     refine hK.out _ _ hHeld (fun hHeld2 => ?_)
     clear hK K hHeld
     have hHeld := hHeld2
     clear hHeld2
     try simp only [Act.put, sA, sB, sC]
     refine rH [8, 12] ?_
     refine AllReadyH.cons (o := ⟨some 29, _, _, _, _, _⟩) rfl (fun K hK => ?_) (aH 6 rfl fun K hK => ?_)
     ·go_simp
      refine (pick8_any kt s.TA 32 s.tc t.ctr (some ⟨gp, 0, none⟩) 2 2 [t.s0, t.s1] w64 ((HSt.out w64 hHeld).held (A := s.TA) (n := 32) (c := s.tc) (l := kt) (by simp [hmT])).1 HLs.out (by omega) (by have := HN.out.2; omega) (fun x hx => by simp at hx; rcases hx with rfl | rfl; exact HLn.out.1; exact HLn.out.2)).mono ?_
      rw [HC.out.1]
      rintro e w65 ⟨A', n', c', D', m', e', rfl, hr9, hb'⟩
      have HRn : Kp (RsN L0 w65 A' n' c' D' m' e' r) := ⟨hr9.low (HLz.out _ hHeld)⟩
      try replace HK6 : Kp _ := ⟨HK6.out.below hb' HK6.out.lt⟩
      refine hK.out _ _ (hHeld.trans (hb'.mono hHeld.size)) (fun hHeld2 => ?_)
      clear hb' hr9 HLs
      clear hK K hHeld
      have hHeld := hHeld2
      clear hHeld2
      try simp only [Act.put, sA, sB, sC]
      refine wU 9 20 ?_ rfl ?_
      try simp only [Act.put, sA, sB, sC]
      refine wU 10 30 ?_ rfl ?_
      try simp only [Act.put, sA, sB, sC]
      refine wU 11 31 ?_ rfl ?_
      try simp only [Act.put, sA, sB, sC]
      refine rH [12] ?_
      refine aH 6 rfl fun K hK => ?_
      refine step_alloc tySeal rfl rfl ?_
      intro w66 hk6 hb'
      obtain ⟨g6, hg6⟩ : ∃ g, g = w65.heap.size := ⟨_, rfl⟩
      rw [← hg6] at hk6 ⊢
      have HK6 : Kp _ := ⟨hk6⟩
      have HG6s : Kp (L0 ≤ g6) := ⟨by rw [hg6]; exact HLz.out _ hHeld⟩
      try replace HLs : Kp _ := ⟨HLs.out.next hb' (Nat.le_refl _)⟩
      try replace HRn : Kp _ := ⟨HRn.out.next hb' (Nat.le_refl _)⟩
      refine hK.out _ _ (hHeld.trans (hb'.mono hHeld.size)) (fun hHeld2 => ?_)
      clear hb' hk6 hg6
      clear hK K hHeld
      have hHeld := hHeld2
      clear hHeld2
      try simp only [Act.put, sA, sB, sC]
      refine rH [13] ?_
      refine AllReadyH.cons (o := ⟨none, _, _, _, _, _⟩) rfl (fun K hK => ?_) AllReadyH.nil
      refine step_store rwSeal rfl (.tmp 6) (.tmp 30) (vs := rcL r.num r.blk A' n' c' D' m' e') rfl rfl rfl HK6.out rfl (by decide) (rcL_one _ _ _ _ _ _ _ _) ?_
      intro w67 hk9 ho9
      have HRm : Kp _ := ⟨HRn.out.over ho9 HK6.out⟩
      have HKm : Kp (Blk w67 g6 63 (rcL r.num r.blk A' n' c' D' m' e')) := ⟨by have h := hk9; simpa using h⟩
      refine hK.out _ _ (hHeld.trans (ho9.below (Nat.le_trans HLe.out HG6s.out))) (fun hHeld2 => ?_)
      clear hk9 ho9 HRn HK6
      clear hK K hHeld
      have hHeld := hHeld2
      clear hHeld2
      try simp only [Act.put]
      refine wU 14 7 ?_ rfl ?_
      try simp only [Act.put, sA, sB, sC]
      refine wpAnyH_done (by kernel_rfl) ?_ _
      have hsl9 := HC.out.2.2.2.sl
      have hsu9 := HC.out.2.2.2.su
      have hhi9 := HC.out.2.2.2.hi
      have hl9 := HRm.out.sl.len
      have hm9 := HRm.out.su.len
      have HX9 : Kp _ := ⟨HGh.out _ hHeld A' n' c' r.sl ⟨HRm.out.sl, HRm.out.fa⟩ (by omega) D' (32 * m') _ r.su.flatten ⟨Ds.flat HRm.out.su (by omega), HRm.out.fd⟩ (by omega)⟩
      clear hsl9 hsu9 hhi9 hl9 hm9
      go_wp2_with fail
      go_meet
      case rel => exact ⟨g6, A', n', c', D', m', e', rfl, rfl, HKm, ⟨HRm.out.toRs⟩, HX9⟩
     ·refine step_alloc tySeal rfl rfl ?_
      intro w68 hk6 hb'
      obtain ⟨g6, hg6⟩ : ∃ g, g = w64.heap.size := ⟨_, rfl⟩
      rw [← hg6] at hk6 ⊢
      have HK6 : Kp _ := ⟨hk6⟩
      have HG6s : Kp (L0 ≤ g6) := ⟨by rw [hg6]; exact HLz.out _ hHeld⟩
      try replace HLs : Kp _ := ⟨HLs.out.next hb' (Nat.le_refl _)⟩
      try replace HRn : Kp _ := ⟨HRn.out.next hb' (Nat.le_refl _)⟩
      refine hK.out _ _ (hHeld.trans (hb'.mono hHeld.size)) (fun hHeld2 => ?_)
      clear hb' hk6 hg6
      clear hK K hHeld
      have hHeld := hHeld2
      clear hHeld2
      try simp only [Act.put, sA, sB, sC]
      refine rH [8] ?_
      refine aH 29 rfl fun K hK => ?_
      go_simp
      refine (pick8_any kt s.TA 32 s.tc t.ctr (some ⟨gp, 0, none⟩) 2 2 [t.s0, t.s1] w68 ((HSt.out w68 hHeld).held (A := s.TA) (n := 32) (c := s.tc) (l := kt) (by simp [hmT])).1 HLs.out (by omega) (by have := HN.out.2; omega) (fun x hx => by simp at hx; rcases hx with rfl | rfl; exact HLn.out.1; exact HLn.out.2)).mono ?_
      rw [HC.out.1]
      rintro e w69 ⟨A', n', c', D', m', e', rfl, hr9, hb'⟩
      have HRn : Kp (RsN L0 w69 A' n' c' D' m' e' r) := ⟨hr9.low (HLz.out _ hHeld)⟩
      try replace HK6 : Kp _ := ⟨HK6.out.below hb' HK6.out.lt⟩
      refine hK.out _ _ (hHeld.trans (hb'.mono hHeld.size)) (fun hHeld2 => ?_)
      clear hb' hr9 HLs
      clear hK K hHeld
      have hHeld := hHeld2
      clear hHeld2
      try simp only [Act.put, sA, sB, sC]
      refine wU 9 20 ?_ rfl ?_
      try simp only [Act.put, sA, sB, sC]
      refine wU 10 30 ?_ rfl ?_
      try simp only [Act.put, sA, sB, sC]
      refine wU 11 31 ?_ rfl ?_
      try simp only [Act.put, sA, sB, sC]
      refine rH [13] ?_
      refine AllReadyH.cons (o := ⟨none, _, _, _, _, _⟩) rfl (fun K hK => ?_) AllReadyH.nil
      refine step_store rwSeal rfl (.tmp 6) (.tmp 30) (vs := rcL r.num r.blk A' n' c' D' m' e') rfl rfl rfl HK6.out rfl (by decide) (rcL_one _ _ _ _ _ _ _ _) ?_
      intro w70 hk9 ho9
      have HRm : Kp _ := ⟨HRn.out.over ho9 HK6.out⟩
      have HKm : Kp (Blk w70 g6 63 (rcL r.num r.blk A' n' c' D' m' e')) := ⟨by have h := hk9; simpa using h⟩
      refine hK.out _ _ (hHeld.trans (ho9.below (Nat.le_trans HLe.out HG6s.out))) (fun hHeld2 => ?_)
      clear hk9 ho9 HRn HK6
      clear hK K hHeld
      have hHeld := hHeld2
      clear hHeld2
      try simp only [Act.put]
      refine wU 14 7 ?_ rfl ?_
      try simp only [Act.put, sA, sB, sC]
      refine wpAnyH_done (by kernel_rfl) ?_ _
      have hsl9 := HC.out.2.2.2.sl
      have hsu9 := HC.out.2.2.2.su
      have hhi9 := HC.out.2.2.2.hi
      have hl9 := HRm.out.sl.len
      have hm9 := HRm.out.su.len
      have HX9 : Kp _ := ⟨HGh.out _ hHeld A' n' c' r.sl ⟨HRm.out.sl, HRm.out.fa⟩ (by omega) D' (32 * m') _ r.su.flatten ⟨Ds.flat HRm.out.su (by omega), HRm.out.fd⟩ (by omega)⟩
      clear hsl9 hsu9 hhi9 hl9 hm9
      go_wp2_with fail
      go_meet
      case rel => exact ⟨g6, A', n', c', D', m', e', rfl, rfl, HKm, ⟨HRm.out.toRs⟩, HX9⟩
    ·refine step_alloc tySeal rfl rfl ?_
     intro w71 hk6 hb'
     obtain ⟨g6, hg6⟩ : ∃ g, g = w63.heap.size := ⟨_, rfl⟩
     rw [← hg6] at hk6 ⊢
     have HK6 : Kp _ := ⟨hk6⟩
     have HG6s : Kp (L0 ≤ g6) := ⟨by rw [hg6]; exact HLz.out _ hHeld⟩
     try replace HLs : Kp _ := ⟨HLs.out.next hb' (Nat.le_refl _)⟩
     try replace HRn : Kp _ := ⟨HRn.out.next hb' (Nat.le_refl _)⟩
     refine hK.out _ _ (hHeld.trans (hb'.mono hHeld.size)) (fun hHeld2 => ?_)
     clear hb' hk6 hg6
     clear hK K hHeld
     have hHeld := hHeld2
     clear hHeld2
     try simp only [Act.put, sA, sB, sC]
     refine rH [4] ?_
     refine aH 25 rfl fun K hK => ?_
     go_simp
     refine (sw_counter (b := s.b) (t := (lookW (lookW t 0) 1)) (HSt.out w71 hHeld)).mono ?_
     rintro e w72 ⟨rfl, rfl⟩
     rw [HHw.out.2.2.1]
     refine hK.out _ _ hHeld (fun hHeld2 => ?_)
     clear hK K hHeld
     have hHeld := hHeld2
     clear hHeld2
     try simp only [Act.put, sA, sB, sC]
     refine rH [8] ?_
     refine aH 29 rfl fun K hK => ?_
     go_simp
     refine (pick8_any kt s.TA 32 s.tc t.ctr (some ⟨gp, 0, none⟩) 2 2 [t.s0, t.s1] w72 ((HSt.out w72 hHeld).held (A := s.TA) (n := 32) (c := s.tc) (l := kt) (by simp [hmT])).1 HLs.out (by omega) (by have := HN.out.2; omega) (fun x hx => by simp at hx; rcases hx with rfl | rfl; exact HLn.out.1; exact HLn.out.2)).mono ?_
     rw [HC.out.1]
     rintro e w73 ⟨A', n', c', D', m', e', rfl, hr9, hb'⟩
     have HRn : Kp (RsN L0 w73 A' n' c' D' m' e' r) := ⟨hr9.low (HLz.out _ hHeld)⟩
     try replace HK6 : Kp _ := ⟨HK6.out.below hb' HK6.out.lt⟩
     refine hK.out _ _ (hHeld.trans (hb'.mono hHeld.size)) (fun hHeld2 => ?_)
     clear hb' hr9 HLs
     clear hK K hHeld
     have hHeld := hHeld2
     clear hHeld2
     try simp only [Act.put, sA, sB, sC]
     refine wU 9 20 ?_ rfl ?_
     try simp only [Act.put, sA, sB, sC]
     refine wU 10 30 ?_ rfl ?_
     try simp only [Act.put, sA, sB, sC]
     refine wU 11 31 ?_ rfl ?_
     try simp only [Act.put, sA, sB, sC]
     refine rH [13] ?_
     refine AllReadyH.cons (o := ⟨none, _, _, _, _, _⟩) rfl (fun K hK => ?_) AllReadyH.nil
     refine step_store rwSeal rfl (.tmp 6) (.tmp 30) (vs := rcL r.num r.blk A' n' c' D' m' e') rfl rfl rfl HK6.out rfl (by decide) (rcL_one _ _ _ _ _ _ _ _) ?_
     intro w74 hk9 ho9
     have HRm : Kp _ := ⟨HRn.out.over ho9 HK6.out⟩
     have HKm : Kp (Blk w74 g6 63 (rcL r.num r.blk A' n' c' D' m' e')) := ⟨by have h := hk9; simpa using h⟩
     refine hK.out _ _ (hHeld.trans (ho9.below (Nat.le_trans HLe.out HG6s.out))) (fun hHeld2 => ?_)
     clear hk9 ho9 HRn HK6
     clear hK K hHeld
     have hHeld := hHeld2
     clear hHeld2
     try simp only [Act.put]
     refine wU 14 7 ?_ rfl ?_
     try simp only [Act.put, sA, sB, sC]
     refine wpAnyH_done (by kernel_rfl) ?_ _
     have hsl9 := HC.out.2.2.2.sl
     have hsu9 := HC.out.2.2.2.su
     have hhi9 := HC.out.2.2.2.hi
     have hl9 := HRm.out.sl.len
     have hm9 := HRm.out.su.len
     have HX9 : Kp _ := ⟨HGh.out _ hHeld A' n' c' r.sl ⟨HRm.out.sl, HRm.out.fa⟩ (by omega) D' (32 * m') _ r.su.flatten ⟨Ds.flat HRm.out.su (by omega), HRm.out.fd⟩ (by omega)⟩
     clear hsl9 hsu9 hhi9 hl9 hm9
     go_wp2_with fail
     go_meet
     case rel => exact ⟨g6, A', n', c', D', m', e', rfl, rfl, HKm, ⟨HRm.out.toRs⟩, HX9⟩
   ·refine step_alloc tySeal rfl rfl ?_
    intro w75 hk6 hb'
    obtain ⟨g6, hg6⟩ : ∃ g, g = wS.heap.size := ⟨_, rfl⟩
    rw [← hg6] at hk6 ⊢
    have HK6 : Kp _ := ⟨hk6⟩
    have HG6s : Kp (L0 ≤ g6) := ⟨by rw [hg6]; exact HLz.out _ hHeld⟩
    try replace HLs : Kp _ := ⟨HLs.out.next hb' (Nat.le_refl _)⟩
    try replace HRn : Kp _ := ⟨HRn.out.next hb' (Nat.le_refl _)⟩
    refine hK.out _ _ (hHeld.trans (hb'.mono hHeld.size)) (fun hHeld2 => ?_)
    clear hb' hk6 hg6
    clear hK K hHeld
    have hHeld := hHeld2
    clear hHeld2
    try simp only [Act.put, sA, sB, sC]
    refine rH [4, 7] ?_
    refine AllReadyH.cons (o := ⟨some 25, _, _, _, _, _⟩) rfl (fun K hK => ?_) (aH 28 rfl fun K hK => ?_)
    ·go_simp
     refine (sw_counter (b := s.b) (t := (lookW (lookW t 0) 1)) (HSt.out w75 hHeld)).mono ?_
     rintro e w76 ⟨rfl, rfl⟩
     rw [HHw.out.2.2.1]
     refine hK.out _ _ hHeld (fun hHeld2 => ?_)
     clear hK K hHeld
     have hHeld := hHeld2
     clear hHeld2
     try simp only [Act.put, sA, sB, sC]
     refine rH [7] ?_
     refine aH 28 rfl fun K hK => ?_
     go_simp
     have HLs : Kp (Ls (w76.alloc (.cells #[.slice A0 n0 c0, .slice A1 n1 c1] 29)) (w76.alloc (.cells #[.slice A0 n0 c0, .slice A1 n1 c1] 29)).heap.size (some ⟨w76.heap.size, 0, none⟩) 2 2 [t.s0, t.s1]) := ⟨ls_two w76 29 ((HSt.out w76 hHeld).held (A := A0) (n := n0) (c := c0) (l := t.s0) (by simp)).1 ((HSt.out w76 hHeld).held (A := A1) (n := n1) (c := c1) (l := t.s1) (by simp)).1⟩
     have hb' : Below w76.heap.size w76 (w76.alloc (.cells #[.slice A0 n0 c0, .slice A1 n1 c1] 29)) := (Below.refl _ _).alloc (Nat.le_refl _) _
     try replace HK6 : Kp _ := ⟨HK6.out.below hb' HK6.out.lt⟩
     obtain ⟨gp, hgp⟩ : ∃ g, g = w76.heap.size := ⟨_, rfl⟩
     rw [← hgp] at HLs ⊢
     refine hK.out _ _ (hHeld.trans (hb'.mono hHeld.size)) (fun hHeld2 => ?_)
     clear hb' hgp
     generalize w76.alloc (.cells #[.slice A0 n0 c0, .slice A1 n1 c1] 29) = w77 at *
     clear hK K hHeld
     have hHeld := hHeld2
     clear hHeld2
     try simp only [Act.put, sA, sB, sC]
     refine rH [8] ?_
     refine aH 29 rfl fun K hK => ?_
     go_simp
     refine (pick8_any kt s.TA 32 s.tc t.ctr (some ⟨gp, 0, none⟩) 2 2 [t.s0, t.s1] w77 ((HSt.out w77 hHeld).held (A := s.TA) (n := 32) (c := s.tc) (l := kt) (by simp [hmT])).1 HLs.out (by omega) (by have := HN.out.2; omega) (fun x hx => by simp at hx; rcases hx with rfl | rfl; exact HLn.out.1; exact HLn.out.2)).mono ?_
     rw [HC.out.1]
     rintro e w78 ⟨A', n', c', D', m', e', rfl, hr9, hb'⟩
     have HRn : Kp (RsN L0 w78 A' n' c' D' m' e' r) := ⟨hr9.low (HLz.out _ hHeld)⟩
     try replace HK6 : Kp _ := ⟨HK6.out.below hb' HK6.out.lt⟩
     refine hK.out _ _ (hHeld.trans (hb'.mono hHeld.size)) (fun hHeld2 => ?_)
     clear hb' hr9 HLs
     clear hK K hHeld
     have hHeld := hHeld2
     clear hHeld2
     try simp only [Act.put, sA, sB, sC]
     refine wU 9 20 ?_ rfl ?_
     try simp only [Act.put, sA, sB, sC]
     refine wU 10 30 ?_ rfl ?_
     try simp only [Act.put, sA, sB, sC]
     refine wU 11 31 ?_ rfl ?_
     try simp only [Act.put, sA, sB, sC]
     refine rH [13] ?_
     refine AllReadyH.cons (o := ⟨none, _, _, _, _, _⟩) rfl (fun K hK => ?_) AllReadyH.nil
     refine step_store rwSeal rfl (.tmp 6) (.tmp 30) (vs := rcL r.num r.blk A' n' c' D' m' e') rfl rfl rfl HK6.out rfl (by decide) (rcL_one _ _ _ _ _ _ _ _) ?_
     intro w79 hk9 ho9
     have HRm : Kp _ := ⟨HRn.out.over ho9 HK6.out⟩
     have HKm : Kp (Blk w79 g6 63 (rcL r.num r.blk A' n' c' D' m' e')) := ⟨by have h := hk9; simpa using h⟩
     refine hK.out _ _ (hHeld.trans (ho9.below (Nat.le_trans HLe.out HG6s.out))) (fun hHeld2 => ?_)
     clear hk9 ho9 HRn HK6
     clear hK K hHeld
     have hHeld := hHeld2
     clear hHeld2
     try simp only [Act.put]
     refine wU 14 7 ?_ rfl ?_
     try simp only [Act.put, sA, sB, sC]
     refine wpAnyH_done (by kernel_rfl) ?_ _
     have hsl9 := HC.out.2.2.2.sl
     have hsu9 := HC.out.2.2.2.su
     have hhi9 := HC.out.2.2.2.hi
     have hl9 := HRm.out.sl.len
     have hm9 := HRm.out.su.len
     have HX9 : Kp _ := ⟨HGh.out _ hHeld A' n' c' r.sl ⟨HRm.out.sl, HRm.out.fa⟩ (by omega) D' (32 * m') _ r.su.flatten ⟨Ds.flat HRm.out.su (by omega), HRm.out.fd⟩ (by omega)⟩
     clear hsl9 hsu9 hhi9 hl9 hm9
     go_wp2_with fail
     go_meet
     case rel => exact ⟨g6, A', n', c', D', m', e', rfl, rfl, HKm, ⟨HRm.out.toRs⟩, HX9⟩
    ·go_simp
     have HLs : Kp (Ls (w75.alloc (.cells #[.slice A0 n0 c0, .slice A1 n1 c1] 29)) (w75.alloc (.cells #[.slice A0 n0 c0, .slice A1 n1 c1] 29)).heap.size (some ⟨w75.heap.size, 0, none⟩) 2 2 [t.s0, t.s1]) := ⟨ls_two w75 29 ((HSt.out w75 hHeld).held (A := A0) (n := n0) (c := c0) (l := t.s0) (by simp)).1 ((HSt.out w75 hHeld).held (A := A1) (n := n1) (c := c1) (l := t.s1) (by simp)).1⟩
     have hb' : Below w75.heap.size w75 (w75.alloc (.cells #[.slice A0 n0 c0, .slice A1 n1 c1] 29)) := (Below.refl _ _).alloc (Nat.le_refl _) _
     try replace HK6 : Kp _ := ⟨HK6.out.below hb' HK6.out.lt⟩
     obtain ⟨gp, hgp⟩ : ∃ g, g = w75.heap.size := ⟨_, rfl⟩
     rw [← hgp] at HLs ⊢
     refine hK.out _ _ (hHeld.trans (hb'.mono hHeld.size)) (fun hHeld2 => ?_)
     clear hb' hgp
     generalize w75.alloc (.cells #[.slice A0 n0 c0, .slice A1 n1 c1] 29) = w80 at *
     clear hK K hHeld
     have hHeld := hHeld2
     clear hHeld2
     try simp only [Act.put, sA, sB, sC]
     refine rH [4] ?_
     refine aH 25 rfl fun K hK => ?_
     go_simp
     refine (sw_counter (b := s.b) (t := (lookW (lookW t 0) 1)) (HSt.out w80 hHeld)).mono ?_
     rintro e w81 ⟨rfl, rfl⟩
     rw [HHw.out.2.2.1]
     refine hK.out _ _ hHeld (fun hHeld2 => ?_)
     clear hK K hHeld
     have hHeld := hHeld2
     clear hHeld2
     try simp only [Act.put, sA, sB, sC]
     refine rH [8] ?_
     refine aH 29 rfl fun K hK => ?_
     go_simp
     refine (pick8_any kt s.TA 32 s.tc t.ctr (some ⟨gp, 0, none⟩) 2 2 [t.s0, t.s1] w81 ((HSt.out w81 hHeld).held (A := s.TA) (n := 32) (c := s.tc) (l := kt) (by simp [hmT])).1 HLs.out (by omega) (by have := HN.out.2; omega) (fun x hx => by simp at hx; rcases hx with rfl | rfl; exact HLn.out.1; exact HLn.out.2)).mono ?_
     rw [HC.out.1]
     rintro e w82 ⟨A', n', c', D', m', e', rfl, hr9, hb'⟩
     have HRn : Kp (RsN L0 w82 A' n' c' D' m' e' r) := ⟨hr9.low (HLz.out _ hHeld)⟩
     try replace HK6 : Kp _ := ⟨HK6.out.below hb' HK6.out.lt⟩
     refine hK.out _ _ (hHeld.trans (hb'.mono hHeld.size)) (fun hHeld2 => ?_)
     clear hb' hr9 HLs
     clear hK K hHeld
     have hHeld := hHeld2
     clear hHeld2
     try simp only [Act.put, sA, sB, sC]
     refine wU 9 20 ?_ rfl ?_
     try simp only [Act.put, sA, sB, sC]
     refine wU 10 30 ?_ rfl ?_
     try simp only [Act.put, sA, sB, sC]
     refine wU 11 31 ?_ rfl ?_
     try simp only [Act.put, sA, sB, sC]
     refine rH [13] ?_
     refine AllReadyH.cons (o := ⟨none, _, _, _, _, _⟩) rfl (fun K hK => ?_) AllReadyH.nil
     refine step_store rwSeal rfl (.tmp 6) (.tmp 30) (vs := rcL r.num r.blk A' n' c' D' m' e') rfl rfl rfl HK6.out rfl (by decide) (rcL_one _ _ _ _ _ _ _ _) ?_
     intro w83 hk9 ho9
     have HRm : Kp _ := ⟨HRn.out.over ho9 HK6.out⟩
     have HKm : Kp (Blk w83 g6 63 (rcL r.num r.blk A' n' c' D' m' e')) := ⟨by have h := hk9; simpa using h⟩
     refine hK.out _ _ (hHeld.trans (ho9.below (Nat.le_trans HLe.out HG6s.out))) (fun hHeld2 => ?_)
     clear hk9 ho9 HRn HK6
     clear hK K hHeld
     have hHeld := hHeld2
     clear hHeld2
     try simp only [Act.put]
     refine wU 14 7 ?_ rfl ?_
     try simp only [Act.put, sA, sB, sC]
     refine wpAnyH_done (by kernel_rfl) ?_ _
     have hsl9 := HC.out.2.2.2.sl
     have hsu9 := HC.out.2.2.2.su
     have hhi9 := HC.out.2.2.2.hi
     have hl9 := HRm.out.sl.len
     have hm9 := HRm.out.su.len
     have HX9 : Kp _ := ⟨HGh.out _ hHeld A' n' c' r.sl ⟨HRm.out.sl, HRm.out.fa⟩ (by omega) D' (32 * m') _ r.su.flatten ⟨Ds.flat HRm.out.su (by omega), HRm.out.fd⟩ (by omega)⟩
     clear hsl9 hsu9 hhi9 hl9 hm9
     go_wp2_with fail
     go_meet
     case rel => exact ⟨g6, A', n', c', D', m', e', rfl, rfl, HKm, ⟨HRm.out.toRs⟩, HX9⟩
  case rest =>
   obtain ⟨g6, A, n, c, D, m, e, rfl, rfl, HB6, HRs, HM⟩ := hcut
   clear HI
   go_wp2_with fail
   have HX6 : Kp (∀ W, Below wc.drew.heap.size wc.drew W → Blk W g6 63 (rcL r.num r.blk A n c D m e)) := ⟨fun W hW => HB6.out.drew.below hW HB6.out.lt⟩
   have HXm : Kp (∀ W, Below wc.drew.heap.size wc.drew W → MntI w0 w W (k + 2) s (lookW (lookW t 0) 1) Om ((D, 32 * m, (if D = none then 0 else 32 * m), r.su.flatten) :: (A, n, c, r.sl) :: hs) g1 g2) := ⟨fun W hW => (HM.out.grow (Below.refl _ _).drew).grow hW⟩
   have HXr : Kp (∀ W, Below wc.drew.heap.size wc.drew W → Rs W W.heap.size A n c D m e r) := ⟨fun W hW => HRs.out.drew.next hW (Nat.le_refl _)⟩
   refine wp_region_held_drew (S := fun W => Below wc.drew.heap.size wc.drew W) (by kernel_rfl) (Below.refl _ _) (fun hHeld => ?_)
   generalize wc.drew = wS at *
   refine wU 0 39 ?_ rfl ?_
   try simp only [Act.put, sA, sB, sC]
   refine wpAnyH_take (i := 1) (oi := ⟨some 40, _, _, _, _, _⟩) (v := _) rfl (by kernel_rfl) (by kernel_rfl) (by kernel_rfl) (fun _ _ _ h => h) (Or.inl ⟨by rfl, by intro W hW; have c : W.cell? ⟨g6, 1, none⟩ = some (.int .i64 r.blk) := (HX6.out W hW).cell? 1; go_simp; try rfl⟩) (by assumption) ?_
   try simp only [Act.put, sA, sB, sC]
   refine wU 2 41 ?_ rfl ?_
   try simp only [Act.put, sA, sB, sC]
   refine wpAnyH_take (i := 3) (oi := ⟨some 42, _, _, _, _, _⟩) (v := _) rfl (by kernel_rfl) (by kernel_rfl) (by kernel_rfl) (fun _ _ _ h => h) (Or.inl ⟨by rfl, by intro W hW; have c : W.cell? ⟨g1, 0, none⟩ = some (.pointer (some ⟨s.b, 0, none⟩)) := (HXm.out W hW).box.cell? 0; go_simp; try rfl⟩) (by assumption) ?_
   try simp only [Act.put, sA, sB, sC]
   refine rH [4] ?_
   refine aH 43 rfl fun K hK => ?_
   go_simp
   refine (sw_blocks (b := s.b) (t := (lookW (lookW t 0) 1)) (HXm.out wS hHeld).st).mono ?_
   rintro e w151 ⟨rfl, hwN⟩
   rw [HHw.out.2.1.n]
   refine hK.out _ _ (by rw [hwN]; exact hHeld) (fun hHeld2 => ?_)
   clear hwN
   clear hK K hHeld
   have hHeld := hHeld2
   clear hHeld2
   try simp only [Act.put, sA, sB, sC]
   refine wU 5 44 ?_ rfl ?_
   try simp only [Act.put, sA, sB, sC]
   refine wpAnyH_done (by kernel_rfl) ?_ _
   have HB6' : Kp _ := ⟨HX6.out _ hHeld⟩
   have HM' : Kp _ := ⟨HXm.out _ hHeld⟩
   have HRs' : Kp _ := ⟨HXr.out _ hHeld⟩
   obtain ⟨wn, hwn⟩ : ∃ x, x = w151 := ⟨_, rfl⟩
   rw [← hwn] at HB6' HM' HRs' ⊢
   clear hwn hHeld HX6 HXm HXr
   have hbl := HC.out.2.2.1
   go_wp2_with fail
   have HX6 : Kp (∀ W, Below wn.drew.heap.size wn.drew W → Blk W g6 63 (rcL r.num r.blk A n c D m e)) := ⟨fun W hW => HB6'.out.drew.below hW HB6'.out.lt⟩
   have HXm : Kp (∀ W, Below wn.drew.heap.size wn.drew W → MntI w0 w W (k + 2) s (lookW (lookW t 0) 1) Om ((D, 32 * m, (if D = none then 0 else 32 * m), r.su.flatten) :: (A, n, c, r.sl) :: hs) g1 g2) := ⟨fun W hW => (HM'.out.grow (Below.refl _ _).drew).grow hW⟩
   have HXr : Kp (∀ W, Below wn.drew.heap.size wn.drew W → Rs W W.heap.size A n c D m e r) := ⟨fun W hW => HRs'.out.drew.next hW (Nat.le_refl _)⟩
   refine wp_region_held_drew (S := fun W => Below wn.drew.heap.size wn.drew W) (by kernel_rfl) (Below.refl _ _) (fun hHeld => ?_)
   generalize wn.drew = wS at *
   refine wU 0 49 ?_ rfl ?_
   try simp only [Act.put, sA, sB, sC]
   refine wpAnyH_take (i := 1) (oi := ⟨some 50, _, _, _, _, _⟩) (v := _) rfl (by kernel_rfl) (by kernel_rfl) (by kernel_rfl) (fun _ _ _ h => h) (Or.inl ⟨by rfl, by intro W hW; have c : W.cell? ⟨g6, 0, none⟩ = some (.int .u64 (r.num : Int)) := (HX6.out W hW).cell? 0; go_simp; try rfl⟩) (by assumption) ?_
   try simp only [Act.put, sA, sB, sC]
   refine wU 2 51 ?_ rfl ?_
   try simp only [Act.put, sA, sB, sC]
   refine wpAnyH_take (i := 3) (oi := ⟨some 52, _, _, _, _, _⟩) (v := _) rfl (by kernel_rfl) (by kernel_rfl) (by kernel_rfl) (fun _ _ _ h => h) (Or.inl ⟨by rfl, by intro W hW; have c : W.cell? ⟨g1, 0, none⟩ = some (.pointer (some ⟨s.b, 0, none⟩)) := (HXm.out W hW).box.cell? 0; go_simp; try rfl⟩) (by assumption) ?_
   try simp only [Act.put, sA, sB, sC]
   refine rH [4] ?_
   refine aH 53 rfl fun K hK => ?_
   go_simp
   refine (sw_counter (b := s.b) (t := (lookW (lookW t 0) 1)) (HXm.out wS hHeld).st).mono ?_
   rintro e w251 ⟨rfl, hwN⟩
   rw [HHw.out.2.2.1]
   refine hK.out _ _ (by rw [hwN]; exact hHeld) (fun hHeld2 => ?_)
   clear hwN
   clear hK K hHeld
   have hHeld := hHeld2
   clear hHeld2
   try simp only [Act.put, sA, sB, sC]
   refine wU 5 54 ?_ rfl ?_
   try simp only [Act.put, sA, sB, sC]
   refine wpAnyH_done (by kernel_rfl) ?_ _
   have HB7 : Kp _ := ⟨HX6.out _ hHeld⟩
   have HM7 : Kp _ := ⟨HXm.out _ hHeld⟩
   have HR7 : Kp _ := ⟨HXr.out _ hHeld⟩
   obtain ⟨wm, hwm⟩ : ∃ x, x = w251 := ⟨_, rfl⟩
   rw [← hwm] at HB7 HM7 HR7 ⊢
   clear hwm hHeld HX6 HXm HXr
   have hnm := HC.out.2.1
   go_upto_region 13 with fail
   clear hnm hbl
   have HRt : Kp (Rt ⟨N, r.blk, r.sl, r.su⟩ ∧ r.sl.length ≤ 600 ∧ r.su.length ≤ 300) := ⟨rt_num HC.out.2.2.2, by have h1 := HC.out.2.2.2.sl; have h2 := HC.out.2.2.2.hi; omega, by have h1 := HC.out.2.2.2.su; have h2 := HC.out.2.2.2.hi; omega⟩
   have HLn9 : Kp ((encL kt ⟨N, r.blk, r.sl, r.su⟩).length ≤ 1000000) := ⟨by
    rw [encL_len kt ⟨N, r.blk, r.sl, r.su⟩ ⟨by show N < _; have := HN.out; omega, HR7.out.su.wide⟩]
    show 48 + r.sl.length + 32 * r.su.length ≤ _
    have := HRt.out; omega⟩
   have hi01 : (((N % 2 : Nat)) : Int) = 0 ∨ ((N % 2 : Nat) : Int) = 1 := by omega
   have HSe : Kp _ := ⟨hw_seal HHw.out.1 hi01 (encL kt ⟨N, r.blk, r.sl, r.su⟩)⟩
   have HBm : Kp _ := ⟨hw_bump HSe.out.2.1 (by rw [HSe.out.2.2.2.2.1, HHw.out.2.1.ctr]; have := HN.out; omega)⟩
   clear hi01
   have hN1 : N = r.num + 1 := by rw [HC.out.2.1]; exact HN.out.1
   have hN2 : N < 18446744073709551616 := by have := HN.out; omega
   have HN1 : Kp _ := ⟨And.intro hN1 hN2⟩
   clear hN1 hN2
   go_wp2_with (first
    | (with_reducible refine wpList_loadAll (o := ⟨some 61, _, _, _, _, _⟩) rwSto rfl (.tmp 1) rfl rfl HM7.out.box HSl.out.1 ?_)
    | (with_reducible refine wpList_loadAll (o := ⟨some 62, _, _, _, _, _⟩) rwSeal rfl (.tmp 6) rfl rfl HB7.out rfl ?_))
   refine (scert_any HM7.out.st (by omega) HSl.out.2 kt (List.mem_cons_of_mem _ (List.mem_cons_of_mem _ hmT)) r A n c D m e HR7.out N HN1.out.1 HN1.out.2 HRt.out.1 HLn9.out HSe.out.1 HBm.out.1).mono ?_
   rintro x w7 ⟨rfl, h7, k7⟩
   have H7 : Kp _ := ⟨h7⟩
   have HK7 : Kp _ := ⟨k7.blk HM7.out.res (.inr rfl)⟩
   have HKe7 : Kp (Keep Om w w7) := ⟨HM7.out.keep.trans (k7.less fun _ h => .inl (.inl h))⟩
   have HRs7 : Kp (Rg ⟨N, r.blk, r.sl, r.su⟩ ∧ m ≤ 300 ∧ (Ds wm wm.heap.size D m e r.su) ∧ -9223372036854775808 ≤ r.blk ∧ r.blk < 9223372036854775808) := ⟨⟨HN1.out.2, HR7.out.su.wide⟩, by have h1 := HR7.out.su.len; have := HRt.out; omega, HR7.out.su, HR7.out.blk⟩
   clear h7 k7 HSe HBm HLn9 HB7 HM7 HR7
   go_wp2_with (with_reducible refine wpList_storeAll (o := ⟨none, _, _, _, _, _⟩) (vs := rcL N r.blk A n c D m e) rwSeal rfl (.tmp 2) (.tmp 64) rfl rfl HK7.out rfl rfl (rcL_one _ _ _ _ _ _ _ _) rfl ?_)
   intro w9 hk9 ho9
   have HK9 : Kp _ := ⟨hk9⟩
   have H9 : Kp _ := ⟨(H7.out.only ho9 (.inr rfl)).less (Om' := Om) (fun _ h => .inl (.inl h))⟩
   have HKe9 : Kp (Keep Om w w9) := ⟨HKe7.out.trans (Keep.only ho9 (fun h9 => by have := HG.out _ h9; have := HGs.out; omega))⟩
   clear hk9 ho9 H7 HKe7 HK7
   go_wp2
   refine ret_two rfl rwSeal rfl rfl HK9.out rfl rfl ?_
   have h1 := H9.out.held (A := A) (n := n) (c := c) (l := r.sl) (by simp)
   have h2 := H9.out.held (A := D) (n := 32 * m) (c := if D = none then 0 else 32 * m) (l := r.su.flatten) (by simp)
   exact ⟨A, n, c, D, m, e, rfl, HKe9.out, ⟨HN1.out.2, HRs7.out.2.2.2, h1.1, Ds.unflat HRs7.out.2.2.1 h2.1⟩, H9.out⟩
end
end Go.Proofs.YtcehkafddlfleaaGreatDoor
