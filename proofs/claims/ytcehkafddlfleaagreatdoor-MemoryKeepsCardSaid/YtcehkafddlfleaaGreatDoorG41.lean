/-  -/
import Derived.Test.YtcehkafddlfleaaGreatDoorG02
import Derived.Test.YtcehkafddlfleaaGreatDoorG40
import Derived.Deep.RegionHeld3
namespace Go.Proofs.YtcehkafddlfleaaGreatDoor
open Go.RowKit
theorem infoDg : ((Tryz.prog).info? 173).map (fun i => (i.zero, i.size, i.bytes)) = some (some (.agg zero32.toArray), 32, 32) := by kernel_rfl
theorem infoU8 : ((Tryz.prog).info? 5).map (fun i => (i.zero, i.size, i.bytes)) = some (some (.int .u8 0), 1, 1) := by kernel_rfl
theorem made_u8 (n : Nat) : (madeCells #[Value.int .u8 0] (n * 1)).toList = cells8 (List.replicate n 0) := by
 rw [show cells8 (List.replicate n (0 : UInt8)) = List.replicate n (.int .u8 0) by simp [cells8]]
 refine List.eq_replicate_iff.2 ⟨by simp [madeCells], fun v hv => ?_⟩
 simp only [madeCells, Array.toList_map, Array.toList_range, List.mem_map] at hv
 obtain ⟨i, _, rfl⟩ := hv
 simp [Nat.mod_one]
theorem seal_built (E : Nat) (n : Nat) (A : Option Addr) (a c : Nat) (D : Option Addr) (m e : Nat) : (Tryz.prog).built 63 [(0, .int .u64 (E : Int)), (1, .int .i64 (n : Int)), (2, .slice A a c), (3, .slice D m e)] = some (rcL E n A a c D m e).toArray := by kernel_rfl
section
variable {w0 w : World} {k : Nat} {t : Wd} {Om : Nat → Prop} {hs : List Held} {s : Sto}
structure FmtI (w0 w wr : World) (k : Nat) (s : Sto) (t : Wd) (Om : Nat → Prop) (hs : List Held) (ks : List UInt8) (E P g1 gs i : Nat) : Prop where
 st : StM w0 wr (k + i) s.b (fmtW s.hk E t i) (fun j => (Om j ∨ j = g1) ∨ j = gs) hs
 box : Blk wr g1 119 (stL s)
 row : Blk wr gs 173 (cells8 (sumF s.hk ks E P i).flatten)
 keep : Keep Om w wr
set_option maxRecDepth 100000 in
set_option maxHeartbeats 8000000 in
theorem sformat_any (h : StM w0 w k s.b t Om hs) (hk : k + t.n + 3 ≤ 1000000) (hKy : s.hk.length = 16) (ks kt : List UInt8) (hmS : (s.SA, 32, s.sc, ks) ∈ hs) (hmT : (s.TA, 32, s.tc, kt) ∈ hs) (hH : Hw t) (hsl : ∀ x, inR t.n x = true → (t.sl x).length = 272) (hn : t.n ≤ 4096) (hc : t.ctr + 2 < 18446744073709551615) (E : Nat) (hEe : E = t.ctr + 1) :
  Calls Tryz.prog 50 #[.agg (stL s).toArray] w fun x w' => x = .returned .nilIface ∧ Keep Om w w' ∧
   StM w0 w' (k + t.n + 3) s.b (bumpW (sealedW (fmtW s.hk E (bumpW t) t.n) (((E + 1) % 2 : Nat) : Int) (encL kt ⟨E + 1, t.n, List.replicate ((t.n + 7) / 8) 0, sumF s.hk ks E ((t.n + 15) / 16) t.n⟩))) Om hs := by
 obtain ⟨hb1', hb2', hb3', hb4', hb5', hb6', hb7'⟩ := hw_bump hH (by omega)
 have HHw : Kp (Hw (bumpW t) ∧ (bumpW t).n = t.n ∧ (∀ x, inR (bumpW t).n x = true → ((bumpW t).sl x).length = 272) ∧ ctrW (bumpW t) = E) := ⟨hb2', hb4', fun x hx => by rw [hb5']; rw [hb4'] at hx; exact hsl x hx, by unfold ctrW; rw [if_neg (by rw [hb2'.lost]; simp), hb3', hEe]⟩
 have HE : Kp (E < 18446744073709551614) := ⟨by omega⟩
 have HBu : Kp _ := ⟨hb1'⟩
 have HCt : Kp ((bumpW t).ctr = E) := ⟨by rw [hb3', hEe]⟩
 have H : Kp _ := ⟨h⟩
 have HSl : Kp ((stL s).length = 19 ∧ s.hk.length = 16) := ⟨stL_length s hKy, hKy⟩
 obtain ⟨n, hnn⟩ : ∃ n, n = t.n := ⟨_, rfl⟩
 have HNn : Kp (t.n = n) := ⟨hnn.symm⟩
 rw [← hnn] at hk hn
 rw [HNn.out] at HHw
 clear h hH hsl hc hEe hb1' hb2' hb3' hb4' hb5' hb6' hb7' hnn
 go_enter Tryz.func50, Tryz.ntmps50
 go_wp2_with (with_reducible refine wpList_box (o := ⟨some 1, _, _, _, _, _⟩) (cs := stL s) rfl (.tmp 0) rfl rfl ?_)
 intro w1 hk1 hb1 hs1
 have H1 : Kp _ := ⟨H.out.box hk1 hb1⟩
 have HG1 : Kp _ := ⟨hk1⟩
 have HKe1 : Kp _ := ⟨H.out.keepBelow hb1⟩
 obtain ⟨g1, hg1⟩ : ∃ g, g = w.heap.size := ⟨_, rfl⟩
 have HG : Kp (∀ j, Om j → j < g1) := ⟨fun j hj => by rw [hg1]; exact (H.out.lt hj).2⟩
 rw [← hg1] at HG1 H1 ⊢
 clear hk1 hb1 hs1 H hg1
 go_wp2_with (with_reducible refine wpList_loadAll (o := ⟨some 14, _, _, _, _, _⟩) rwSto rfl (.tmp 1) rfl rfl HG1.out HSl.out.1 ?_)
 refine (sbump_any H1.out (by omega) HBu.out).mono ?_
 rintro x w2 ⟨rfl, h2, k2⟩
 have H2 : Kp _ := ⟨h2⟩
 have HG2 : Kp _ := ⟨k2.blk HG1.out (.inr rfl)⟩
 have HKe2 : Kp (Keep Om w w2) := ⟨HKe1.out.trans (k2.less fun _ h => .inl h)⟩
 clear h2 k2 H1 HG1 HKe1
 go_upto_region 4 with fail
 go_cut [4, 5] from 19 to 24 (fun v4 v5 wx => v4 = .int .u64 (E : Int) ∧ v5 = .int .i64 (n : Int) ∧ wx = w2.drew)
 case first =>
  have HSt : Kp (∀ W, W = w2.drew → StM w0 W (k + 1) s.b (bumpW t) (fun j => Om j ∨ j = g1) hs) := ⟨fun W hW => by rw [hW]; exact H2.out.drew⟩
  have HC0 : Kp (w2.drew.cell? ⟨g1, 0, none⟩ = some (.pointer (some ⟨s.b, 0, none⟩))) := ⟨HG2.out.drew.cell? 0⟩
  go_wp2_with fail
  refine wp_region_held_drew (S := fun W => W = w2.drew) (by kernel_rfl) (rfl) (fun hHeld => ?_)
  generalize w2.drew = wS at *
  refine wU 0 19 ?_ rfl ?_
  try simp only [Act.put, sA, sB, sC]
  refine wpAnyH_take (i := 1) (oi := ⟨some 20, _, _, _, _, _⟩) (v := _) rfl (by kernel_rfl) (by kernel_rfl) (by kernel_rfl) (fun _ _ _ h => h) (Or.inl ⟨by rfl, by intro W hW; subst hW; have c := HC0.out; go_simp; try rfl⟩) (by assumption) ?_
  try simp only [Act.put, sA, sB, sC]
  refine wU 3 22 ?_ rfl ?_
  try simp only [Act.put, sA, sB, sC]
  refine wpAnyH_take (i := 4) (oi := ⟨some 23, _, _, _, _, _⟩) (v := _) rfl (by kernel_rfl) (by kernel_rfl) (by kernel_rfl) (fun _ _ _ h => h) (Or.inl ⟨by rfl, by intro W hW; subst hW; have c := HC0.out; go_simp; try rfl⟩) (by assumption) ?_
  try simp only [Act.put, sA, sB, sC]
  refine rH [2] ?_
  refine aH 21 rfl fun K hK => ?_
  go_simp
  refine (sw_counter (b := s.b) (t := bumpW t) (HSt.out wS hHeld)).mono ?_
  rintro e w51 ⟨rfl, hwN⟩
  rw [HHw.out.2.2.2]
  refine hK.out _ _ (hwN.trans hHeld) (fun hHeld2 => ?_)
  clear hwN
  clear hK K hHeld
  have hHeld := hHeld2
  clear hHeld2
  try simp only [Act.put, sA, sB, sC]
  refine rH [5] ?_
  refine aH 24 rfl fun K hK => ?_
  go_simp
  first | refine (sw_blocks (b := s.b) (t := bumpW t) (HSt.out w51 hHeld)).mono ?_ | refine (sw_blocks (b := s.b) (t := bumpW t) (HSt.out _ rfl)).mono ?_
  rintro e w52 ⟨rfl, hwN⟩
  rw [HHw.out.2.1]
  refine hK.out _ _ (by first | exact hwN | exact hwN.trans hHeld) (fun hHeld2 => ?_)
  clear hwN
  clear hK K hHeld
  have hHeld := hHeld2
  clear hHeld2
  try simp only [Act.put, sA, sB, sC]
  refine wU 6 4 ?_ rfl ?_
  try simp only [Act.put, sA, sB, sC]
  refine wU 7 5 ?_ rfl ?_
  try simp only [Act.put, sA, sB, sC]
  refine wpAnyH_done (by kernel_rfl) ?_ _
  go_wp2_with fail
  go_meet
  case rel => exact ⟨rfl, rfl, hHeld⟩
 case rest =>
  obtain ⟨rfl, rfl, rfl⟩ := hcut
  have H3 : Kp _ := ⟨H2.out.drew⟩
  have HG3 : Kp _ := ⟨HG2.out.drew⟩
  have HKe3 : Kp _ := ⟨HKe2.out.drew⟩
  generalize w2.drew = w3 at *
  clear H2 HG2 HKe2
  obtain ⟨P, hP⟩ : ∃ P, P = (n + 15) / 16 := ⟨_, rfl⟩
  have HP : Kp (P = (n + 15) / 16 ∧ P ≤ 256) := ⟨hP, by omega⟩
  go_wp2_with fail
  refine (p16_any n P w3 (by omega) hP.symm).mono ?_
  rintro x w4 ⟨rfl, rfl⟩
  obtain ⟨iD, hiD, hz0, hz1, hz2⟩ := info_parts infoDg
  have HIn : Kp _ := ⟨And.intro hiD (And.intro hz0 hz1)⟩
  have HIb : Kp (iD.bytes * P ≤ 281474976710656) := ⟨by rw [hz2]; have := HP.out.2; omega⟩
  have hP9 := HP.out.2
  clear hiD hz0 hz1 hz2 hP
  go_wp2_with (with_reducible refine wpList_make_full (o := ⟨some 27, _, _, _, _, _⟩) w4 rfl (.tmp 26) (.tmp 26) 61 rfl w4.heap.size 173 iD (.agg zero32.toArray) 32 Tryz.underlying61 HIn.out.1 HIn.out.2.1 HIn.out.2.2 .i64 .i64 _ _ P rfl rfl rfl rfl HIb.out (by simp only [maxLen]; omega) (Nat.le_refl _) ?_)
  intro w5 hown5 hg5
  have hb5 : Below w4.heap.size w4 w5 := (Below.refl _ _).grown hg5 (Nat.le_refl _) (by simp)
  have hkr := fullN hown5
  rw [made_zero P] at hkr
  obtain ⟨gs, hgs⟩ : ∃ g, g = w4.heap.size := ⟨_, rfl⟩
  have HGs : Kp (g1 < gs) := ⟨by rw [hgs]; exact HG3.out.lt⟩
  have HI0 : Kp (FmtI w0 w w5 (k + 1) s (bumpW t) Om hs ks E P g1 gs 0) := ⟨⟨by have h9 := H3.out.box hkr hb5; rw [← hgs] at h9; exact h9, HG3.out.below hb5 HG3.out.lt, by rw [hgs]; exact hkr, HKe3.out.trans ((H3.out.keepBelow hb5).less fun _ h => .inl h)⟩⟩
  rw [← hgs]
  clear hown5 hg5 hb5 hkr hgs H3 HG3 HKe3 HIn HIb
  go_wp2
  go_loopg [29] n (fun gk v29 wr => ∃ i : Nat, i + gk = n ∧ v29 = .int .i64 i ∧ Kp (FmtI w0 w wr (k + 1) s (bumpW t) Om hs ks E P g1 gs i))
  case atStart => exact ⟨0, by omega, rfl, HI0⟩
  case round =>
   clear HI0
   obtain ⟨i, hi, rfl, HI⟩ := hrel
   cases gk with
   | zero =>
    have hlt : ¬ ((i : Int) < (n : Int)) := by omega
    obtain rfl : i = n := by omega
    have hnI : (i : Int) < 100000 := by omega
    obtain ⟨G, hG⟩ : ∃ G, G = (i + 7) / 8 := ⟨_, rfl⟩
    have HGn : Kp (G = (i + 7) / 8 ∧ G ≤ 600) := ⟨hG, by omega⟩
    have h8 : ((i : Int) + 8 - 1).tdiv 8 = (G : Int) := by rw [Int.tdiv_eq_ediv_of_nonneg (by omega)]; omega
    have h8b : ((i : Int) + 7).tdiv 8 = (G : Int) := by rw [Int.tdiv_eq_ediv_of_nonneg (by omega)]; omega
    obtain ⟨iU, hiU, hu0, hu1, hu2⟩ := info_parts infoU8
    have HUn : Kp _ := ⟨And.intro hiU (And.intro hu0 hu1)⟩
    have HUb : Kp (iU.bytes * G ≤ 281474976710656) := ⟨by rw [hu2]; have := HGn.out.2; omega⟩
    have hG9 := HGn.out.2
    clear hiU hu0 hu1 hu2 hG
    go_wp2_with (with_reducible refine wpList_make_full (o := ⟨some 59, _, _, _, _, _⟩) wr rfl (.tmp 58) (.tmp 58) 29 rfl wr.heap.size 5 iU (.int .u8 0) 1 Tryz.underlying29 HUn.out.1 HUn.out.2.1 HUn.out.2.2 .i64 .i64 _ _ G rfl rfl (by first | rfl | exact h8 | exact h8b) (by first | rfl | exact h8 | exact h8b) HUb.out (by simp only [maxLen]; omega) (Nat.le_refl _) ?_)
    intro w6 hown6 hg6
    have hb6 : Below wr.heap.size wr w6 := (Below.refl _ _).grown hg6 (Nat.le_refl _) (by simp)
    have hown : w6.ownsRow wr.heap.size 5 1 (.slice (some ⟨wr.heap.size, 0, none⟩) G G) G (cells8 (List.replicate G 0)) := by rw [← made_u8, Nat.mul_one]; exact hown6
    obtain ⟨gb, hgb⟩ : ∃ g, g = wr.heap.size := ⟨_, rfl⟩
    rw [← hgb] at hown ⊢
    have H6 : Kp _ := ⟨HI.out.st.growHold hb6 ⟨Bs.of_own' hown, Fr.low (Fr.own hown) (Nat.le_of_eq hgb.symm)⟩ (by omega)⟩
    have HG6 : Kp _ := ⟨HI.out.box.below hb6 HI.out.box.lt⟩
    have HR6 : Kp _ := ⟨HI.out.row.below hb6 HI.out.row.lt⟩
    have HKe6 : Kp (Keep Om w w6) := ⟨HI.out.keep.trans ((HI.out.st.keepBelow hb6).less fun _ h => .inl (.inl h))⟩
    have HBy : Kp _ := ⟨Bs.of_own' hown⟩
    clear hown6 hg6 hb6 hown hgb HI h8 h8b HUn HUb
    obtain ⟨S, hS⟩ : ∃ S, S = sumF s.hk ks E P i := ⟨_, rfl⟩
    have HS : Kp (S = sumF s.hk ks E P i ∧ S.length = P ∧ (∀ d ∈ S, d.length = 32)) := ⟨hS, by rw [hS, sumF_len], by rw [hS]; exact sumF_wide _ _ _ _ _⟩
    rw [← hS] at HR6
    clear hS
    have HDs : Kp (Ds w6 w6.heap.size (some ⟨gs, 0, none⟩) P P S) := ⟨⟨HS.out.2.1, Nat.le_refl _, by simp only [maxLen]; omega, (fun h => by cases h), HS.out.2.2, fun _ => ⟨gs, 0, rfl, HR6.out.lt, fun j hj => HR6.out.range (by rw [Nat.zero_add]; exact flat9_at S HS.out.2.2 j hj)⟩⟩⟩
    have HRs : Kp (Rs w6 w6.heap.size (some ⟨gb, 0, none⟩) G G (some ⟨gs, 0, none⟩) P P ⟨E, (i : Int), List.replicate G 0, S⟩) := ⟨⟨by have := HE.out; show E < _; omega, by show -9223372036854775808 ≤ (i : Int) ∧ (i : Int) < 9223372036854775808; omega, HBy.out, HDs.out⟩⟩
    have HRt : Kp (Rt ⟨E + 1, (i : Int), List.replicate G 0, S⟩) := ⟨⟨by show (0 : Int) ≤ (i : Int); omega, by show (i : Int) ≤ 4096; omega, by show (List.replicate G (0 : UInt8)).length = _; rw [List.length_replicate, HGn.out.1]; rfl, by show S.length = _; rw [HS.out.2.1, HP.out.1]; rfl, fun j _ _ => by
     show slotN (List.replicate G 0) j = 0
     unfold slotN
     rw [List.getD_eq_getElem?_getD, List.getElem?_replicate]
     split <;> simp⟩⟩
    have HLn : Kp ((encL kt ⟨E + 1, (i : Int), List.replicate G 0, S⟩).length ≤ 1000000) := ⟨by
     rw [encL_len kt _ ⟨by show E + 1 < _; have := HE.out; omega, HS.out.2.2⟩]
     show 48 + (List.replicate G (0 : UInt8)).length + 32 * S.length ≤ _
     rw [List.length_replicate, HS.out.2.1]; have := HP.out.2; omega⟩
    have HFm : Kp _ := ⟨fmt_hon HHw.out.1 HHw.out.2.2.1 s.hk E i (by rw [HHw.out.2.1]; exact Nat.le_refl _)⟩
    have hi01 : (((E + 1) % 2 : Nat) : Int) = 0 ∨ (((E + 1) % 2 : Nat) : Int) = 1 := by omega
    have HSe : Kp _ := ⟨hw_seal HFm.out.1 hi01 (encL kt ⟨E + 1, (i : Int), List.replicate G 0, S⟩)⟩
    have HBm : Kp _ := ⟨hw_bump HSe.out.2.1 (by rw [HSe.out.2.2.2.2.1, HFm.out.2.2.2.2.1, HCt.out]; have := HE.out; omega)⟩
    clear hi01
    have hEx := HE.out
    go_wp2_with (first
     | (with_reducible refine wpList_loadAll (o := ⟨some 61, _, _, _, _, _⟩) rwSto rfl (.tmp 1) rfl rfl HG6.out HSl.out.1 ?_)
     | (with_reducible refine wpList_build4 (o := ⟨some 66, _, _, _, _, _⟩) (v := .int .u64 (E : Int)) (u := .int .i64 (i : Int)) (s := .slice (some ⟨gb, 0, none⟩) G G) (r := .slice (some ⟨gs, 0, none⟩) P P) rfl 0 1 2 3 (.tmp 62) (.tmp 63) (.tmp 64) (.tmp 65) rfl rfl rfl rfl rfl (seal_built E i _ G G _ P P) ?_))
    refine (scert_any H6.out (by omega) HSl.out.2 kt (List.mem_cons_of_mem _ hmT) ⟨E, (i : Int), List.replicate G 0, S⟩ (some ⟨gb, 0, none⟩) G G (some ⟨gs, 0, none⟩) P P HRs.out (E + 1) rfl (by omega) HRt.out HLn.out HSe.out.1 HBm.out.1).mono ?_
    rintro x w7 ⟨rfl, h7, k7⟩
    have H7 : Kp _ := ⟨(h7.less (Om' := Om) (fun _ h => .inl (.inl h))).forget (hs' := hs) (fun _ h => List.mem_cons_of_mem _ h)⟩
    have HKe7 : Kp (Keep Om w w7) := ⟨HKe6.out.trans (k7.less fun _ h => .inl (.inl h))⟩
    clear h7 k7 H6 HG6 HR6 HKe6 HBy HDs HRs HRt HLn HSe HBm HFm
    go_wp2_with (with_reducible refine wpList_alloc (o := ⟨some 12, _, _, _, _, _⟩) tySeal rfl rfl ?_)
    intro w8 hk8 hb8 hs8
    have HK8 : Kp _ := ⟨And.intro hk8 hb8⟩
    clear hk8 hb8 hs8
    go_wp2_with (with_reducible refine wpList_storeAll (o := ⟨none, _, _, _, _, _⟩) (vs := rcL (E + 1) (i : Int) (some ⟨gb, 0, none⟩) G G (some ⟨gs, 0, none⟩) P P) rwSeal rfl (.tmp 12) (.tmp 68) rfl rfl HK8.out.1 rfl rfl (rcL_one _ _ _ _ _ _ _ _) rfl ?_)
    intro w9 hk9 ho9
    have HB9 : Kp (Below w7.heap.size w7 w9) := ⟨HK8.out.2.trans (ho9.below (Nat.le_refl _))⟩
    clear hk9 ho9 HK8
    go_wp2
    go_ret
    rw [HNn.out, show k + i + 3 = k + 1 + i + 2 by omega, ← HGn.out.1, ← HP.out.1, ← HS.out.1]
    exact ⟨rfl, HKe7.out.trans (H7.out.keepBelow HB9.out), H7.out.grow HB9.out⟩
   | succ gk =>
    have hlt : (i : Int) < (n : Int) := by omega
    have hin : i < n := by omega
    have HG1 : Kp _ := ⟨HI.out.box⟩
    go_wp2_with (with_reducible refine wpList_loadAll (o := ⟨some 33, _, _, _, _, _⟩) rwSto rfl (.tmp 1) rfl rfl HG1.out HSl.out.1 ?_)
    refine (swrite_any HI.out.st (by omega) HSl.out.2 (i : Int) 0 ⟨WalkArith.wf_i64 (by omega), by show (Lit.int .i64 0).wf = true; decide⟩ E i (by have := HE.out; omega) (by omega) none 0 0 [] (Bs.zero _ _) (by omega) (fmt_can HHw.out.1 HHw.out.2.2.1 s.hk E i (by rw [HHw.out.2.1]; exact hin))).mono ?_
    rintro x w6 ⟨B, d, rfl, h6, k6⟩
    have H6 : Kp _ := ⟨h6⟩
    have HG6 : Kp _ := ⟨k6.blk HG1.out (.inl (.inr rfl))⟩
    have HR6 : Kp _ := ⟨k6.blk HI.out.row (.inr rfl)⟩
    have HKe6 : Kp (Keep Om w w6) := ⟨HI.out.keep.trans (k6.less fun _ h => .inl (.inl h))⟩
    clear h6 k6 HG1 HI
    obtain ⟨S, hS⟩ : ∃ S, S = sumF s.hk ks E P i := ⟨_, rfl⟩
    have HS : Kp (S = sumF s.hk ks E P i ∧ S.length = P ∧ (∀ d ∈ S, d.length = 32)) := ⟨hS, by rw [hS, sumF_len], by rw [hS]; exact sumF_wide _ _ _ _ _⟩
    rw [← hS] at HR6
    clear hS
    obtain ⟨q, hq⟩ : ∃ q, q = i / 16 := ⟨_, rfl⟩
    have hqP : q < P := by have := HP.out.1; omega
    have hqI : (i : Int).tdiv 16 = (q : Int) := by rw [Int.tdiv_eq_ediv_of_nonneg (by omega)]; omega
    have hqI2 : (q : Int) < (P : Int) := by omega
    have hqw : IntKind.i64.wrap (q : Int) = (q : Int) := by rw [IntKind.wrap_i64]; omega
    have HQ : Kp (q = i / 16 ∧ q < S.length) := ⟨hq, by rw [HS.out.2.1]; exact hqP⟩
    clear hq
    have hB9 : Below w6.heap.size w6 w6 := Below.refl _ _
    go_wp2_with fail
    have HG66 : Kp _ := ⟨HG6.out⟩
    refine wp_region_any (by kernel_rfl) ?_
    change wpAny _ _ _ _ _ _ _ w6.drew
    replace HG66 : Kp _ := ⟨HG66.out.drew⟩
    replace hB9 := hB9.drew
    generalize w6.drew = wS at *
    refine wT 1 44 ?_ rfl ?_
    try simp only [Act.put, sA, sB, sC]
    refine wT 2 45 ?_ rfl ?_
    try simp only [Act.put, sA, sB, sC]
    refine wT 3 46 ?_ rfl ?_
    try simp only [Act.put, sA, sB, sC]
    refine wT 4 47 ?_ rfl ?_
    try simp only [Act.put, sA, sB, sC]
    refine rK [0, 5] ?_
    refine aS 43 48 rfl rfl (fun K hK => ?_) fun K hK => ?_
    ·refine step_load rwSto rfl (.tmp 1) rfl rfl HG66.out (Nat.le_of_eq (by rw [HSl.out.1])) (by rw [List.drop_zero, List.take_of_length_le (Nat.le_of_eq HSl.out.1)]) ?_
     refine hK _ _ ?_
     clear hK K
     try simp only [Act.put, sA, sB, sC]
     refine rK [5] ?_
     refine aR 48 rfl fun K hK => ?_
     go_simp
     refine hK _ _ ?_
     clear hK K
     try simp only [Act.put, sA, sB, sC]
     have hbA : Below wS.heap.size wS (wS.alloc (.cells #[.pointer (some ⟨gs, q * 32, none⟩)] 171)) := (Below.refl _ _).alloc (Nat.le_refl _) _
     have HPt : Kp ((wS.alloc (.cells #[.pointer (some ⟨gs, q * 32, none⟩)] 171)).cell? ⟨wS.heap.size, 0, none⟩ = some (.pointer (some ⟨gs, q * 32, none⟩)) ∧ wS.heap.size < (wS.alloc (.cells #[.pointer (some ⟨gs, q * 32, none⟩)] 171)).heap.size ∧ gs ≠ wS.heap.size) := ⟨(Blk.new wS 171 [.pointer (some ⟨gs, q * 32, none⟩)]).cell? 0, by simp, by have h1 := HR6.out.lt; have h2 := hB9.size; omega⟩
     replace HG66 : Kp _ := ⟨HG66.out.below hbA HG66.out.lt⟩
     replace hB9 := hB9.trans (hbA.mono hB9.size)
     clear hbA
     obtain ⟨gp, hgp⟩ : ∃ g, g = wS.heap.size := ⟨_, rfl⟩
     rw [← hgp] at HPt ⊢
     generalize wS.alloc (.cells #[.pointer (some ⟨gs, q * 32, none⟩)] 171) = w61 at *
     clear hgp
     refine rK [6] ?_
     refine aR 49 rfl fun K hK => ?_
     go_simp
     refine (folder_any (s := s) (some ⟨gp, 0, none⟩) 1 1 w61).mono ?_
     rintro x w62 ⟨gA, gB, rfl, hgA, hgB, hkA, hkB, hb'⟩
     have HF : Kp _ := ⟨And.intro hkA hkB⟩
     replace HPt : Kp (w62.cell? ⟨gp, 0, none⟩ = some (.pointer (some ⟨gs, q * 32, none⟩)) ∧ gp < w62.heap.size ∧ gs ≠ gp) := ⟨(hb'.cell HPt.out.2.1).trans HPt.out.1, Nat.lt_of_lt_of_le HPt.out.2.1 hb'.size, HPt.out.2.2⟩
     replace hB9 := hB9.trans (hb'.mono hB9.size)
     clear hb' hkA hkB hgA hgB HG66
     refine hK _ _ ?_
     clear hK K
     try simp only [Act.put, sA, sB, sC]
     refine wT 7 10 ?_ rfl ?_
     try simp only [Act.put, sA, sB, sC]
     refine wpAny_done (by kernel_rfl) ?_ _
     obtain ⟨w8, hw8⟩ : ∃ x, x = w62 := ⟨_, rfl⟩
     rw [← hw8] at HF HPt hB9 ⊢
     clear hw8
     have H8 : Kp _ := ⟨H6.out.grow hB9⟩
     have HK8 : Kp _ := ⟨H6.out.keepBelow hB9⟩
     have HR8 : Kp _ := ⟨HR6.out.below hB9 HR6.out.lt⟩
     have HG8 : Kp _ := ⟨HG6.out.below hB9 HG6.out.lt⟩
     have hq9 := HQ.out.2
     have HTg : Kp (∀ x ∈ [(⟨gs, q * 32, 173, cells8 S.flatten, S[q]⟩ : Tg)], x.ok ∧ ((Om x.g ∨ x.g = g1) ∨ x.g = gs) ∧ x.g ≠ gp) := ⟨fun x hx => by
      obtain rfl := List.mem_singleton.1 hx
      exact ⟨⟨by show q * 32 + 32 ≤ (cells8 S.flatten).length; rw [flat9_len S HS.out.2.2]; omega, flat9_at S HS.out.2.2 q hq9, HS.out.2.2 _ (List.getElem_mem hq9)⟩, .inr rfl, HPt.out.2.2⟩⟩
     clear hB9
     go_wp2_with fail
     have hp9 : ∀ j (hj : j < [(⟨gs, q * 32, 173, cells8 S.flatten, S[q]⟩ : Tg)].length), w8.cell? ⟨gp, j, none⟩ = some (.pointer (some ⟨[(⟨gs, q * 32, 173, cells8 S.flatten, S[q]⟩ : Tg)][j].g, [(⟨gs, q * 32, 173, cells8 S.flatten, S[q]⟩ : Tg)][j].o, none⟩)) := fun j hj => by
      match j, hj with
      | 0, _ => exact HPt.out.1
     have ht9 : Tgs w8 [(⟨gs, q * 32, 173, cells8 S.flatten, S[q]⟩ : Tg)] (ofL ks (i : Int) (hideL s.hk E i [])) 0 := ⟨fun j hj => by
      match j, hj with
      | 0, _ => exact HR8.out⟩
     refine (fold_any H8.out HSl.out.2 ks (List.mem_cons_of_mem _ hmS) B 272 d (hideL s.hk E i []) (by simp) (by omega) (i : Int) gA gB gp 1 1 [⟨gs, q * 32, 173, cells8 S.flatten, S[q]⟩] rfl HF.out.1 HF.out.2 hp9 HPt.out.2.1 ht9 HTg.out (by simp) (by omega)).mono ?_
     rintro x w9 ⟨rfl, h9, t9, k9⟩
     have HIn : Kp (FmtI w0 w w9 (k + 1) s (bumpW t) Om hs ks E P g1 gs (i + 1)) := ⟨⟨h9.forget (fun _ h => List.mem_cons_of_mem _ h), k9.blk HG8.out ⟨.inl (.inr rfl), fun x hx => by
       obtain rfl := List.mem_singleton.1 hx
       show gs ≠ g1
       have := HGs.out; omega⟩, by
       have h7 := t9.at_ 0 (by simp)
       have e : (sumF s.hk ks E P (i + 1)) = S.set q (addL S[q] (ofL ks (i : Int) (hideL s.hk E i []))) := by
        rw [sumF, ← HS.out.1, ← HQ.out.1]
        rw [List.getD_eq_getElem?_getD, List.getElem?_eq_getElem hq9]; rfl
       rw [e, ← flat9_set S HS.out.2.2 q hq9 _ (addL_length _ _)]
       exact h7, HKe6.out.trans ((HK8.out.less (fun _ h => .inl (.inl h))).trans (k9.less fun j h => ⟨.inl (.inl h), fun x hx => by
        obtain rfl := List.mem_singleton.1 hx
        show gs ≠ j
        have := HG.out j h; have := HGs.out; omega⟩))⟩⟩
     clear h9 t9 k9 hp9 ht9
     go_wp2
     go_roundg gk
     case measure => omega
     case rel => exact ⟨i + 1, by omega, by go_num, HIn⟩
    ·go_simp
     refine hK _ _ ?_
     clear hK K
     try simp only [Act.put, sA, sB, sC]
     have hbA : Below wS.heap.size wS (wS.alloc (.cells #[.pointer (some ⟨gs, q * 32, none⟩)] 171)) := (Below.refl _ _).alloc (Nat.le_refl _) _
     have HPt : Kp ((wS.alloc (.cells #[.pointer (some ⟨gs, q * 32, none⟩)] 171)).cell? ⟨wS.heap.size, 0, none⟩ = some (.pointer (some ⟨gs, q * 32, none⟩)) ∧ wS.heap.size < (wS.alloc (.cells #[.pointer (some ⟨gs, q * 32, none⟩)] 171)).heap.size ∧ gs ≠ wS.heap.size) := ⟨(Blk.new wS 171 [.pointer (some ⟨gs, q * 32, none⟩)]).cell? 0, by simp, by have h1 := HR6.out.lt; have h2 := hB9.size; omega⟩
     replace HG66 : Kp _ := ⟨HG66.out.below hbA HG66.out.lt⟩
     replace hB9 := hB9.trans (hbA.mono hB9.size)
     clear hbA
     obtain ⟨gp, hgp⟩ : ∃ g, g = wS.heap.size := ⟨_, rfl⟩
     rw [← hgp] at HPt ⊢
     generalize wS.alloc (.cells #[.pointer (some ⟨gs, q * 32, none⟩)] 171) = w63 at *
     clear hgp
     refine rK [0] ?_
     refine aR 43 rfl fun K hK => ?_
     refine step_load rwSto rfl (.tmp 1) rfl rfl HG66.out (Nat.le_of_eq (by rw [HSl.out.1])) (by rw [List.drop_zero, List.take_of_length_le (Nat.le_of_eq HSl.out.1)]) ?_
     refine hK _ _ ?_
     clear hK K
     try simp only [Act.put, sA, sB, sC]
     refine rK [6] ?_
     refine aR 49 rfl fun K hK => ?_
     go_simp
     refine (folder_any (s := s) (some ⟨gp, 0, none⟩) 1 1 w63).mono ?_
     rintro x w64 ⟨gA, gB, rfl, hgA, hgB, hkA, hkB, hb'⟩
     have HF : Kp _ := ⟨And.intro hkA hkB⟩
     replace HPt : Kp (w64.cell? ⟨gp, 0, none⟩ = some (.pointer (some ⟨gs, q * 32, none⟩)) ∧ gp < w64.heap.size ∧ gs ≠ gp) := ⟨(hb'.cell HPt.out.2.1).trans HPt.out.1, Nat.lt_of_lt_of_le HPt.out.2.1 hb'.size, HPt.out.2.2⟩
     replace hB9 := hB9.trans (hb'.mono hB9.size)
     clear hb' hkA hkB hgA hgB HG66
     refine hK _ _ ?_
     clear hK K
     try simp only [Act.put, sA, sB, sC]
     refine wT 7 10 ?_ rfl ?_
     try simp only [Act.put, sA, sB, sC]
     refine wpAny_done (by kernel_rfl) ?_ _
     obtain ⟨w8, hw8⟩ : ∃ x, x = w64 := ⟨_, rfl⟩
     rw [← hw8] at HF HPt hB9 ⊢
     clear hw8
     have H8 : Kp _ := ⟨H6.out.grow hB9⟩
     have HK8 : Kp _ := ⟨H6.out.keepBelow hB9⟩
     have HR8 : Kp _ := ⟨HR6.out.below hB9 HR6.out.lt⟩
     have HG8 : Kp _ := ⟨HG6.out.below hB9 HG6.out.lt⟩
     have hq9 := HQ.out.2
     have HTg : Kp (∀ x ∈ [(⟨gs, q * 32, 173, cells8 S.flatten, S[q]⟩ : Tg)], x.ok ∧ ((Om x.g ∨ x.g = g1) ∨ x.g = gs) ∧ x.g ≠ gp) := ⟨fun x hx => by
      obtain rfl := List.mem_singleton.1 hx
      exact ⟨⟨by show q * 32 + 32 ≤ (cells8 S.flatten).length; rw [flat9_len S HS.out.2.2]; omega, flat9_at S HS.out.2.2 q hq9, HS.out.2.2 _ (List.getElem_mem hq9)⟩, .inr rfl, HPt.out.2.2⟩⟩
     clear hB9
     go_wp2_with fail
     have hp9 : ∀ j (hj : j < [(⟨gs, q * 32, 173, cells8 S.flatten, S[q]⟩ : Tg)].length), w8.cell? ⟨gp, j, none⟩ = some (.pointer (some ⟨[(⟨gs, q * 32, 173, cells8 S.flatten, S[q]⟩ : Tg)][j].g, [(⟨gs, q * 32, 173, cells8 S.flatten, S[q]⟩ : Tg)][j].o, none⟩)) := fun j hj => by
      match j, hj with
      | 0, _ => exact HPt.out.1
     have ht9 : Tgs w8 [(⟨gs, q * 32, 173, cells8 S.flatten, S[q]⟩ : Tg)] (ofL ks (i : Int) (hideL s.hk E i [])) 0 := ⟨fun j hj => by
      match j, hj with
      | 0, _ => exact HR8.out⟩
     refine (fold_any H8.out HSl.out.2 ks (List.mem_cons_of_mem _ hmS) B 272 d (hideL s.hk E i []) (by simp) (by omega) (i : Int) gA gB gp 1 1 [⟨gs, q * 32, 173, cells8 S.flatten, S[q]⟩] rfl HF.out.1 HF.out.2 hp9 HPt.out.2.1 ht9 HTg.out (by simp) (by omega)).mono ?_
     rintro x w9 ⟨rfl, h9, t9, k9⟩
     have HIn : Kp (FmtI w0 w w9 (k + 1) s (bumpW t) Om hs ks E P g1 gs (i + 1)) := ⟨⟨h9.forget (fun _ h => List.mem_cons_of_mem _ h), k9.blk HG8.out ⟨.inl (.inr rfl), fun x hx => by
       obtain rfl := List.mem_singleton.1 hx
       show gs ≠ g1
       have := HGs.out; omega⟩, by
       have h7 := t9.at_ 0 (by simp)
       have e : (sumF s.hk ks E P (i + 1)) = S.set q (addL S[q] (ofL ks (i : Int) (hideL s.hk E i []))) := by
        rw [sumF, ← HS.out.1, ← HQ.out.1]
        rw [List.getD_eq_getElem?_getD, List.getElem?_eq_getElem hq9]; rfl
       rw [e, ← flat9_set S HS.out.2.2 q hq9 _ (addL_length _ _)]
       exact h7, HKe6.out.trans ((HK8.out.less (fun _ h => .inl (.inl h))).trans (k9.less fun j h => ⟨.inl (.inl h), fun x hx => by
        obtain rfl := List.mem_singleton.1 hx
        show gs ≠ j
        have := HG.out j h; have := HGs.out; omega⟩))⟩⟩
     clear h9 t9 k9 hp9 ht9
     go_wp2
     go_roundg gk
     case measure => omega
     case rel => exact ⟨i + 1, by omega, by go_num, HIn⟩
end
end Go.Proofs.YtcehkafddlfleaaGreatDoor
