/- 
   
   
   
    -/
import Derived.Test.YtcehkafddlfleaaGreatDoorG02
import Derived.Test.YtcehkafddlfleaaGreatDoorG46
import Derived.Test.YtcehkafddlfleaaGreatDoorG45
import Derived.Test.YtcehkafddlfleaaGreatDoorG20
namespace Go.Proofs.YtcehkafddlfleaaGreatDoor
open Go.RowKit
theorem ls_blk {W : World} {g : Nat} {t : TypeId} {A : Option Addr} {n c : Nat} {l : List UInt8} (hk : Blk W g t [.slice A n c]) (ha : Bs W W.heap.size A n c l) : Ls W W.heap.size (some ⟨g, 0, none⟩) 1 1 [l] :=
 ⟨rfl, Nat.le_refl _, by simp only [maxLen]; omega, fun h => (by cases h), fun _ => ⟨g, 0, rfl, hk.lt, fun j hj => by
  match j, hj with
  | 0, _ => exact ⟨A, n, c, hk.cell? 0, ha⟩⟩⟩
section
variable {w0 w : World} {k : Nat} {t : Wd} {Om Ox : Nat → Prop} {hs : List Held} {g gm nm : Nat} {s : Sto} {ks : List UInt8} {rc rn : Rc} {q : Nat} {lim : Int} {F : Nat → Option Pt}
set_option maxRecDepth 100000 in
set_option maxHeartbeats 16000000 in
theorem maccess_write (h : MemW w0 w k t Om Ox hs g gm nm s ks rc rn (q : Int) lim false F) (hk : k + 2 ≤ 1000000) (at' : Nat) (hat : at' ≤ 1000000) (hab : (at' : Int) < rc.blk) (hq : (q : Int) < lim) (hq2 : q ≤ 1048576) (hi : at' / 16 < rc.su.length) (hnm : nm + 1 ≤ 100000)
  (s0 s2 : Nat) (hs0 : s0 = slotI rc.sl (at' : Int)) (hs2 : s2 = slotI rn.sl (at' : Int)) (hl : (readW t ((at' : Int), (s2 : Int))).lost = false) (bb : List UInt8) (hbb : readLw t ((at' : Int), (s2 : Int)) = bb) (hwr : ¬ wrongL bb) (hp : Past rc.num q bb) (hwb : writeB (readW t ((at' : Int), (s2 : Int))) ((at' : Int), ((1 - s0 : Nat) : Int)) = true)
  (ga : Nat) (A0 : Option Addr) (n0 c0 : Nat) (body : List UInt8) (hga : Ox ga) (hka : Blk w ga 29 [.slice A0 n0 c0]) (hba : (A0, n0, c0, body) ∈ hs) (hn0 : n0 ≤ 256) (b : List UInt8) (hb : b = hideL s.hk rc.num (q + 1) body) :
  Calls Tryz.prog 53 #[.pointer (some ⟨g, 0, none⟩), .int .i64 (at' : Int), .slice (some ⟨ga, 0, none⟩) 1 1] w fun r w' => ∃ A c, r = .returned (.tuple #[.slice A 256 c, .nilIface]) ∧ AccI w0 w w' k (writeW (readW t ((at' : Int), (s2 : Int))) ((at' : Int), ((1 - s0 : Nat) : Int)) b) Ox hs g gm nm s ks rc rn (q + 1) lim F at' bb b A c := by
 have HW : Kp _ := ⟨h⟩
 have HC : Kp (k + 2 ≤ 1000000 ∧ (at' : Int) < rc.blk ∧ (q : Int) < lim ∧ q ≤ 1048576 ∧ at' / 16 < rc.su.length ∧ nm + 1 ≤ 100000) := ⟨hk, hab, hq, hq2, hi, hnm⟩
 have HS : Kp (s0 = slotI rc.sl (at' : Int) ∧ s2 = slotI rn.sl (at' : Int)) := ⟨hs0, hs2⟩
 have HL : Kp _ := ⟨hl⟩
 have HBb : Kp (readLw t ((at' : Int), (s2 : Int)) = bb ∧ ¬ wrongL bb ∧ Past rc.num q bb) := ⟨hbb, hwr, hp⟩
 have HWb : Kp _ := ⟨hwb⟩
 have HB : Kp _ := ⟨hb⟩
 have HKy : Kp (s.hk.length = 16) := ⟨h.key⟩
 have HGa : Kp (Ox ga) := ⟨hga⟩
 have HKa : Kp _ := ⟨hka⟩
 have HBa : Kp ((A0, n0, c0, body) ∈ hs ∧ n0 ≤ 256) := ⟨hba, hn0⟩
 clear hga hka hba hn0
 have hs29 : s2 ≤ 1 := by rw [hs2]; exact slotI_le _ _
 have hmf : ∀ (fn : Fn) (first cap : Array Value) (w : World), (Instr.makeFunc fn first cap).run Tryz.prog w = .ok (.func fn first cap) w := fun _ _ _ _ => rfl
 clear h hk hab hq hq2 hi hnm hs0 hs2 hl hbb hwr hp hwb hb
 go_enter_defers Tryz.func53, Tryz.ntmps53
 go_upto_region 2 with fail
 have hAc := fun a b c => AcW.start (g3 := w.heap.size) (g6 := w.heap.size + 1) (g7 := w.heap.size + 1 + 1) HW.out a b c
 have HA : Kp _ := ⟨hAc rfl rfl rfl⟩
 obtain ⟨w1, hw1⟩ : ∃ X, X = (((w.alloc (.cells #[.pointer (some ⟨g, 0, none⟩)] 30)).alloc (.cells #[.slice none 0 0] 29)).alloc (.cells #[.nilIface] 117)) := ⟨_, rfl⟩
 rw [← hw1] at HA ⊢
 clear hAc hw1 HW
 generalize w.heap.size + 1 + 1 = g7 at *
 generalize w.heap.size + 1 = g6 at *
 generalize w.heap.size = g3 at *
 have q3 : w1.cell? ⟨g3, 0, none⟩ = some (.pointer (some ⟨g, 0, none⟩)) := HA.out.c3.cell? 0
 go_wp2_with fail
 obtain ⟨A9, n9, c9, D9, m9, e9, A8, n8, c8, D8, m8, e8, hMx, hL3, hL4⟩ := HA.out.st.mem
 refine (madmit_ok hMx HKy.out rfl rfl rc.blk rfl at' HC.out.2.1 HC.out.2.2.1 (some ⟨ga, 0, none⟩) 1 1 [body] (ls_blk (HA.out.keep.blk HKa.out HGa.out) (HA.out.st.held HBa.out.1)) (fun l h => by obtain rfl := List.mem_singleton.1 h; rw [(HA.out.st.held HBa.out.1).len]; exact HBa.out.2)).mono ?_
 rintro x2 w2 ⟨rfl, hw2⟩
 have HA2 : Kp _ := ⟨HA.out.drew⟩
 rw [← hw2] at HA2
 clear hw2 hMx hL3 hL4 A9 n9 c9 D9 m9 e9 A8 n8 c8 D8 m8 e8 HA q3
 go_upto_region 5 with fail
 go_cut [9] from 22 to 36 (fun v9 wx => ∃ A n c, v9 = .slice A n c ∧ Kp (n = 272) ∧ Kp (AcW w0 w wx (k + 1) (readW t ((at' : Int), (s2 : Int))) (fun j => ((Om j ∨ j = g3) ∨ j = g6) ∨ j = g7) Ox ((A, n, c, bb) :: hs) g gm nm s ks rc rn (q : Int) lim F g3 g6 g7 (.slice none 0 0)))
 case first =>
  refine wp_noPanic ?_
  have HA : Kp _ := ⟨HA2.out⟩
  clear HA2
  go_wp2_with fail
  refine wp_region_any (by kernel_rfl) ?_
  change wpAny _ _ _ _ _ _ _ w2.drew
  replace HA : Kp _ := ⟨HA.out.drew⟩
  generalize w2.drew = wS at *
  refine wT 4 27 ?_ rfl ?_
  try simp only [Act.put, sA, sB, sC]
  refine wT 9 32 ?_ rfl ?_
  try simp only [Act.put, sA, sB, sC]
  repeat' (first
   | ((with_reducible change ite (Region.wanted ⟨some 23, _, _, _, _, _⟩ _ = true) _ _); have q0 : wS.cell? ⟨g3, 0, none⟩ = some (.pointer (some ⟨g, 0, none⟩)) := HA.out.c3.cell? 0; go_simp; refine hK _ _ ?_; clear hK K q0; (try simp only [Act.put, sA, sB, sC]); refine wT 1 24 ?_ rfl ?_; (try simp only [Act.put, sA, sB, sC]); refine wT 2 25 ?_ rfl ?_; (try simp only [Act.put, sA, sB, sC]))
   | ((with_reducible change ite (Region.wanted ⟨some 26, _, _, _, _, _⟩ _ = true) _ _); obtain ⟨A9, n9, c9, D9, m9, e9, A8, n8, c8, D8, m8, e8, hMx, hL3, hL4⟩ := HA.out.st.mem; refine step_load rwSto rfl (.tmp 25) rfl rfl hMx (by rw [mmL_length HKy.out rfl rfl]; decide) (mm_store HKy.out) ?_; clear hMx hL3 hL4 A9 n9 c9 D9 m9 e9 A8 n8 c8 D8 m8 e8; refine hK _ _ ?_; clear hK K; (try simp only [Act.put, sA, sB, sC]))
   | ((with_reducible change ite (Region.wanted ⟨some 28, _, _, _, _, _⟩ _ = true) _ _); have q0 : wS.cell? ⟨g3, 0, none⟩ = some (.pointer (some ⟨g, 0, none⟩)) := HA.out.c3.cell? 0; go_simp; refine hK _ _ ?_; clear hK K q0; (try simp only [Act.put, sA, sB, sC]); refine wT 6 29 ?_ rfl ?_; (try simp only [Act.put, sA, sB, sC]); refine wT 7 30 ?_ rfl ?_; (try simp only [Act.put, sA, sB, sC]))
   | ((with_reducible change ite (Region.wanted ⟨some 31, _, _, _, _, _⟩ _ = true) _ _); obtain ⟨A9, n9, c9, D9, m9, e9, A2, n2, c2, D2, m2, e2, hMx, hL3, hL4⟩ := HA.out.st.mem; have H4 : Kp _ := ⟨hL4⟩; refine step_load rwSeal rfl (.tmp 30) rfl rfl hMx (by rw [mmL_length HKy.out rfl rfl]; decide) (mm_nowv HKy.out rfl rfl) ?_; clear hMx hL3 hL4 A9 n9 c9 D9 m9 e9; refine hK _ _ ?_; clear hK K; (try simp only [Act.put, sA, sB, sC]))
   | ((with_reducible change ite (Region.wanted ⟨some 33, _, _, _, _, _⟩ _ = true) _ _); go_simp; have hsa := slot_any rn A2 n2 c2 D2 m2 e2 (at' : Int) wS (H4.out.rs HA.out.st.st) (by omega); rw [← HS.out.2] at hsa; refine hsa.mono ?_; rintro e wZ ⟨rfl, hb'⟩; replace HA : Kp _ := ⟨HA.out.grow hb'⟩; clear hsa hb' H4; refine hK _ _ ?_; clear hK K; (try simp only [Act.put, sA, sB, sC]); obtain ⟨wS, rfl⟩ : ∃ x, x = wZ := ⟨_, rfl⟩)
   | ((with_reducible change ite (Region.wanted ⟨some 34, _, _, _, _, _⟩ _ = true) _ _); go_simp; refine (sread_any HA.out.st.st (by have := HC.out.1; omega) (at' : Int) (s2 : Int) ⟨WalkArith.wf_i64 (by omega), WalkArith.wf_i64 (by omega)⟩ HL.out).mono ?_; rintro e wZ ⟨A, n, c, rfl, h9, k9⟩; rw [HBb.out.1] at h9; have HN : Kp (n = 272) := ⟨by have h1 := (h9.held (A := A) (n := n) (c := c) (l := bb) (by simp)).1.len; have h2 : bb.length = 272 := wrong_len HBb.out.2.1; omega⟩; replace HA : Kp _ := ⟨HA.out.step (HA.out.st.keep h9 k9 (fun _ h => List.mem_cons_of_mem _ h)) (HA.out.keepOx k9)⟩; clear h9 k9; refine hK _ _ ?_; clear hK K; (try simp only [Act.put, sA, sB, sC]); obtain ⟨wS, rfl⟩ : ∃ x, x = wZ := ⟨_, rfl⟩; refine wT 12 22 ?_ rfl ?_; (try simp only [Act.put, sA, sB, sC]); refine wT 13 35 ?_ rfl ?_; (try simp only [Act.put, sA, sB, sC]); refine wT 14 36 ?_ rfl ?_; (try simp only [Act.put, sA, sB, sC]); refine wT 15 9 ?_ rfl ?_; (try simp only [Act.put, sA, sB, sC]))
   | ((with_reducible change ite (Region.wanted ⟨none, (Go.Op.store _ (Go.Operand.tmp 7) (Go.Operand.tmp 36)), _, _, _, _⟩ _ = true) _ _); have q0 : wS.cell? ⟨g7, 0, none⟩ = some .nilIface := HA.out.c7.cell? 0; have f0 := HA.out.c7.frozen 0; go_simp; refine hK _ _ ?_; clear hK K q0 f0; (try simp only [Act.put, sA, sB, sC]); replace HA : Kp _ := ⟨HA.out.set7⟩; generalize wS.setCell ⟨g7, 0, none⟩ .nilIface = wZ at *; obtain ⟨wS, rfl⟩ : ∃ x, x = wZ := ⟨_, rfl⟩)
   | (refine rD [0, 5] ?_; refine aS 23 28 rfl rfl (fun K hK => ?_) fun K hK => ?_)
   | (refine rD [0, 8] ?_; refine aS 23 31 rfl rfl (fun K hK => ?_) fun K hK => ?_)
   | (refine rD [0, 10] ?_; refine aS 23 33 rfl rfl (fun K hK => ?_) fun K hK => ?_)
   | (refine rD [3, 5] ?_; refine aS 26 28 rfl rfl (fun K hK => ?_) fun K hK => ?_)
   | (refine rD [3, 8] ?_; refine aS 26 31 rfl rfl (fun K hK => ?_) fun K hK => ?_)
   | (refine rD [3, 10] ?_; refine aS 26 33 rfl rfl (fun K hK => ?_) fun K hK => ?_)
   | (refine rD [0] ?_; refine aR 23 rfl fun K hK => ?_)
   | (refine rD [3] ?_; refine aR 26 rfl fun K hK => ?_)
   | (refine rD [5] ?_; refine aR 28 rfl fun K hK => ?_)
   | (refine rD [8] ?_; refine aR 31 rfl fun K hK => ?_)
   | (refine rD [10] ?_; refine aR 33 rfl fun K hK => ?_)
   | (refine rD [11] ?_; refine aR 34 rfl fun K hK => ?_)
   | (refine rD [16] ?_; refine AllReady.cons (o := ⟨none, _, _, _, _, _⟩) rfl (fun K hK => ?_) AllReady.nil)
   | (refine wpAny_done (by decide +kernel) ?_ _; go_wp2_with fail; go_meet; case rel => exact ⟨A, n, c, rfl, HN, HA⟩)
   | fail)
 case rest =>
  obtain ⟨A, n, c, rfl, HN, HA3⟩ := hcut
  clear HA2
  have q7 : wc.cell? ⟨g7, 0, none⟩ = some .nilIface := HA3.out.c7.cell? 0
  go_upto_region 8 with fail
  clear q7
  have q3 : wc.cell? ⟨g3, 0, none⟩ = some (.pointer (some ⟨g, 0, none⟩)) := HA3.out.c3.cell? 0
  go_wp2_with fail
  obtain ⟨A9, n9, c9, D9, m9, e9, A8, n8, c8, D8, m8, e8, hMx, hL3, hL4⟩ := HA3.out.st.mem
  refine (mshow_any hMx HKy.out rfl rfl rc.num rfl HC.out.2.2.2.1 A n c bb (HA3.out.st.held (by simp)) HBb.out.2.1 HBb.out.2.2).mono ?_
  rintro x2 w4 ⟨A', c', rfl, hx4, hb4⟩
  have HA4 : Kp _ := ⟨HA3.out.step (HA3.out.st.keep (HA3.out.st.st.growHold hb4 hx4 (by omega)) (HA3.out.st.st.keepBelow hb4) (fun _ h => List.mem_cons_of_mem _ h)) (HA3.out.keepOx (HA3.out.st.st.keepBelow hb4))⟩
  clear hx4 hb4 hMx hL3 hL4 A9 n9 c9 D9 m9 e9 A8 n8 c8 D8 m8 e8 HA3 q3
  have q6 : w4.cell? ⟨g6, 0, none⟩ = some (.slice none 0 0) := HA4.out.c6.cell? 0
  have f6 := HA4.out.c6.frozen 0
  have q7 : w4.cell? ⟨g7, 0, none⟩ = some .nilIface := HA4.out.c7.cell? 0
  have f7 := HA4.out.c7.frozen 0
  have hne67 := HA4.out.ne.2.2
  go_upto_region 11 with fail
  have HA5 : Kp _ := ⟨(HA4.out.set6 (.slice A' 256 c')).set7⟩
  generalize (w4.setCell ⟨g6, 0, none⟩ (.slice A' 256 c')).setCell ⟨g7, 0, none⟩ .nilIface = w5 at *
  clear HA4 q6 f6 q7 f7 hne67
  go_cut [10] from 49 to 59 (fun v10 wx => ∃ x Om' nm' g1 g2 gp, v10 = .func (.func 142) #[] #[.pointer (some ⟨g1, 0, none⟩), .pointer (some ⟨g2, 0, none⟩)] ∧ Kp (PartA F (at' / 16) rc.su x ∧ nm' ≤ nm + 1) ∧ Kp (AcW w0 w wx (k + 1) (readW t ((at' : Int), (s2 : Int))) Om' Ox ((A', 256, c', showL s.hk bb) :: (A, n, c, bb) :: hs) g gm nm' s ks rc rn (q : Int) lim (fun j => if j = at' / 16 then some x else F j) g3 g6 g7 (.slice A' 256 c')) ∧ Kp (Blk wx g1 119 (stL s)) ∧ Kp (Blk wx g2 231 [.slice (some ⟨gp, 0, none⟩) 1 1]) ∧ Kp (wx.cell? ⟨gp, 0, none⟩ = some (.pointer (some ⟨x.p, 0, none⟩))) ∧ Kp (gp < wx.heap.size ∧ ∀ j, Om' j → j ≠ gp))
  case first =>
   refine wp_noPanic ?_
   have HA : Kp _ := ⟨HA5.out⟩
   clear HA5
   go_wp2_with fail
   refine wp_region_any (by kernel_rfl) ?_
   change wpAny _ _ _ _ _ _ _ w5.drew
   replace HA : Kp _ := ⟨HA.out.drew⟩
   generalize w5.drew = wS at *
   refine wT 5 54 ?_ rfl ?_
   try simp only [Act.put, sA, sB, sC]
   repeat' (first
    | ((with_reducible change ite (Region.wanted ⟨some 49, _, _, _, _, _⟩ _ = true) _ _); have q0 : wS.cell? ⟨g3, 0, none⟩ = some (.pointer (some ⟨g, 0, none⟩)) := HA.out.c3.cell? 0; go_simp; refine hK _ _ ?_; clear hK K q0; (try simp only [Act.put, sA, sB, sC]); refine wT 1 50 ?_ rfl ?_; (try simp only [Act.put, sA, sB, sC]); refine wT 2 51 ?_ rfl ?_; (try simp only [Act.put, sA, sB, sC]))
    | ((with_reducible change ite (Region.wanted ⟨some 52, _, _, _, _, _⟩ _ = true) _ _); obtain ⟨A9, n9, c9, D9, m9, e9, A8, n8, c8, D8, m8, e8, hMx, hL3, hL4⟩ := HA.out.st.mem; refine step_load rwSto rfl (.tmp 51) rfl rfl hMx (by rw [mmL_length HKy.out rfl rfl]; decide) (mm_store HKy.out) ?_; clear hMx hL3 hL4 A9 n9 c9 D9 m9 e9 A8 n8 c8 D8 m8 e8; refine hK _ _ ?_; clear hK K; (try simp only [Act.put, sA, sB, sC]))
    | ((with_reducible change ite (Region.wanted ⟨some 53, _, _, _, _, _⟩ _ = true) _ _); have q0 : wS.cell? ⟨g3, 0, none⟩ = some (.pointer (some ⟨g, 0, none⟩)) := HA.out.c3.cell? 0; go_simp; refine hK _ _ ?_; clear hK K q0; (try simp only [Act.put, sA, sB, sC]))
    | ((with_reducible change ite (Region.wanted ⟨some 55, _, _, _, _, _⟩ _ = true) _ _); go_simp; refine (mpart_any HA.out.st at' hat HC.out.2.2.2.2.1 HC.out.2.2.2.2.2).mono ?_; rintro e wZ ⟨x, Om', nm', rfl, hPa, h9, k9, hn9, _⟩; have HPa : Kp (PartA F (at' / 16) rc.su x ∧ nm' ≤ nm + 1) := ⟨hPa, hn9⟩; replace HA : Kp _ := ⟨HA.out.step h9 k9⟩; clear h9 k9 hPa hn9; refine hK _ _ ?_; clear hK K; (try simp only [Act.put, sA, sB, sC]); obtain ⟨wS, rfl⟩ : ∃ x, x = wZ := ⟨_, rfl⟩; refine wT 7 56 ?_ rfl ?_; (try simp only [Act.put, sA, sB, sC]); refine wT 8 57 ?_ rfl ?_; (try simp only [Act.put, sA, sB, sC]))
    | ((with_reducible change ite (Region.wanted ⟨some 58, _, _, _, _, _⟩ _ = true) _ _); go_simp; have hb' : Below wS.heap.size wS (wS.alloc (.cells #[.pointer (some ⟨x.p, 0, none⟩)] 171)) := (Below.refl _ _).alloc (Nat.le_refl _) _; have HGp : Kp (Blk (wS.alloc (.cells #[.pointer (some ⟨x.p, 0, none⟩)] 171)) wS.heap.size 171 [.pointer (some ⟨x.p, 0, none⟩)]) := ⟨Blk.new wS _ _⟩; have HGn : Kp (∀ j, Om' j → j ≠ wS.heap.size) := ⟨fun j hj e => by have := (HA.out.st.st.lt hj).2; omega⟩; obtain ⟨gp, hgp⟩ : ∃ g, g = wS.heap.size := ⟨_, rfl⟩; rw [← hgp] at HGp HGn ⊢; replace HA : Kp _ := ⟨HA.out.grow hb'⟩; clear hb' hgp; refine hK _ _ ?_; clear hK K; (try simp only [Act.put, sA, sB, sC]); generalize wS.alloc (.cells #[.pointer (some ⟨x.p, 0, none⟩)] 171) = wZ at *; obtain ⟨wS, rfl⟩ : ∃ x, x = wZ := ⟨_, rfl⟩)
    | ((with_reducible change ite (Region.wanted ⟨some 59, _, _, _, _, _⟩ _ = true) _ _); go_simp; refine (folder_any (s := s) (some ⟨gp, 0, none⟩) 1 1 wS).mono ?_; rintro e wZ ⟨g1, g2, rfl, hg1, hg2, hk1, hk2, hb'⟩; have HG1 : Kp _ := ⟨hk1⟩; have HG2 : Kp _ := ⟨hk2⟩; replace HGp : Kp _ := ⟨HGp.out.below hb' HGp.out.lt⟩; replace HA : Kp _ := ⟨HA.out.grow hb'⟩; clear hk1 hk2 hg1 hg2 hb'; refine hK _ _ ?_; clear hK K; (try simp only [Act.put, sA, sB, sC]); obtain ⟨wS, rfl⟩ : ∃ x, x = wZ := ⟨_, rfl⟩; refine wT 11 10 ?_ rfl ?_; (try simp only [Act.put, sA, sB, sC]))
    | (refine rD [0, 4] ?_; refine aS 49 53 rfl rfl (fun K hK => ?_) fun K hK => ?_)
    | (refine rD [0, 6] ?_; refine aS 49 55 rfl rfl (fun K hK => ?_) fun K hK => ?_)
    | (refine rD [0, 9] ?_; refine aS 49 58 rfl rfl (fun K hK => ?_) fun K hK => ?_)
    | (refine rD [3, 4] ?_; refine aS 52 53 rfl rfl (fun K hK => ?_) fun K hK => ?_)
    | (refine rD [3, 6] ?_; refine aS 52 55 rfl rfl (fun K hK => ?_) fun K hK => ?_)
    | (refine rD [3, 9] ?_; refine aS 52 58 rfl rfl (fun K hK => ?_) fun K hK => ?_)
    | (refine rD [0] ?_; refine aR 49 rfl fun K hK => ?_)
    | (refine rD [3] ?_; refine aR 52 rfl fun K hK => ?_)
    | (refine rD [4] ?_; refine aR 53 rfl fun K hK => ?_)
    | (refine rD [6] ?_; refine aR 55 rfl fun K hK => ?_)
    | (refine rD [9] ?_; refine aR 58 rfl fun K hK => ?_)
    | (refine rD [10] ?_; refine aR 59 rfl fun K hK => ?_)
    | (refine wpAny_done (by decide +kernel) ?_ _; go_wp2_with fail; go_meet; case rel => exact ⟨x, Om', nm', g1, g2, gp, rfl, HPa, HA, HG1, HG2, ⟨HGp.out.cell? 0⟩, ⟨HGp.out.lt, HGn.out⟩⟩)
    | fail)
  case rest =>
   obtain ⟨x, Om', nm', g1, g2, gp, rfl, HPa, HA6, HG1, HG2, HGp, HGn⟩ := hcut
   clear HA5
   obtain ⟨rd9, hrd9⟩ : ∃ z, z = addL x.rd (ofL ks (at' : Int) bb) := ⟨_, rfl⟩
   have HRd : Kp (rd9 = addL x.rd (ofL ks (at' : Int) bb)) := ⟨hrd9⟩
   clear hrd9
   have HFx : Kp ((fun j => if j = at' / 16 then some x else F j) (at' / 16) = some x) := ⟨by simp⟩
   have HPt : Kp _ := ⟨HA6.out.st.pts _ _ HFx.out⟩
   go_wp2_with fail
   have hn9 := HN.out
   have hp9 : ∀ j (hj : j < [(⟨x.p, 0, 184, cells8 x.rd ++ cells8 x.wr, x.rd⟩ : Tg)].length), wc.cell? ⟨gp, j, none⟩ = some (.pointer (some ⟨[(⟨x.p, 0, 184, cells8 x.rd ++ cells8 x.wr, x.rd⟩ : Tg)][j].g, [(⟨x.p, 0, 184, cells8 x.rd ++ cells8 x.wr, x.rd⟩ : Tg)][j].o, none⟩)) := fun j hj => by
    match j, hj with
    | 0, _ => exact HGp.out
   have ht9 : Tgs wc [(⟨x.p, 0, 184, cells8 x.rd ++ cells8 x.wr, x.rd⟩ : Tg)] (ofL ks (at' : Int) bb) 0 := ⟨fun j hj => by
    match j, hj with
    | 0, _ => exact HPt.out.2.2.2.1⟩
   refine (fold_any HA6.out.st.st HKy.out ks HA6.out.st.sum A n c bb (by simp) (by omega) (at' : Int) g1 g2 gp 1 1 [⟨x.p, 0, 184, cells8 x.rd ++ cells8 x.wr, x.rd⟩] rfl HG1.out HG2.out hp9 HGn.out.1 ht9 (fun y hy => by
    obtain rfl := List.mem_singleton.1 hy
    exact ⟨tg_rd_ok _ _ _ _ HPt.out.2.2.2.2.1 HPt.out.2.2.2.2.2, HPt.out.1, HGn.out.2 _ HPt.out.1⟩) (by simp) (by omega)).mono ?_
   rintro y w7 ⟨rfl, h9, t9, k9⟩
   have hq9 := t9.at_ 0 (by simp)
   have hq8 : Blk w7 x.p 184 (cells8 rd9 ++ cells8 x.wr) := by
    rw [HRd.out, ← tg_rd x.p 184 x.rd x.wr _ HPt.out.2.2.2.2.1 HPt.out.2.2.2.2.2]
    exact hq9
   have hE9 := HA6.out.st.fold (i := at' / 16) (x := x) (rd := rd9) (wr := x.wr) (by simp) h9 (k9.less fun j hj => ⟨hj.1, fun y hy => by obtain rfl := List.mem_singleton.1 hy; exact fun e => hj.2 e.symm⟩) hq8 (by rw [HRd.out]; exact addL_length _ _) HPt.out.2.2.2.2.2
   have HA7 : Kp _ := ⟨HA6.out.step hE9.1 hE9.2⟩
   clear hE9 hq8 hq9 h9 t9 k9 hp9 ht9 hn9 HPt HFx HA6 HG1 HG2 HGp HGn
   have q6 : w7.cell? ⟨g6, 0, none⟩ = some (.slice A' 256 c') := HA7.out.c6.cell? 0
   have qg : w7.cell? ⟨ga, 0, none⟩ = some (.slice A0 n0 c0) := (HA7.out.keep.blk HKa.out HGa.out).cell? 0
   go_upto_region 14 with fail
   go_wp2_with fail
   go_loop [11, 67] (fun v i => (v = .slice A' 256 c' ∧ i = .int .i64 0) ∨ (v = .slice A0 n0 c0 ∧ i = .int .i64 1)) (fun _ i => 1 - (intOf i).toNat)
   case atStart => exact .inl ⟨rfl, rfl⟩
   case round =>
    rcases hrel with ⟨rfl, rfl⟩ | ⟨rfl, rfl⟩
    ·go_wp2
     go_round
     case rel => exact .inr ⟨rfl, rfl⟩
     case measure => simp [intOf]
    clear qg
    clear q6
    go_upto_region 19 with fail
    go_cut [] from 73 to 77 (fun wx => ∃ hs', Kp (∀ y ∈ (A', 256, c', showL s.hk bb) :: (A, n, c, bb) :: hs, y ∈ hs') ∧ Kp (AcW w0 w wx (k + 1 + 1) (writeW (readW t ((at' : Int), (s2 : Int))) ((at' : Int), ((1 - s0 : Nat) : Int)) b) Om' Ox hs' g gm nm' s ks rc (nowR rc rn (at' : Int)) ((q + 1 : Nat) : Int) lim (folded (fun j => if j = at' / 16 then some ⟨x.p, rd9, x.wr⟩ else (fun j => if j = at' / 16 then some x else F j) j) (at' / 16) x.p rd9 (addL x.wr (ofL ks (at' : Int) b))) g3 g6 g7 (.slice A' 256 c')))
    case first =>
     refine wp_noPanic ?_
     have HA : Kp _ := ⟨HA7.out⟩
     clear HA7
     go_wp2_with fail
     refine wp_region_any (by kernel_rfl) ?_
     change wpAny _ _ _ _ _ _ _ w7.drew
     replace HA : Kp _ := ⟨HA.out.drew⟩
     generalize w7.drew = wS at *
     refine wT 2 75 ?_ rfl ?_
     try simp only [Act.put, sA, sB, sC]
     refine wT 3 76 ?_ rfl ?_
     try simp only [Act.put, sA, sB, sC]
     repeat' (first
      | ((with_reducible change ite (Region.wanted ⟨some 73, _, _, _, _, _⟩ _ = true) _ _); have q0 : wS.cell? ⟨g6, 0, none⟩ = some (.slice A' 256 c') := HA.out.c6.cell? 0; go_simp; refine hK _ _ ?_; clear hK K q0; (try simp only [Act.put, sA, sB, sC]))
      | ((with_reducible change ite (Region.wanted ⟨some 74, _, _, _, _, _⟩ _ = true) _ _); have q0 : wS.cell? ⟨g3, 0, none⟩ = some (.pointer (some ⟨g, 0, none⟩)) := HA.out.c3.cell? 0; go_simp; refine hK _ _ ?_; clear hK K q0; (try simp only [Act.put, sA, sB, sC]))
      | ((with_reducible change ite (Region.wanted ⟨some 77, _, _, _, _, _⟩ _ = true) _ _); go_simp; have hwb9 := HWb.out; rw [HS.out.1] at hwb9; have hc9 := HC.out; refine (mrenew_any HA.out.st (by omega) at' hat ⟨x.p, rd9, x.wr⟩ (by simp) (by omega) A0 n0 c0 body (by simp [HBa.out.1]) HBa.out.2 hwb9 b HB.out).mono ?_; rintro e wZ ⟨rfl, hs9, hsub9, h9, k9⟩; rw [← HS.out.1] at h9; have HSb : Kp _ := ⟨hsub9⟩; replace HA : Kp _ := ⟨HA.out.step h9 k9⟩; clear hwb9 hc9 hsub9 h9 k9; refine hK _ _ ?_; clear hK K; (try simp only [Act.put, sA, sB, sC]); obtain ⟨wS, rfl⟩ : ∃ x, x = wZ := ⟨_, rfl⟩)
      | ((with_reducible change ite (Region.wanted ⟨none, (Go.Op.store _ (Go.Operand.tmp 6) (Go.Operand.tmp 73)), _, _, _, _⟩ _ = true) _ _); have q0 : wS.cell? ⟨g6, 0, none⟩ = some (.slice A' 256 c') := HA.out.c6.cell? 0; have f0 := HA.out.c6.frozen 0; go_simp; refine hK _ _ ?_; clear hK K q0 f0; (try simp only [Act.put, sA, sB, sC]); replace HA : Kp _ := ⟨HA.out.set6 (.slice A' 256 c')⟩; generalize wS.setCell ⟨g6, 0, none⟩ (.slice A' 256 c') = wZ at *; obtain ⟨wS, rfl⟩ : ∃ x, x = wZ := ⟨_, rfl⟩)
      | ((with_reducible change ite (Region.wanted ⟨none, (Go.Op.store _ (Go.Operand.tmp 7) (Go.Operand.tmp 77)), _, _, _, _⟩ _ = true) _ _); have q0 : wS.cell? ⟨g7, 0, none⟩ = some .nilIface := HA.out.c7.cell? 0; have f0 := HA.out.c7.frozen 0; go_simp; refine hK _ _ ?_; clear hK K q0 f0; (try simp only [Act.put, sA, sB, sC]); replace HA : Kp _ := ⟨HA.out.set7⟩; generalize wS.setCell ⟨g7, 0, none⟩ .nilIface = wZ at *; obtain ⟨wS, rfl⟩ : ∃ x, x = wZ := ⟨_, rfl⟩)
      | (refine rD [0, 1] ?_; refine aS 73 74 rfl rfl (fun K hK => ?_) fun K hK => ?_)
      | (refine rD [0, 4] ?_; refine aS 73 77 rfl rfl (fun K hK => ?_) fun K hK => ?_)
      | (refine rD [0] ?_; refine aR 73 rfl fun K hK => ?_)
      | (refine rD [1] ?_; refine aR 74 rfl fun K hK => ?_)
      | (refine rD [4] ?_; refine aR 77 rfl fun K hK => ?_)
      | (refine rD [5] ?_; refine AllReady.cons (o := ⟨none, _, _, _, _, _⟩) rfl (fun K hK => ?_) AllReady.nil)
      | (refine rD [6] ?_; refine AllReady.cons (o := ⟨none, _, _, _, _, _⟩) rfl (fun K hK => ?_) AllReady.nil)
      | (refine wpAny_done (by decide +kernel) ?_ _; go_wp2_with fail; go_meet; case rel => exact ⟨hs9, HSb, HA⟩)
      | fail)
    case rest =>
     obtain ⟨hs', HSb, HA8⟩ := hcut
     clear HA7
     go_wp2_with fail
     refine leaves_cons (f := 91) (args := #[.pointer (some ⟨g3, 0, none⟩), .pointer (some ⟨g7, 0, none⟩), .pointer (some ⟨g6, 0, none⟩)]) (by simp) (by simp [go_sem]) ?_
     refine (access_deferred .returning wc g3 g6 g7 g HA8.out.c3 HA8.out.c7).mono ?_
     rintro e u' w9 ⟨rfl, rfl, hb9⟩
     have HA9 := HA8.out.grow hb9
     have q6 : w9.cell? ⟨g6, 0, none⟩ = some (.slice A' 256 c') := HA9.c6.cell? 0
     have q7 : w9.cell? ⟨g7, 0, none⟩ = some .nilIface := HA9.c7.cell? 0
     refine ⟨.tuple #[.slice A' 256 c', .nilIface], ?_, A', c', rfl, ⟨x, Om', nm', hs', HPa.out.1, fun y hy => HSb.out y (by simp [hy]), HSb.out _ (by simp), HPa.out.2, ?_⟩, HA9.keep⟩
     ·simp [results, Tryz.results53, go_sem, q6, q7]
     ·have h9 := HA9.st.lessO (Ox' := Ox) (fun j hj => .inl (.inl (.inl hj)))
      rw [folded_twice, HRd.out] at h9
      exact h9
end
end Go.Proofs.YtcehkafddlfleaaGreatDoor

namespace Go.Proofs.YtcehkafddlfleaaGreatDoor
open Go.RowKit
section
variable {w0 w w1 w' w2 : World} {k : Nat} {t t' : Wd} {Om Ox Ox' : Nat → Prop} {hs : List Held} {g gm nm : Nat} {s : Sto} {ks : List UInt8} {rc rn : Rc} {q q1 : Nat} {lim : Int} {F : Nat → Option Pt} {at' c : Nat} {bb b : List UInt8} {A : Option Addr}
theorem AccI.grow (h : AccI w0 w w' k t' Ox hs g gm nm s ks rc rn q1 lim F at' bb b A c) (hb : Below w'.heap.size w' w2) : AccI w0 w w2 k t' Ox hs g gm nm s ks rc rn q1 lim F at' bb b A c := by
 obtain ⟨x, Om', nm', hs', h1, h2, h3, h4, h5⟩ := h.is
 exact ⟨⟨x, Om', nm', hs', h1, h2, h3, h4, h5.grow hb⟩, h.keep.trans ((h5.st.keepBelow hb).less fun j hj => (h5.oth j hj).1)⟩
theorem AccI.back (h : AccI w0 w1 w' k t' Ox' hs g gm nm s ks rc rn q1 lim F at' bb b A c) (hO : ∀ j, Ox j → Ox' j) (hk : Keep Ox w w1) : AccI w0 w w' k t' Ox hs g gm nm s ks rc rn q1 lim F at' bb b A c := by
 obtain ⟨x, Om', nm', hs', h1, h2, h3, h4, h5⟩ := h.is
 exact ⟨⟨x, Om', nm', hs', h1, h2, h3, h4, h5.lessO hO⟩, hk.trans (h.keep.less hO)⟩
end
section
variable {w0 w : World} {k : Nat} {t : Wd} {Om Ox : Nat → Prop} {hs : List Held} {g gm nm : Nat} {s : Sto} {ks : List UInt8} {rc rn : Rc} {q : Nat} {lim : Int} {F : Nat → Option Pt} {po : Bool}
set_option maxRecDepth 100000 in
set_option maxHeartbeats 4000000 in
theorem mRead_any (h : MemW w0 w k t Om Ox hs g gm nm s ks rc rn (q : Int) lim false F) (hk : k + 2 ≤ 1000000) (at' : Nat) (hat : at' ≤ 1000000) (hab : (at' : Int) < rc.blk) (hq : (q : Int) < lim) (hq2 : q ≤ 1048576) (hi : at' / 16 < rc.su.length) (hnm : nm + 1 ≤ 100000)
  (s0 s2 : Nat) (hs0 : s0 = slotI rc.sl (at' : Int)) (hs2 : s2 = slotI rn.sl (at' : Int)) (hl : (readW t ((at' : Int), (s2 : Int))).lost = false) (bb : List UInt8) (hbb : readLw t ((at' : Int), (s2 : Int)) = bb) (hwr : ¬ wrongL bb) (hp : Past rc.num q bb) (hwb : writeB (readW t ((at' : Int), (s2 : Int))) ((at' : Int), ((1 - s0 : Nat) : Int)) = true)
  (b : List UInt8) (hb : b = hideL s.hk rc.num (q + 1) (showL s.hk bb)) :
  Calls Tryz.prog 17 #[.pointer (some ⟨g, 0, none⟩), .int .i64 (at' : Int)] w fun r w' => ∃ A c, r = .returned (.tuple #[.slice A 256 c, .int .i64 0]) ∧ AccI w0 w w' k (writeW (readW t ((at' : Int), (s2 : Int))) ((at' : Int), ((1 - s0 : Nat) : Int)) b) Ox hs g gm nm s ks rc rn (q + 1) lim F at' bb b A c := by
 have HA : Kp _ := ⟨maccess_read h hk at' hat hab hq hq2 hi hnm s0 s2 hs0 hs2 hl bb hbb hwr hp hwb b hb⟩
 clear h hk hat hab hq hq2 hi hnm hs0 hs2 hl hbb hwr hp hwb hb
 go_enter Tryz.func17, Tryz.ntmps17
 go_wp2_with fail
 refine HA.out.mono ?_
 rintro x w2 ⟨A, c, rfl, hI⟩
 have HI : Kp _ := ⟨hI⟩
 clear hI HA
 go_wp2_with fail
 refine (mnumber_ok w2).mono ?_
 rintro x w3 ⟨rfl, hb3⟩
 have HI3 : Kp _ := ⟨HI.out.grow hb3⟩
 clear hb3 HI
 go_wp2
 go_ret2
 exact ⟨A, c, rfl, HI3.out⟩
set_option maxRecDepth 100000 in
set_option maxHeartbeats 4000000 in
theorem mWrite_any (h : MemW w0 w k t Om Ox hs g gm nm s ks rc rn (q : Int) lim false F) (hk : k + 2 ≤ 1000000) (at' : Nat) (hat : at' ≤ 1000000) (hab : (at' : Int) < rc.blk) (hq : (q : Int) < lim) (hq2 : q ≤ 1048576) (hi : at' / 16 < rc.su.length) (hnm : nm + 1 ≤ 100000)
  (s0 s2 : Nat) (hs0 : s0 = slotI rc.sl (at' : Int)) (hs2 : s2 = slotI rn.sl (at' : Int)) (hl : (readW t ((at' : Int), (s2 : Int))).lost = false) (bb : List UInt8) (hbb : readLw t ((at' : Int), (s2 : Int)) = bb) (hwr : ¬ wrongL bb) (hp : Past rc.num q bb) (hwb : writeB (readW t ((at' : Int), (s2 : Int))) ((at' : Int), ((1 - s0 : Nat) : Int)) = true)
  (A0 : Option Addr) (n0 c0 : Nat) (body : List UInt8) (hba : (A0, n0, c0, body) ∈ hs) (hn0 : n0 ≤ 256) (b : List UInt8) (hb : b = hideL s.hk rc.num (q + 1) body) :
  Calls Tryz.prog 19 #[.pointer (some ⟨g, 0, none⟩), .int .i64 (at' : Int), .slice A0 n0 c0] w fun r w' => r = .returned (.int .i64 0) ∧ ∃ A c, AccI w0 w w' k (writeW (readW t ((at' : Int), (s2 : Int))) ((at' : Int), ((1 - s0 : Nat) : Int)) b) Ox hs g gm nm s ks rc rn (q + 1) lim F at' bb b A c := by
 have hb1 : Below w.heap.size w (w.alloc (.cells #[.slice A0 n0 c0] 29)) := (Below.refl _ _).alloc (Nat.le_refl _) _
 have hG := h.guest (p := w.heap.size) hb1 ⟨Nat.le_refl _, by simp⟩
 have HA : Kp _ := ⟨maccess_write hG hk at' hat hab hq hq2 hi hnm s0 s2 hs0 hs2 hl bb hbb hwr hp hwb w.heap.size A0 n0 c0 body (.inr rfl) (Blk.new w _ _) hba hn0 b hb⟩
 have HK : Kp (Keep Ox w (w.alloc (.cells #[.slice A0 n0 c0] 29))) := ⟨(h.st.keepBelow hb1).less fun j hj => (h.oth j hj).1⟩
 clear h hG hb1 hk hat hab hq hq2 hi hnm hs0 hs2 hl hbb hwr hp hwb hb hba hn0
 go_enter Tryz.func19, Tryz.ntmps19
 go_wp2_with fail
 refine HA.out.mono ?_
 rintro x w2 ⟨A, c, rfl, hI⟩
 have HI : Kp _ := ⟨hI.back (Ox := Ox) (fun _ h => .inl h) HK.out⟩
 clear hI HA HK
 go_wp2_with fail
 refine (mnumber_ok w2).mono ?_
 rintro x w3 ⟨rfl, hb3⟩
 have HI3 : Kp _ := ⟨HI.out.grow hb3⟩
 clear hb3 HI
 go_wp2
 go_ret
 exact ⟨rfl, A, c, HI3.out⟩
end
end Go.Proofs.YtcehkafddlfleaaGreatDoor

namespace Go.Proofs.YtcehkafddlfleaaGreatDoor
open Go.RowKit
section
variable {w0 w : World} {k b : Nat} {t : Wd} {Om Om' M M' O : Nat → Prop} {hs : List Held} {ad : Ad} {p : Int × Int → Option Nat} {L : List Hd4}
theorem Parts.fewer (h : Parts w O M b ad t p L) (hM : ∀ k, M' k → M k) (hO : ∀ k, O k → M' k) : Parts w O M' b ad t p L := by
 have hc : Chg (fun _ => False) w w := Chg.refl _ _
 refine ⟨hO, fun k hk => h.lt k (hM k hk), h.ob, h.blk, h.slots, h.lies.stay (fun _ h => h) (fun k _ _ => rfl) hc (fun _ h => h.elim) (fun k hk => .inl (hM k hk)), h.seal0.chg hc (fun _ h => h.elim) (fun k hk => .inl (hM k hk)), h.seal1.chg hc (fun _ h => h.elim) (fun k hk => .inl (hM k hk)),
  h.trace.stay (fun _ h => h) (fun k _ _ => rfl) hc (fun _ h => h.elim) (fun k hk => .inl (hM k hk)), h.big, h.pow, h.num, h.read, h.two⟩
theorem StM.disown {g o n c : Nat} {l : List UInt8} (h : StM w0 w k b t Om hs) (hg : Om g) (hO : ∀ j, Om' j → Om j ∧ j ≠ g) (ha : Bs w w.heap.size (some ⟨g, o, none⟩) n c l) (hn : n ≤ 4294967296) : StM w0 w k b t Om' ((some ⟨g, o, none⟩, n, c, l) :: hs) := by
 obtain ⟨M, O, ad, p, L, hP, h1, h2, hh⟩ := h.is
 refine ⟨⟨fun j => M j ∧ j ≠ g, O, ad, p, L, hP.fewer (fun j hj => hj.1) (fun j hj => ⟨hP.sub j hj, fun e => (h1 g hg).2 (e ▸ hj)⟩), fun j hj => ⟨⟨(h1 j (hO j hj).1).1, (hO j hj).2⟩, (h1 j (hO j hj).1).2⟩, fun j hj => h2 j hj.1, fun x hx => ?_⟩, h.below, h.small⟩
 rcases List.mem_cons.1 hx with rfl | hx
 ·exact ⟨ha, fun ad e _ hm => hm.2 (by cases e; rfl), hn⟩
 ·have hb := hh x hx
  exact ⟨hb.bs, fun ad e h0 hm => hb.apart ad e h0 hm.1, hb.fit⟩
end
def partB (N i : Nat) : List Nat := (List.range (min ((i + 1) * 16) N - i * 16)).map (fun j => i * 16 + j)
theorem partB_mem {N i j : Nat} : j ∈ partB N i ↔ i * 16 ≤ j ∧ j < i * 16 + 16 ∧ j < N := by
 obtain ⟨u, hu⟩ : ∃ u, u = i * 16 := ⟨_, rfl⟩
 have hu2 : (i + 1) * 16 = u + 16 := by rw [hu, Nat.succ_mul]
 unfold partB
 rw [hu2, ← hu, List.mem_map]
 clear hu hu2
 simp only [List.mem_range]
 constructor
 ·rintro ⟨a, h, rfl⟩
  have h1 := Nat.min_le_left (u + 16) N
  have h2 := Nat.min_le_right (u + 16) N
  exact ⟨by omega, by omega, by omega⟩
 ·rintro ⟨h1, h2, h3⟩
  have h4 : j + 1 ≤ min (u + 16) N := Nat.le_min.2 ⟨by omega, by omega⟩
  exact ⟨j - u, by omega, by omega⟩
end Go.Proofs.YtcehkafddlfleaaGreatDoor

namespace Go.Proofs.YtcehkafddlfleaaGreatDoor
open Go.RowKit
def foldV (v : Nat → List UInt8) (l : List Nat) (d : List UInt8) : List UInt8 := l.foldl (fun d (i : Nat) => addL d (v i)) d
def curV (ks : List UInt8) (r : Rc) (f : Int × Int → List UInt8) (i : Nat) : List UInt8 := ofL ks (i : Int) (f ((i : Int), (slotI r.sl (i : Int) : Int)))
section
variable {v v' : Nat → List UInt8} {l : List Nat} {a d : List UInt8}
theorem foldV_nil : foldV v [] d = d := by simp only [foldV, List.foldl_nil]
theorem foldV_cons {i : Nat} : foldV v (i :: l) d = foldV v l (addL d (v i)) := by simp only [foldV, List.foldl_cons]
theorem foldV_add : ∀ (l : List Nat) (a d : List UInt8), foldV v l (addL a d) = addL a (foldV v l d) := by
 intro l
 induction l with
 | nil => intro a d; rw [foldV_nil, foldV_nil]
 | cons i l ih => intro a d; rw [foldV_cons, foldV_cons, addL_assoc, ih]
theorem foldV_congr : ∀ (l : List Nat) (d : List UInt8), (∀ i ∈ l, v' i = v i) → foldV v' l d = foldV v l d := by
 intro l
 induction l with
 | nil => intro d _; rw [foldV_nil, foldV_nil]
 | cons i l ih => intro d h; rw [foldV_cons, foldV_cons, h i (by simp), ih _ (fun j hj => h j (by simp [hj]))]
theorem foldV_turn {k : Nat} : ∀ (l : List Nat) (d : List UInt8), l.Nodup → k ∈ l → (∀ i, i ≠ k → v' i = v i) → addL (v' k) (foldV v l d) = addL (v k) (foldV v' l d) := by
 intro l
 induction l with
 | nil => intro d _ h _; cases h
 | cons i l ih =>
  intro d hn hk h
  obtain ⟨h1, h2⟩ := List.nodup_cons.1 hn
  rw [foldV_cons, foldV_cons]
  by_cases e : i = k
  ·subst e
   rw [foldV_congr l (addL d (v' i)) (fun j hj => h j (fun e => h1 (e ▸ hj))), addL_comm (v i) d, addL_comm (v' i) d, foldV_add, foldV_add, ← addL_assoc, ← addL_assoc, addL_comm (v i) (v' i)]
  ·rw [h i e]
   rcases List.mem_cons.1 hk with e2 | hk
   ·exact absurd e2.symm e
   ·exact ih _ h2 hk h
theorem bal_access {k : Nat} {rd wr : List UInt8} (hb : wr = foldV v l rd) (hn : l.Nodup) (hk : k ∈ l) (h : ∀ i, i ≠ k → v' i = v i) : addL wr (v' k) = foldV v' l (addL rd (v k)) := by
 rw [addL_comm (v k) rd, foldV_add, ← foldV_turn l rd hn hk h, hb]
 exact addL_comm _ _
theorem foldV_len (hd : d.length = 32) : (foldV v l d).length = 32 := by
 induction l generalizing d with
 | nil => rw [foldV_nil]; exact hd
 | cons i l ih => rw [foldV_cons]; exact ih (addL_length _ _)
end
theorem partB_nodup (N i : Nat) : (partB N i).Nodup := by
 unfold partB
 exact List.pairwise_map.2 (List.nodup_range.imp (fun {a b} h e => h (by omega)))
structure Bal (ks : List UInt8) (rc rn : Rc) (f : Int × Int → List UInt8) (N : Nat) (F : Nat → Option Pt) : Prop where
 touched : ∀ i x, F i = some x → x.wr = foldV (curV ks rn f) (partB N i) x.rd
 other : ∀ i, F i = none → i * 16 < N → rc.su.getD i [] = foldV (curV ks rn f) (partB N i) z32
section
variable {ks : List UInt8} {rc rn rn' : Rc} {f f' : Int × Int → List UInt8} {N k : Nat} {F : Nat → Option Pt} {x : Pt}
theorem Bal.access (h : Bal ks rc rn f N F) (hk : k < N) (hx : PartA F (k / 16) rc.su x) (hv : ∀ i, i ≠ k → curV ks rn' f' i = curV ks rn f i) :
  Bal ks rc rn' f' N (folded F (k / 16) x.p (addL x.rd (curV ks rn f k)) (addL x.wr (curV ks rn' f' k))) := by
 have hm : k ∈ partB N (k / 16) := partB_mem.2 ⟨by omega, by omega, hk⟩
 have hx0 : x.wr = foldV (curV ks rn f) (partB N (k / 16)) x.rd := by
  cases hF : F (k / 16) with
  | some y => rw [hx.there y hF]; exact h.touched _ y hF
  | none =>
   obtain ⟨h1, h2⟩ := hx.new hF
   rw [h1, h2]
   exact h.other _ hF (by omega)
 have ho : ∀ i, i ≠ k / 16 → ∀ d, foldV (curV ks rn' f') (partB N i) d = foldV (curV ks rn f) (partB N i) d := fun i hi d => foldV_congr _ _ (fun j hj => hv j (fun e => by have := partB_mem.1 hj; omega))
 refine ⟨fun i y hy => ?_, fun i hi hN => ?_⟩
 ·unfold folded at hy
  by_cases e : i = k / 16
  ·rw [if_pos e] at hy
   cases hy
   rw [e]
   exact bal_access hx0 (partB_nodup N _) hm hv
  ·rw [if_neg e] at hy
   rw [ho i e]
   exact h.touched i y hy
 ·unfold folded at hi
  by_cases e : i = k / 16
  ·rw [if_pos e] at hi; cases hi
  ·rw [if_neg e] at hi
   rw [ho i e]
   exact h.other i hi hN
end
end Go.Proofs.YtcehkafddlfleaaGreatDoor

namespace Go.Proofs.YtcehkafddlfleaaGreatDoor
open Go.RowKit
section
variable {rc rn : Rc} {k : Nat}
theorem nowR_at (hr : Rt rn) (hk : (k : Int) < rn.blk) : slotI (nowR rc rn (k : Int)).sl (k : Int) = 1 - slotI rc.sl (k : Int) := by
 have h1 := slotI_le rn.sl (k : Int)
 have h2 := slotI_le rc.sl (k : Int)
 unfold nowR
 split
 ·next e => exact e
 ·next e =>
  rw [flipR_nat rn k hk, slotI_nat (flipL rn.sl k), flip_slot_eq (rt_byte hr hk), ← slotI_nat rn.sl k]
  omega
theorem nowR_ne (hr : Rt rn) (hk : (k : Int) < rn.blk) {i : Nat} (hi : i ≠ k) : slotI (nowR rc rn (k : Int)).sl (i : Int) = slotI rn.sl (i : Int) := by
 unfold nowR
 split
 ·rfl
 ·rw [flipR_nat rn k hk, slotI_nat, slotI_nat]
  exact flip_slot_ne (rt_byte hr hk) hi
theorem nowR_rt (hr : Rt rn) (hk : (k : Int) < rn.blk) : Rt (nowR rc rn (k : Int)) := by
 unfold nowR
 split
 ·exact hr
 ·exact rt_flip hr hk
theorem nowR_blk (k : Int) : (nowR rc rn k).blk = rn.blk ∧ (nowR rc rn k).num = rn.num ∧ (nowR rc rn k).su = rn.su := by
 unfold nowR flipR
 split
 ·exact ⟨rfl, rfl, rfl⟩
 ·split <;> exact ⟨rfl, rfl, rfl⟩
end
theorem in_slot {N k : Nat} (hk : k < N) {s : Nat} (hs : s ≤ 1) : inR N ((k : Int), (s : Int)) = true := by
 unfold inR
 simp only [Bool.and_eq_true, decide_eq_true_eq]
 omega
structure Hon9 (t : Wd) (rc rn : Rc) (N : Nat) : Prop where
 hw : Hw t
 n : t.n = N
 rtc : Rt rc
 rtn : Rt rn
 bc : rc.blk = (N : Int)
 bn : rn.blk = (N : Int)
 len : ∀ x, inR N x = true → (t.sl x).length = 272
section
variable {t : Wd} {rc rn : Rc} {N k : Nat} {b : List UInt8}
theorem Hon9.access (h : Hon9 t rc rn N) (hk : k < N) (hb : b.length = 272) :
  (readW t ((k : Int), (slotI rn.sl (k : Int) : Int))).lost = false ∧ readLw t ((k : Int), (slotI rn.sl (k : Int) : Int)) = t.sl ((k : Int), (slotI rn.sl (k : Int) : Int)) ∧
   writeB (readW t ((k : Int), (slotI rn.sl (k : Int) : Int))) ((k : Int), ((1 - slotI rc.sl (k : Int) : Nat) : Int)) = true ∧
   Hon9 (writeW (readW t ((k : Int), (slotI rn.sl (k : Int) : Int))) ((k : Int), ((1 - slotI rc.sl (k : Int) : Nat) : Int)) b) rc (nowR rc rn (k : Int)) N ∧
   (writeW (readW t ((k : Int), (slotI rn.sl (k : Int) : Int))) ((k : Int), ((1 - slotI rc.sl (k : Int) : Nat) : Int)) b).sl = (fun y => if y = ((k : Int), ((1 - slotI rc.sl (k : Int) : Nat) : Int)) then b else t.sl y) ∧
   SameW t (readW t ((k : Int), (slotI rn.sl (k : Int) : Int))) := by
 have hkb : (k : Int) < rn.blk := by rw [h.bn]; omega
 obtain ⟨h1, h2, h3⟩ := hw_read h.hw (x := ((k : Int), (slotI rn.sl (k : Int) : Int))) (by rw [h.n]; exact in_slot hk (slotI_le _ _))
 have hx : inR N ((k : Int), ((1 - slotI rc.sl (k : Int) : Nat) : Int)) = true := in_slot hk (by omega)
 obtain ⟨g1, g2, g3, g4, g5, g6, g7⟩ := hw_write h2 (x := ((k : Int), ((1 - slotI rc.sl (k : Int) : Nat) : Int))) (l := b) (by rw [h3.n, h.n]; exact hx) (by rw [h3.sl]; exact h.len _ hx) hb
 rw [h3.sl] at g3
 refine ⟨h2.lost, h1, g1, ⟨g2, by rw [g4, h3.n, h.n], h.rtc, nowR_rt h.rtn hkb, h.bc, by rw [(nowR_blk _).1, h.bn], fun y hy => ?_⟩, g3, h3⟩
 rw [g3]
 show (if y = ((k : Int), ((1 - slotI rc.sl (k : Int) : Nat) : Int)) then b else t.sl y).length = 272
 split
 ·exact hb
 ·exact h.len y hy
theorem Hon9.others {ks : List UInt8} (h : Hon9 t rc rn N) (hk : k < N) {i : Nat} (hi : i ≠ k) : curV ks (nowR rc rn (k : Int)) (fun y => if y = ((k : Int), ((1 - slotI rc.sl (k : Int) : Nat) : Int)) then b else t.sl y) i = curV ks rn t.sl i := by
 unfold curV
 rw [nowR_ne h.rtn (by rw [h.bn]; omega) hi]
 have hne : ¬ (((i : Int), (slotI rn.sl (i : Int) : Int)) = ((k : Int), ((1 - slotI rc.sl (k : Int) : Nat) : Int))) := fun e => hi (by have := congrArg Prod.fst e; simp at this; omega)
 simp only [hne, if_false]
theorem Hon9.this {ks : List UInt8} (h : Hon9 t rc rn N) (hk : k < N) : curV ks (nowR rc rn (k : Int)) (fun y => if y = ((k : Int), ((1 - slotI rc.sl (k : Int) : Nat) : Int)) then b else t.sl y) k = ofL ks (k : Int) b := by
 unfold curV
 rw [nowR_at h.rtn (by rw [h.bn]; omega)]
 simp only [if_true]
end
end Go.Proofs.YtcehkafddlfleaaGreatDoor
