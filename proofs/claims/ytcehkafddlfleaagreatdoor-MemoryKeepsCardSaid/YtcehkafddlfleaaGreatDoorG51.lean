/- 
   
   
   
    -/
import Derived.Test.YtcehkafddlfleaaGreatDoorG02
import Derived.Test.YtcehkafddlfleaaGreatDoorG50
import Derived.Test.YtcehkafddlfleaaGreatDoorG40
import Derived.Test.YtcehkafddlfleaaGreatDoorG05
import Derived.Test.YtcehkafddlfleaaGreatDoorG35
import Derived.Test.YtcehkafddlfleaaGreatDoorG01
namespace Go.Proofs.YtcehkafddlfleaaGreatDoor
open Go.RowKit
section
variable {w0 w w' : World} {k : Nat} {t : Wd} {Om Ox : Nat → Prop} {hs : List Held} {g gm nm : Nat} {s : Sto} {ks : List UInt8} {rc rn : Rc} {q lim : Int} {po : Bool} {F : Nat → Option Pt}
theorem MemW.begun (h : MemW w0 w k t Om Ox hs g gm nm s ks rc rn q lim po F) {mp : Nat} (hmp : w.heap.size ≤ mp) (h2 : StM w0 w' k s.b t (fun j => Om j ∨ j = mp) hs) {r : Rc} {A D : Option Addr} {n c m e : Nat} (hb : Blk w' g 124 (mmL s (rcL r.num r.blk A n c D m e) (rcL r.num r.blk A n c D m e) 0 lim (some mp) po)) (hI : MapI w' Tryz.prog 3 kvI okI mp 0 (fun _ => none)) (hH : Hld hs A n c D m e r) :
  MemW w0 w' k t (fun j => Om j ∨ j = mp) Ox hs g mp 0 s ks r r 0 lim po (fun _ => none) := by
 have hx := fun j (hj : Om j) => (h.st.lt hj).2
 refine ⟨h2, ⟨.inl h.mine.1, .inr rfl, by have := hx g h.mine.1; omega⟩, fun j hj => ⟨.inl (h.oth j hj).1, (h.oth j hj).2.1, by have := hx j (h.oth j hj).1; omega, fun i x hx => (by cases hx)⟩, h.key, h.sum, ⟨A, n, c, D, m, e, A, n, c, D, m, e, hb, hH, hH⟩, by rw [mpF_none]; exact hI, fun i x hx => (by cases hx), fun i j x y hx => (by cases hx), by omega⟩
set_option maxRecDepth 100000 in
set_option maxHeartbeats 8000000 in
theorem msync_ok (h : MemW w0 w k t Om Ox hs g gm nm s ks rc rn q lim false F) (N m : Nat) (hN : rc.blk = (N : Int)) (hN9 : N ≤ 4096) (hm : rn.su.length = m) (hm0 : 0 < m) (hm9 : m ≤ 256) (hF : ∀ i, (F i).isSome = true → i < m) (hk : k + 16 * m ≤ 999990) (hL : Lw t) (T' : Wd × List (List UInt8)) (hA : audO ks rn N F (presL F m) t rn.su = some T')
  (kt : List UInt8) (hkt : (s.TA, 32, s.tc, kt) ∈ hs) (M : Nat) (hM : M = rn.num + 1) (hM9 : M < 18446744073709551616) (hT : Rt ⟨M, rn.blk, rn.sl, T'.2⟩) (hE : (encL kt ⟨M, rn.blk, rn.sl, T'.2⟩).length ≤ 1000000) (hS : sealB T'.1 ((M % 2 : Nat) : Int) (encL kt ⟨M, rn.blk, rn.sl, T'.2⟩) = true) (hB : bumpB (sealedW T'.1 ((M % 2 : Nat) : Int) (encL kt ⟨M, rn.blk, rn.sl, T'.2⟩)) = true) :
  Calls Tryz.prog 54 #[.pointer (some ⟨g, 0, none⟩)] w fun r w' => r = .returned .nilIface ∧ ∃ Om' gm' hs', (∀ y ∈ hs, y ∈ hs') ∧ Keep Ox w w' ∧
   MemW w0 w' (k + 16 * m + 2) (bumpW (sealedW T'.1 ((M % 2 : Nat) : Int) (encL kt ⟨M, rn.blk, rn.sl, T'.2⟩))) Om' Ox hs' g gm' 0 s ks ⟨M, rn.blk, rn.sl, T'.2⟩ ⟨M, rn.blk, rn.sl, T'.2⟩ 0 lim false (fun _ => none) := by
 have HKy : Kp (s.hk.length = 16) := ⟨h.key⟩
 have HAu : Kp _ := ⟨fun (W : World) (Om9 Ox9 : Nat → Prop) (h9 : MemW w0 W k t Om9 Ox9 hs g gm nm s ks rc rn q lim false F) => maudit_ok h9 N m hN hN9 hm hm0 hm9 hF (by omega) hL T' hA⟩
 have HC : Kp ((s.TA, 32, s.tc, kt) ∈ hs ∧ M = rn.num + 1 ∧ M < 18446744073709551616 ∧ Rt ⟨M, rn.blk, rn.sl, T'.2⟩ ∧ (encL kt ⟨M, rn.blk, rn.sl, T'.2⟩).length ≤ 1000000 ∧ sealB T'.1 ((M % 2 : Nat) : Int) (encL kt ⟨M, rn.blk, rn.sl, T'.2⟩) = true ∧ bumpB (sealedW T'.1 ((M % 2 : Nat) : Int) (encL kt ⟨M, rn.blk, rn.sl, T'.2⟩)) = true ∧ k + 16 * m + 2 ≤ 1000000) := ⟨hkt, hM, hM9, hT, hE, hS, hB, by omega⟩
 have hz : (w.alloc (.cells #[.pointer (some ⟨g, 0, none⟩)] 30)).heap.size = w.heap.size + 1 := by simp
 have HG : Kp (GuW w0 w ((w.alloc (.cells #[.pointer (some ⟨g, 0, none⟩)] 30)).alloc (.cells #[.nilIface] 117)) k t Ox hs g gm nm s ks rc rn q lim false F [(w.heap.size + 1, 117, [.nilIface]), (w.heap.size, 30, [.pointer (some ⟨g, 0, none⟩)])]) := ⟨by
  have h1 := (GuW.start h).new (W' := w.alloc (.cells #[.pointer (some ⟨g, 0, none⟩)] 30)) ((Below.refl _ _).alloc (Nat.le_refl _) _) (Blk.new w _ _) (Nat.le_refl _)
  have h2 := h1.new (W' := (w.alloc (.cells #[.pointer (some ⟨g, 0, none⟩)] 30)).alloc (.cells #[.nilIface] 117)) ((Below.refl _ _).alloc (Nat.le_refl _) _) (Blk.new _ _ _) (Nat.le_refl _)
  rw [hz] at h2
  exact h2⟩
 have hmf : ∀ (fn : Fn) (first cap : Array Value) (w : World), (Instr.makeFunc fn first cap).run Tryz.prog w = .ok (.func fn first cap) w := fun _ _ _ _ => rfl
 clear h hN hN9 hm hm0 hm9 hF hk hL hA hkt hM hM9 hT hE hS hB hz
 go_enter_defers Tryz.func54, Tryz.ntmps54
 go_upto_region 2 with fail
 obtain ⟨w1, hw1⟩ : ∃ X, X = ((w.alloc (.cells #[.pointer (some ⟨g, 0, none⟩)] 30)).alloc (.cells #[.nilIface] 117)) := ⟨_, rfl⟩
 rw [← hw1] at HG ⊢
 clear hw1
 generalize w.heap.size + 1 = g2 at *
 generalize w.heap.size = g1 at *
 have q1 : w1.cell? ⟨g1, 0, none⟩ = some (.pointer (some ⟨g, 0, none⟩)) := (HG.out.blk (g1, 30, [.pointer (some ⟨g, 0, none⟩)]) (by simp)).cell? 0
 go_wp2_with fail
 obtain ⟨Om1, hm1⟩ := HG.out.st
 obtain ⟨A9, n9, c9, D9, m9, e9, A8, n8, c8, D8, m8, e8, hMx, hL3, hL4⟩ := hm1.mem
 refine (msound_ok hMx HKy.out rfl rfl).mono ?_
 rintro x2 w2 ⟨rfl, hw2⟩
 have HG2 : Kp _ := ⟨HG.out⟩
 rw [← hw2] at HG2 q1
 clear hw2 hMx hL3 hL4 hm1 HG
 go_upto_region 5 with fail
 go_wp2_with fail
 obtain ⟨Om2, hm2⟩ := HG2.out.st
 refine (HAu.out w2 Om2 _ hm2).mono ?_
 rintro x3 w3 ⟨A, n, c, D, e, hs', Om3, F', rfl, hsub, hH, h3, k3⟩
 have HG3 : Kp _ := ⟨HG2.out.step h3 k3⟩
 have HH : Kp ((∀ y ∈ hs, y ∈ hs') ∧ Hld hs' A n c D m e ⟨rn.num, rn.blk, rn.sl, T'.2⟩) := ⟨hsub, hH⟩
 clear hm2 hsub hH h3 k3 HG2 q1 HAu
 have q2 : w3.cell? ⟨g2, 0, none⟩ = some .nilIface := (HG3.out.blk (g2, 117, [.nilIface]) (by simp)).cell? 0
 go_wp2_with (with_reducible refine wpList_alloc (o := ⟨some 4, _, _, _, _, _⟩) tySeal rfl rfl ?_)
 intro w4 hk4 hb4 hs4
 have HG4 : Kp _ := ⟨HG3.out.new hb4 hk4 (Nat.le_refl _)⟩
 have HK4 : Kp _ := ⟨hk4⟩
 obtain ⟨g4, hg4⟩ : ∃ z, z = w3.heap.size := ⟨_, rfl⟩
 rw [← hg4] at HG4 HK4 ⊢
 clear hk4 hb4 hs4 hg4 HG3 q2
 go_wp2_with (with_reducible refine wpList_storeAll (o := ⟨none, _, _, _, _, _⟩) (vs := rcL rn.num rn.blk A n c D m e) rwSeal rfl (.tmp 4) (.tmp 15) rfl rfl HK4.out rfl rfl (rcL_one _ _ _ _ _ _ _ _) rfl ?_)
 intro w5 hk5 ho5
 have HG5 : Kp _ := ⟨GuW.set (L1 := []) HG4.out ho5 hk5⟩
 clear hk5 ho5 HG4 HK4
 have b2 := HG5.out.blk (g2, 117, [.nilIface]) (by simp)
 have q2 : w5.cell? ⟨g2, 0, none⟩ = some .nilIface := b2.cell? 0
 have f2 := b2.frozen 0
 clear b2
 go_upto_region 8 with fail
 have HG6 : Kp (GuW w0 w (w5.setCell ⟨g2, 0, none⟩ .nilIface) (k + 16 * m) T'.1 Ox hs' g gm nm s ks rc rn q lim false F' [(g4, tS, rcL rn.num rn.blk A n c D m e), (g2, 117, [.nilIface]), (g1, 30, [.pointer (some ⟨g, 0, none⟩)])]) := ⟨GuW.set (L1 := [_]) HG5.out (Only.setCell w5 ⟨g2, 0, none⟩ _) ((HG5.out.blk (g2, 117, [.nilIface]) (by simp)).set 0 .nilIface)⟩
 generalize w5.setCell ⟨g2, 0, none⟩ .nilIface = w6 at *
 clear q2 f2 HG5
 go_cut [5] from 20 to 28 (fun v5 wx => ∃ g5, v5 = .pointer (some ⟨g5, 0, none⟩) ∧ Kp (GuW w0 w wx (k + 16 * m + 2) (bumpW (sealedW T'.1 ((M % 2 : Nat) : Int) (encL kt ⟨M, rn.blk, rn.sl, T'.2⟩))) Ox hs' g gm nm s ks rc rn q lim false F' [(g5, tS, rcL M rn.blk A n c D m e), (g4, tS, rcL rn.num rn.blk A n c D m e), (g2, 117, [.nilIface]), (g1, 30, [.pointer (some ⟨g, 0, none⟩)])]))
 case first =>
  refine wp_noPanic ?_
  have HG : Kp _ := ⟨HG6.out⟩
  clear HG6
  go_wp2_with fail
  refine wp_region_any (by kernel_rfl) ?_
  change wpAny _ _ _ _ _ _ _ w6.drew
  replace HG : Kp _ := ⟨HG.out.drew⟩
  generalize w6.drew = wS at *
  repeat' (first
   | ((with_reducible change ite (Region.wanted ⟨some 21, _, _, _, _, _⟩ _ = true) _ _); have q0 : wS.cell? ⟨g1, 0, none⟩ = some (.pointer (some ⟨g, 0, none⟩)) := (HG.out.blk (g1, 30, [.pointer (some ⟨g, 0, none⟩)]) (by simp)).cell? 0; go_simp; refine hK _ _ ?_; clear hK K q0; (try simp only [Act.put, sA, sB, sC]); refine wT 1 22 ?_ rfl ?_; (try simp only [Act.put, sA, sB, sC]); refine wT 2 23 ?_ rfl ?_; (try simp only [Act.put, sA, sB, sC]))
   | ((with_reducible change ite (Region.wanted ⟨some 24, _, _, _, _, _⟩ _ = true) _ _); obtain ⟨Om9, hm9⟩ := HG.out.st; obtain ⟨A9, n9, c9, D9, m9, e9, A8, n8, c8, D8, m8, e8, hMx, hL3, hL4⟩ := hm9.mem; refine step_load rwSto rfl (.tmp 23) rfl rfl hMx (by rw [mmL_length HKy.out rfl rfl]; decide) (mm_store HKy.out) ?_; clear hMx hL3 hL4 hm9 A9 n9 c9 D9 m9 e9 A8 n8 c8 D8 m8 e8; refine hK _ _ ?_; clear hK K; (try simp only [Act.put, sA, sB, sC]))
   | ((with_reducible change ite (Region.wanted ⟨some 25, _, _, _, _, _⟩ _ = true) _ _); refine step_load rwSeal rfl (.tmp 4) rfl rfl (HG.out.blk (g4, tS, rcL rn.num rn.blk A n c D m e) (by simp)) (Nat.le_refl _) (vs := rcL rn.num rn.blk A n c D m e) rfl ?_; refine hK _ _ ?_; clear hK K; (try simp only [Act.put, sA, sB, sC]))
   | ((with_reducible change ite (Region.wanted ⟨some 26, _, _, _, _, _⟩ _ = true) _ _); go_simp; obtain ⟨Om9, hm9⟩ := HG.out.st; refine (scert_any hm9.st HC.out.2.2.2.2.2.2.2 HKy.out kt (HH.out.1 _ HC.out.1) ⟨rn.num, rn.blk, rn.sl, T'.2⟩ A n c D m e (HH.out.2.rs hm9.st) M HC.out.2.1 HC.out.2.2.1 HC.out.2.2.2.1 HC.out.2.2.2.2.1 HC.out.2.2.2.2.2.1 HC.out.2.2.2.2.2.2.1).mono ?_; rintro z wZ ⟨rfl, h9, k9⟩; replace HG : Kp _ := ⟨HG.out.step (hm9.keep h9 k9 (fun _ h => h)) (k9.less fun z hz => (hm9.oth z hz).1)⟩; clear h9 k9 hm9; refine hK _ _ ?_; clear hK K; obtain ⟨wS, rfl⟩ : ∃ x, x = wZ := ⟨_, rfl⟩; refine wT 6 20 ?_ rfl ?_; (try simp only [Act.put, sA, sB, sC]); refine wT 7 27 ?_ rfl ?_; (try simp only [Act.put, sA, sB, sC]); refine wT 8 28 ?_ rfl ?_; (try simp only [Act.put, sA, sB, sC]))
   | ((with_reducible change ite (Region.wanted ⟨some 5, _, _, _, _, _⟩ _ = true) _ _); refine step_alloc tySeal rfl rfl ?_; intro wZ hk hb'; replace HG : Kp _ := ⟨HG.out.new hb' hk (Nat.le_refl _)⟩; obtain ⟨g5, hg5⟩ : ∃ z, z = wS.heap.size := ⟨_, rfl⟩; rw [← hg5] at HG ⊢; clear hk hb' hg5; refine hK _ _ ?_; clear hK K; (try simp only [Act.put, sA, sB, sC]); obtain ⟨wS, rfl⟩ : ∃ x, x = wZ := ⟨_, rfl⟩)
   | ((with_reducible change ite (Region.wanted ⟨none, (Go.Op.store _ (Go.Operand.tmp 5) (Go.Operand.tmp 27)), _, _, _, _⟩ _ = true) _ _); refine step_store rwSeal rfl (.tmp 5) (.tmp 27) rfl rfl rfl (vs := rcL M rn.blk A n c D m e) (HG.out.blk (g5, tS, rcZ) (by simp)) rfl (Nat.le_refl _) (rcL_one _ _ _ _ _ _ _ _) ?_; intro wZ hk ho; replace HG : Kp _ := ⟨GuW.set (L1 := []) HG.out ho hk⟩; clear hk ho; refine hK _ _ ?_; clear hK K; (try simp only [Act.put]); obtain ⟨wS, rfl⟩ : ∃ x, x = wZ := ⟨_, rfl⟩)
   | ((with_reducible change ite (Region.wanted ⟨none, (Go.Op.store _ (Go.Operand.tmp 2) (Go.Operand.tmp 28)), _, _, _, _⟩ _ = true) _ _); have b0 := (HG.out.blk (g2, 117, [.nilIface]) (by simp)); have q0 : wS.cell? ⟨g2, 0, none⟩ = some .nilIface := b0.cell? 0; have f0 := b0.frozen 0; clear b0; go_simp; refine hK _ _ ?_; clear hK K q0 f0; (try simp only [Act.put, sA, sB, sC]); replace HG : Kp _ := ⟨GuW.set (L1 := [_, _]) HG.out (Only.setCell wS ⟨g2, 0, none⟩ .nilIface) (((HG.out.blk (g2, 117, [.nilIface]) (by simp))).set 0 .nilIface)⟩; generalize wS.setCell ⟨g2, 0, none⟩ .nilIface = wZ at *; obtain ⟨wS, rfl⟩ : ∃ x, x = wZ := ⟨_, rfl⟩)
   | (refine rD [0, 4, 9] ?_; refine AllReady.cons (o := ⟨some 21, _, _, _, _, _⟩) rfl (fun K hK => ?_) (aS 25 5 rfl rfl (fun K hK => ?_) fun K hK => ?_))
   | (refine rD [3, 4, 9] ?_; refine AllReady.cons (o := ⟨some 24, _, _, _, _, _⟩) rfl (fun K hK => ?_) (aS 25 5 rfl rfl (fun K hK => ?_) fun K hK => ?_))
   | (refine rD [0, 4] ?_; refine aS 21 25 rfl rfl (fun K hK => ?_) fun K hK => ?_)
   | (refine rD [0, 9] ?_; refine aS 21 5 rfl rfl (fun K hK => ?_) fun K hK => ?_)
   | (refine rD [3, 4] ?_; refine aS 24 25 rfl rfl (fun K hK => ?_) fun K hK => ?_)
   | (refine rD [3, 9] ?_; refine aS 24 5 rfl rfl (fun K hK => ?_) fun K hK => ?_)
   | (refine rD [4, 9] ?_; refine aS 25 5 rfl rfl (fun K hK => ?_) fun K hK => ?_)
   | (refine rD [5, 9] ?_; refine aS 26 5 rfl rfl (fun K hK => ?_) fun K hK => ?_)
   | (refine rD [0] ?_; refine aR 21 rfl fun K hK => ?_)
   | (refine rD [3] ?_; refine aR 24 rfl fun K hK => ?_)
   | (refine rD [4] ?_; refine aR 25 rfl fun K hK => ?_)
   | (refine rD [5] ?_; refine aR 26 rfl fun K hK => ?_)
   | (refine rD [9] ?_; refine aR 5 rfl fun K hK => ?_)
   | (refine rD [10] ?_; refine AllReady.cons (o := ⟨none, _, _, _, _, _⟩) rfl (fun K hK => ?_) AllReady.nil)
   | (refine rD [11] ?_; refine AllReady.cons (o := ⟨none, _, _, _, _, _⟩) rfl (fun K hK => ?_) AllReady.nil)
   | (refine wpAny_done (by decide +kernel) ?_ _; go_wp2_with fail; go_meet; case rel => exact ⟨g5, rfl, HG⟩)
   | fail)
 case rest =>
  obtain ⟨g5, rfl, HG7⟩ := hcut
  clear HG6
  have q1 : wc.cell? ⟨g1, 0, none⟩ = some (.pointer (some ⟨g, 0, none⟩)) := (HG7.out.blk (g1, 30, [.pointer (some ⟨g, 0, none⟩)]) (by simp)).cell? 0
  have q2 : wc.cell? ⟨g2, 0, none⟩ = some .nilIface := (HG7.out.blk (g2, 117, [.nilIface]) (by simp)).cell? 0
  have B5 : Kp _ := ⟨HG7.out.blk (g5, tS, rcL M rn.blk A n c D m e) (by simp)⟩
  go_upto_region 11 with fail
  go_wp2_with (with_reducible refine wpList_loadAll (o := ⟨some 33, _, _, _, _, _⟩) rwSeal rfl (.tmp 5) rfl rfl B5.out rfl ?_)
  obtain ⟨Om7, hm7⟩ := HG7.out.st
  obtain ⟨A9, n9, c9, D9, m9, e9, A8, n8, c8, D8, m8, e8, hMx, hL3, hL4⟩ := hm7.mem
  refine (begin_any hm7.st g hm7.mine.1 HKy.out _ _ rfl rfl q lim (some gm) false hMx ⟨M, rn.blk, rn.sl, T'.2⟩ A n c D m e).mono ?_
  rintro x8 w8 ⟨mp, rfl, hmp, h8, hM8, hI8, k8⟩
  have hH9 : Hld hs' A n c D m e ⟨M, rn.blk, rn.sl, T'.2⟩ := ⟨HC.out.2.2.1, HH.out.2.blk, HH.out.2.sl, HH.out.2.su, HH.out.2.len, HH.out.2.cap, HH.out.2.max, HH.out.2.nil, HH.out.2.wide, HH.out.2.sm⟩
  have HG8 : Kp _ := ⟨HG7.out.step (hm7.begun hmp h8 hM8 hI8 hH9) (k8.less fun z hz => ⟨(hm7.oth z hz).1, (hm7.oth z hz).2.1⟩)⟩
  clear hMx hL3 hL4 hm7 hmp h8 hM8 hI8 k8 hH9 HG7 q1 q2 B5
  have b2 := HG8.out.blk (g2, 117, [.nilIface]) (by simp)
  have q2 : w8.cell? ⟨g2, 0, none⟩ = some .nilIface := b2.cell? 0
  have f2 := b2.frozen 0
  clear b2
  go_wp2_with fail
  have HG9 : Kp _ := ⟨GuW.set (L1 := [_, _]) HG8.out (Only.setCell w8 ⟨g2, 0, none⟩ .nilIface) ((HG8.out.blk (g2, 117, [.nilIface]) (by simp)).set 0 .nilIface)⟩
  generalize w8.setCell ⟨g2, 0, none⟩ .nilIface = w9 at *
  clear q2 f2 HG8
  refine leaves_cons (f := 99) (args := #[.pointer (some ⟨g1, 0, none⟩), .pointer (some ⟨g2, 0, none⟩)]) (by simp) (by simp [go_sem]) ?_
  refine (sync_deferred .returning w9 g1 g2 g (HG9.out.blk (g1, 30, [.pointer (some ⟨g, 0, none⟩)]) (by simp)) (HG9.out.blk (g2, 117, [.nilIface]) (by simp))).mono ?_
  rintro e9 u' w10 ⟨rfl, rfl, hb10⟩
  have HG10 := HG9.out.grow hb10
  have q2 : w10.cell? ⟨g2, 0, none⟩ = some .nilIface := (HG10.blk (g2, 117, [.nilIface]) (by simp)).cell? 0
  obtain ⟨Om10, hm10⟩ := HG10.done
  refine ⟨.nilIface, ?_, rfl, Om10, mp, hs', HH.out.1, HG10.keep, hm10⟩
  simp [results, Tryz.results54, go_sem, q2]
end
end Go.Proofs.YtcehkafddlfleaaGreatDoor

namespace Go.Proofs.YtcehkafddlfleaaGreatDoor
open Go.RowKit
section
variable {w0 w : World} {k : Nat} {t : Wd} {Om Ox : Nat → Prop} {hs : List Held} {g gm nm : Nat} {s : Sto} {ks kt : List UInt8} {rc rn : Rc} {q : Nat} {lim : Int} {F : Nat → Option Pt} {N : Nat} {c : Nat → List UInt8}
theorem HonM.lw (h : HonM w0 w k t Om Ox hs g gm nm s ks kt rc rn q lim F N c) : Lw t :=
 ⟨fun z l hz => (by rw [h.hon.hw.lies z] at hz; cases hz), fun x hx => by rw [h.hon.n] at hx; rw [h.hon.len x hx]; omega⟩
theorem HonM.cert (h : HonM w0 w k t Om Ox hs g gm nm s ks kt rc rc 0 lim (fun _ => none) N c) : CertW s.hk ks kt t rc N c :=
 ⟨h.hon, h.sea, fun i hi => h.bal.other i rfl hi, ⟨fun i hi => by
  obtain ⟨h1, e, s1, h2, h3, h4, h5⟩ := h.cont.at_ i hi
  exact ⟨h1, e, s1, h2, h3, h4, .inl (by show e < rc.num + 1; omega)⟩⟩⟩
set_option maxRecDepth 100000 in
set_option maxHeartbeats 4000000 in
theorem mSync_hon (h : HonM w0 w k t Om Ox hs g gm nm s ks kt rc rn q lim F N c) (hN0 : 0 < N) (hN : N ≤ 4096) (hk : k + 16 * ((N + 15) / 16) ≤ 999990) (hc : rc.num < 18446744073709551615) :
  Calls Tryz.prog 21 #[.pointer (some ⟨g, 0, none⟩)] w fun r w' => r = .returned (.int .i64 0) ∧ ∃ t' Om' hs' gm' rc', (∀ y ∈ hs, y ∈ hs') ∧ Keep Ox w w' ∧ rc'.num = rc.num + 1 ∧
   HonM w0 w' (k + 16 * ((N + 15) / 16) + 2) t' Om' Ox hs' g gm' 0 s ks kt rc' rc' 0 lim (fun _ => none) N c := by
 obtain ⟨m, hm⟩ : ∃ m, m = (N + 15) / 16 := ⟨_, rfl⟩
 rw [← hm] at hk ⊢
 have hsl : rn.su.length = m := by rw [h.hon.rtn.su, h.hon.bn, Int.toNat_natCast, hm]
 have hF : ∀ i, (F i).isSome = true → i < m := fun i hi => by have := h.inn i hi; omega
 obtain ⟨t1, hA, hHw, hSm⟩ := audO_hon (presL F m) t rn.su h.hon h.bal (fun i hi => (presL_mem.1 hi).2)
 have hwd : ∀ d ∈ rn.su, d.length = 32 := fun d hd => h.sea.rg.wide d (by rw [← h.same.1]; exact hd)
 have hvl : ∀ i, (foldV (curV ks rn t.sl) (partB N i) z32).length = 32 := fun i => foldV_len z32_length
 obtain ⟨su', hsu'⟩ : ∃ x, x = setsL (fun i => foldV (curV ks rn t.sl) (partB N i) z32) (presL F m) rn.su := ⟨_, rfl⟩
 rw [← hsu'] at hA
 have hlen : su'.length = m := by rw [hsu', setsL_len]; exact hsl
 have hRt : Rt ⟨rn.num + 1, rn.blk, rn.sl, su'⟩ := ⟨h.hon.rtn.lo, h.hon.rtn.hi, h.hon.rtn.sl, by show su'.length = _; rw [hlen, ← hsl]; exact h.hon.rtn.su, h.hon.rtn.zero⟩
 have hRg : Rg ⟨rn.num + 1, rn.blk, rn.sl, su'⟩ := ⟨by show rn.num + 1 < _; rw [h.same.2]; omega, fun d hd => by
  have hd' : d ∈ su' := hd
  rw [hsu'] at hd'
  exact setsL_wide hvl _ _ hwd d hd'⟩
 obtain ⟨s1, s2, s3, s4, s5, s6⟩ := Sea.next (kt := kt) (r' := ⟨rn.num + 1, rn.blk, rn.sl, su'⟩) (h.sea.same hSm.s0 hSm.s1 hSm.ctr) hHw h.hon.rtc (by show rn.num + 1 = rc.num + 1; rw [h.same.2]) hRg hRt (by rw [hSm.ctr, ← h.sea.ctr]; exact hc)
 have HA : Kp _ := ⟨msync_ok h.mem N m h.hon.bc hN hsl (by omega) (by omega) hF (by omega) h.lw (t1, su') hA kt h.tkey (rn.num + 1) rfl (by rw [h.same.2]; omega) hRt (enc_fits kt hRg hRt) s1 s2⟩
 have HE : Kp (∀ w' Om' gm' hs', (∀ y ∈ hs, y ∈ hs') → MemW w0 w' (k + 16 * m + 2) (bumpW (sealedW t1 (((rn.num + 1) % 2 : Nat) : Int) (encL kt ⟨rn.num + 1, rn.blk, rn.sl, su'⟩))) Om' Ox hs' g gm' 0 s ks ⟨rn.num + 1, rn.blk, rn.sl, su'⟩ ⟨rn.num + 1, rn.blk, rn.sl, su'⟩ 0 lim false (fun _ => none) →
   HonM w0 w' (k + 16 * m + 2) (bumpW (sealedW t1 (((rn.num + 1) % 2 : Nat) : Int) (encL kt ⟨rn.num + 1, rn.blk, rn.sl, su'⟩))) Om' Ox hs' g gm' 0 s ks kt ⟨rn.num + 1, rn.blk, rn.sl, su'⟩ ⟨rn.num + 1, rn.blk, rn.sl, su'⟩ 0 lim (fun _ => none) N c) := ⟨fun w' Om' gm' hs' hsub hM => by
  have e6 := s6.trans hSm.sl
  have e5 := s5.trans hSm.n
  refine ⟨hM, ⟨s3, e5.trans h.hon.n, hRt, hRt, h.hon.bn, h.hon.bn, fun x hx => by rw [e6]; exact h.hon.len x hx⟩, ⟨fun i x hx => (by cases hx), fun i _ hi => ?_⟩, ⟨fun i hi => ?_⟩, hRg.num, ⟨rfl, rfl⟩, s4, hsub _ h.tkey, fun i hi => (by cases hi)⟩
  ·rw [e6]
   show su'.getD i [] = foldV (curV ks rn t.sl) (partB N i) z32
   rw [hsu']
   by_cases hp : i ∈ presL F m
   ·rw [setsL_in _ _ hp (by rw [hsl]; exact (presL_mem.1 hp).1)]
   ·rw [setsL_out _ _ hp, h.same.1]
    refine h.bal.other i ?_ hi
    cases e : F i with
    | none => rfl
    | some x => exact absurd (presL_mem.2 ⟨hF i (by rw [e]; rfl), by rw [e]; rfl⟩) hp
  ·rw [e6]
   obtain ⟨h1, e, z, h2, h3, h4, h5⟩ := h.cont.at_ i hi
   exact ⟨h1, e, z, h2, h3, h4, .inl (by show e < rn.num + 1; rw [h.same.2]; omega)⟩⟩
 have HNm : Kp (rn.num = rc.num) := ⟨h.same.2⟩
 clear h hk hm hsl hF hA hHw hSm hwd hvl hsu' hlen hRt hRg s1 s2 s3 s4 s5 s6 hc hN hN0
 go_enter Tryz.func21, Tryz.ntmps21
 go_wp2_with fail
 refine HA.out.mono ?_
 rintro x w2 ⟨rfl, Om', gm', hs', hsub, k2, hM⟩
 have HH : Kp _ := ⟨And.intro hsub (And.intro k2 hM)⟩
 clear hsub k2 hM HA
 go_wp2_with fail
 refine (mnumber_ok w2).mono ?_
 rintro x w3 ⟨rfl, hb3⟩
 have HK3 : Kp (Keep Ox w w3) := ⟨HH.out.2.1.trans ((HH.out.2.2.st.keepBelow hb3).less fun j hj => (HH.out.2.2.oth j hj).1)⟩
 have HH3 : Kp _ := ⟨HE.out w3 Om' gm' hs' HH.out.1 (HH.out.2.2.grow hb3)⟩
 clear hb3
 go_wp2
 go_ret
 exact ⟨rfl, _, Om', hs', gm', _, HH.out.1, HK3.out, by show rn.num + 1 = rc.num + 1; rw [HNm.out], HH3.out⟩
end
end Go.Proofs.YtcehkafddlfleaaGreatDoor

namespace Go.Proofs.YtcehkafddlfleaaGreatDoor
open Go.RowKit
section
variable {w0 w w' : World} {k k' : Nat} {t : Wd} {Om Ox Ox' : Nat → Prop} {hs : List Held} {g gm nm : Nat} {s : Sto} {ks kt : List UInt8} {rc rn : Rc} {q : Nat} {lim lim' : Int} {F : Nat → Option Pt} {N : Nat} {c : Nat → List UInt8} {A : Option Addr} {n ca : Nat} {l : List UInt8}
theorem HonM.grow (h : HonM w0 w k t Om Ox hs g gm nm s ks kt rc rn q lim F N c) (hb : Below w.heap.size w w') : HonM w0 w' k t Om Ox hs g gm nm s ks kt rc rn q lim F N c :=
 ⟨h.mem.grow hb, h.hon, h.bal, h.cont, h.num, h.same, h.sea, h.tkey, h.inn⟩
theorem HonM.drew (h : HonM w0 w k t Om Ox hs g gm nm s ks kt rc rn q lim F N c) : HonM w0 w.drew k t Om Ox hs g gm nm s ks kt rc rn q lim F N c := h.grow (Below.refl _ _).drew
theorem HonM.more (h : HonM w0 w k t Om Ox hs g gm nm s ks kt rc rn q lim F N c) (hk : k ≤ k') : HonM w0 w k' t Om Ox hs g gm nm s ks kt rc rn q lim F N c :=
 ⟨h.mem.more hk, h.hon, h.bal, h.cont, h.num, h.same, h.sea, h.tkey, h.inn⟩
theorem HonM.lessO (h : HonM w0 w k t Om Ox hs g gm nm s ks kt rc rn q lim F N c) (hO : ∀ j, Ox' j → Ox j) : HonM w0 w k t Om Ox' hs g gm nm s ks kt rc rn q lim F N c :=
 ⟨h.mem.lessO hO, h.hon, h.bal, h.cont, h.num, h.same, h.sea, h.tkey, h.inn⟩
theorem HonM.growHold (h : HonM w0 w k t Om Ox hs g gm nm s ks kt rc rn q lim F N c) (hb : Below w.heap.size w w') (hB : BsN w.heap.size w' A n ca l) (hn : n ≤ 4294967296) : HonM w0 w' k t Om Ox ((A, n, ca, l) :: hs) g gm nm s ks kt rc rn q lim F N c :=
 ⟨h.mem.keep (h.mem.st.growHold hb hB hn) (h.mem.st.keepBelow hb) (fun _ hx => List.mem_cons_of_mem _ hx), h.hon, h.bal, h.cont, h.num, h.same, h.sea, List.mem_cons_of_mem _ h.tkey, h.inn⟩
theorem HonM.hold (h : HonM w0 w k t Om Ox hs g gm nm s ks kt rc rn q lim F N c) (ha : Bs w0 w0.heap.size A n ca l) (hn : n ≤ 4294967296) : HonM w0 w k t Om Ox ((A, n, ca, l) :: hs) g gm nm s ks kt rc rn q lim F N c :=
 ⟨h.mem.keep (h.mem.st.hold ha hn) (Keep.refl _ _) (fun _ hx => List.mem_cons_of_mem _ hx), h.hon, h.bal, h.cont, h.num, h.same, h.sea, List.mem_cons_of_mem _ h.tkey, h.inn⟩
theorem HonM.held (h : HonM w0 w k t Om Ox hs g gm nm s ks kt rc rn q lim F N c) (hm : (A, n, ca, l) ∈ hs) : Bs w w.heap.size A n ca l := h.mem.held hm
theorem HonM.guest {p : Nat} (h : HonM w0 w k t Om Ox hs g gm nm s ks kt rc rn q lim F N c) (hb : Below w.heap.size w w') (hp : w.heap.size ≤ p ∧ p < w'.heap.size) : HonM w0 w' k t (fun j => Om j ∨ j = p) (fun j => Ox j ∨ j = p) hs g gm nm s ks kt rc rn q lim F N c :=
 ⟨h.mem.guest hb hp, h.hon, h.bal, h.cont, h.num, h.same, h.sea, h.tkey, h.inn⟩
theorem HonM.other {p : Nat} (h : HonM w0 w k t Om Ox hs g gm nm s ks kt rc rn q lim F N c) (ho : Only p w w') (hp : Ox p) : HonM w0 w' k t Om Ox hs g gm nm s ks kt rc rn q lim F N c :=
 ⟨h.mem.other ho hp, h.hon, h.bal, h.cont, h.num, h.same, h.sea, h.tkey, h.inn⟩
theorem HonM.below (h : HonM w0 w k t Om Ox hs g gm nm s ks kt rc rn q lim F N c) : Below w0.heap.size w0 w := h.mem.st.below
end
section
variable {w0 w : World} {k b : Nat} {Om : Nat → Prop} {hs : List Held} {N : Nat} {m : List UInt8}
theorem mformat_new (h : StM w0 w k b (newW N) Om hs) (hk : k + N + 3 ≤ 1000000) (A : Option Addr) (a c : Nat) (ha : Bs w w.heap.size A a c m) (ha9 : a ≤ 524288) (hN : N ≤ 4096) (hN0 : 0 < N) :
  Calls Tryz.prog 15 #[.pointer (some ⟨b, 0, none⟩), .slice A a c] w fun x w' => x = .returned (.int .i64 0) ∧ Keep Om w w' ∧ StM w0 w' (k + N + 3) b (formW m (newW N)) Om hs :=
 mformat_any h hk A a c m ha ha9 (hw_new N) (fun _ _ => z272_len) hN hN0 (by show 0 + 2 < _; omega)
theorem mount_new (h : StM w0 w k b (formW m (newW N)) Om hs) (hk : k + 4 ≤ 1000000) (A : Option Addr) (a ca : Nat) (ha : Bs w w.heap.size A a ca m) (ha9 : a ≤ 524288) (hN : N ≤ 4096) :
  Calls Tryz.prog 16 #[.pointer (some ⟨b, 0, none⟩), .slice A a ca] w fun x w' => ∃ g mp s hs' t' Om' rc, x = .returned (.tuple #[.pointer (some ⟨g, 0, none⟩), .int .i64 0]) ∧ s.b = b ∧ s.hk = hideK m ∧ rc.num = 3 ∧ (∀ y ∈ hs, y ∈ hs') ∧ Keep Om w w' ∧
   HonM w0 w' (k + 4) t' Om' Om hs' g mp 0 s (sumK m) (sealK m) rc rc 0 1048576 (fun _ => none) N (fun _ => []) := by
 have hC := format_hon m N hN
 have hn : (formW m (newW N)).ctr = 2 := hC.sea.ctr.symm
 refine (mount_hon h hk A a ca m ha ha9 hC (by rw [hn]; omega)).mono ?_
 rintro x w' ⟨g, mp, s, hs', t', Om', rfl, h1, h2, h3, h4, h5, _⟩
 exact ⟨g, mp, s, hs', t', Om', _, rfl, h1, h2, by show (formW m (newW N)).ctr + 1 = 3; rw [hn], h3, h4, h5⟩
theorem mount_again {g gm : Nat} {s : Sto} {rc : Rc} {lim : Int} {c : Nat → List UInt8} {t : Wd} {Ox : Nat → Prop} (h : HonM w0 w k t Om Ox hs g gm 0 s (sumK m) (sealK m) rc rc 0 lim (fun _ => none) N c) (hsk : s.hk = hideK m) (hk : k + 4 ≤ 1000000) (A : Option Addr) (a ca : Nat) (ha : Bs w w.heap.size A a ca m) (ha9 : a ≤ 524288) (hc : rc.num + 1 < 18446744073709551615) :
  Calls Tryz.prog 16 #[.pointer (some ⟨s.b, 0, none⟩), .slice A a ca] w fun x w' => ∃ g' mp s' hs' t' Om' rc', x = .returned (.tuple #[.pointer (some ⟨g', 0, none⟩), .int .i64 0]) ∧ s'.b = s.b ∧ s'.hk = hideK m ∧ rc'.num = rc.num + 1 ∧ (∀ y ∈ hs, y ∈ hs') ∧ Keep Ox w w' ∧
   HonM w0 w' (k + 4) t' Om' Ox hs' g' mp 0 s' (sumK m) (sealK m) rc' rc' 0 1048576 (fun _ => none) N c := by
 have hC := h.cert
 rw [hsk] at hC
 have hn := hC.sea.ctr
 refine (mount_hon h.mem.st hk A a ca m ha ha9 hC (by rw [← hn]; omega)).mono ?_
 rintro x w' ⟨g', mp, s', hs', t', Om', rfl, h1, h2, h3, h4, h5, _⟩
 exact ⟨g', mp, s', hs', t', Om', _, rfl, h1, h2, by show t.ctr + 1 = rc.num + 1; rw [hn], h3, h4.less (fun j hj => (h.mem.oth j hj).1), h5.lessO (fun j hj => (h.mem.oth j hj).1)⟩
end
end Go.Proofs.YtcehkafddlfleaaGreatDoor

namespace Go.Proofs.YtcehkafddlfleaaGreatDoor
open Go.RowKit
def d3long (ds : List D3) : Nat := (ds.map fun d => 1 + d.bs.length).sum
theorem d3long_next (ds : List D3) (k : Nat) (h : k < ds.length) : d3long (ds.take (k + 1)) = d3long (ds.take k) + 1 + ds[k].bs.length := by
 unfold d3long
 rw [List.take_succ_eq_append_getElem h, List.map_append, List.sum_append]
 simp; omega
theorem d3long_mem (ds : List D3) : ∀ x ∈ ds, x.bs.length < d3long ds := by
 induction ds with
 | nil => intro x h; cases h
 | cons y ys ih =>
  intro x h
  have e : d3long (y :: ys) = 1 + y.bs.length + d3long ys := by simp [d3long]
  rw [e]
  rcases List.mem_cons.1 h with rfl | h
  ·omega
  ·have := ih x h; omega
theorem d3long_le (ds : List D3) (M : Nat) (h : ∀ x ∈ ds, x.bs.length ≤ M) (k : Nat) (hk : k ≤ ds.length) : d3long (ds.take k) ≤ k * (M + 1) := by
 induction k with
 | zero => simp [d3long]
 | succ k ih =>
  rw [d3long_next ds k (by omega)]
  have := h _ (List.getElem_mem (show k < ds.length by omega))
  have := ih (by omega)
  rw [Nat.succ_mul]; omega
set_option maxHeartbeats 1000000 in
theorem d3long09_any (A : Option Addr) (m c : Nat) (ds : List D3) (w : World) (B : Nat) (hI : D3s w B A m c ds) (hm : m ≤ 40) (hb : ∀ x ∈ ds, x.bs.length ≤ 140737488351232) :
  Calls Tryz.prog 46 #[.slice A m c] w fun e w' => e = .returned (.int .i64 ((d3long ds : Nat) : Int)) ∧ w' = w := by
 have HL : Kp _ := ⟨hI.len⟩
 have HB : Kp _ := ⟨hb⟩
 have HI : Kp _ := ⟨hI⟩
 have hm63 := hI.le
 clear hI hb
 go_enter Tryz.func46, Tryz.ntmps46
 go_wp2
 go_loop [3, 4] (fun s i => ∃ k : Nat, k ≤ m ∧ i = .int .i64 k ∧ s = .int .i64 ((d3long (ds.take k) : Nat) : Int)) (fun _ i => m - (intOf i).toNat)
 case atStart => exact ⟨0, Nat.zero_le _, rfl, rfl⟩
 case round =>
  obtain ⟨k, hk, rfl, rfl⟩ := hrel
  by_cases hlt : k < m
  ·obtain ⟨b, o, A', n', c', rfl, hd⟩ := HI.out.at hlt
   have hki : k < ds.length := by rw [HL.out]; exact hlt
   have HNx : Kp _ := ⟨d3long_next ds k hki⟩
   have h1 := d3long_le ds 140737488351232 HB.out k (by omega)
   have h2 := HB.out _ (List.getElem_mem hki)
   have h3 : (ds[k]'hki).bs.length = n' := hd.bytes.len
   have hc4 := hd.sli
   rw [h3] at h2 HNx
   have h4 : d3long (ds.take k) ≤ 5629499534049280 := Nat.le_trans h1 (by omega)
   have hn63 := hd.bytes.le
   generalize d3long (ds.take k) = s at *
   clear h1 h3 hd
   go_wp2
   go_round
   case rel => exact ⟨k + 1, by omega, by go_num, by rw [HNx.out]; go_num⟩
   case measure => simp [intOf]; omega
  ·obtain rfl : k = m := by omega
   have HE : Kp (ds.take k = ds) := ⟨List.take_of_length_le (by rw [HL.out]; exact Nat.le_refl _)⟩
   rw [HE.out]
   go_wp2
   go_ret
   exact ⟨rfl, rfl⟩
set_option maxHeartbeats 2000000 in
theorem small9_any (bl : Nat) (hbl : bl < 256) (A0 : Option Addr) (m0 c0 : Nat) (A : Option Addr) (m c : Nat) (ds : List D3) (w : World) (B : Nat) (hI : D3s w B A m c ds) (hm0 : m0 ≤ 9223372036854775807) (hb : ∀ x ∈ ds, x.bs.length ≤ 140737488351232) :
  Calls Tryz.prog 12 #[.int .u8 (bl : Int), .slice A0 m0 c0, .slice A m c] w fun e w' => ∃ v, e = .returned v ∧ w' = w ∧ Kp (v = .bool false ∨ v = .bool true ∧ m ≤ 25 ∧ bl % 40 ≤ 20 ∧ m0 ≤ 100 ∧ d3long ds ≤ 3000) := by
 have HI : Kp _ := ⟨hI⟩
 have HB : Kp _ := ⟨hb⟩
 have hm63 := hI.le
 obtain ⟨r, hr⟩ : ∃ r : Nat, r = bl % 40 := ⟨_, rfl⟩
 have hr1 : Int.tmod (bl : Int) 40 = (r : Int) := by rw [Int.tmod_eq_emod_of_nonneg (by omega)]; omega
 have hr9 : r < 40 := by omega
 rw [← hr]
 clear hI hb hr
 go_enter Tryz.func12, Tryz.ntmps12
 go_wp2
 go_loop [7, 8] (fun s i => ∃ k n7 : Nat, k ≤ m ∧ n7 ≤ k ∧ i = .int .i64 k ∧ s = .int .i64 n7) (fun _ i => m - (intOf i).toNat)
 case atStart => exact ⟨0, 0, Nat.zero_le _, Nat.le_refl _, rfl, rfl⟩
 case round =>
  obtain ⟨k, n7, hk, hn, rfl, rfl⟩ := hrel
  by_cases hlt : k < m
  ·obtain ⟨b, o, A', n', c', rfl, hd⟩ := HI.out.at hlt
   have hc0 := hd.kind
   obtain ⟨z, hz⟩ : ∃ z, z = (ds[k]'(by rw [HI.out.len]; exact hlt)).kind := ⟨_, rfl⟩
   rw [← hz] at hc0
   clear hd hz
   by_cases h7 : z = 7
   ·subst h7
    go_wp2
    go_round
    case rel => exact ⟨k + 1, n7 + 1, by omega, by omega, by go_num, by go_num⟩
    case measure => simp [intOf]; omega
   ·go_wp2
    go_round
    case rel => exact ⟨k + 1, n7, by omega, by omega, by go_num, rfl⟩
    case measure => simp [intOf]; omega
  ·obtain rfl : k = m := by omega
   by_cases g1 : r ≤ 20
   ·have e1 : (r : Int) ≤ 20 := by omega
    by_cases g2 : m0 ≤ 100
    ·have e2 : (m0 : Int) ≤ 100 := by omega
     by_cases g3 : k ≤ 25
     ·have e3 : (k : Int) ≤ 25 := by omega
      by_cases g4 : n7 ≤ 5
      ·have e4 : (n7 : Int) ≤ 5 := by omega
       have hL := d3long09_any A k c ds w B HI.out (by omega) HB.out
       obtain ⟨L, hLe⟩ : ∃ L, L = d3long ds := ⟨_, rfl⟩
       rw [← hLe] at hL
       have HL : Kp _ := ⟨hL⟩
       have HLe : Kp (L = d3long ds) := ⟨hLe⟩
       have HG : Kp (k ≤ 25 ∧ r ≤ 20 ∧ m0 ≤ 100) := ⟨g3, g1, g2⟩
       clear hL hLe g1 g2 g3 g4
       go_wp2_with fail
       refine HL.out.mono ?_
       rintro x w2 ⟨rfl, rfl⟩
       by_cases g5 : L ≤ 3000
       ·have e5 : (L : Int) ≤ 3000 := by omega
        have HG5 : Kp (L ≤ 3000) := ⟨g5⟩
        clear g5
        go_wp2
        go_ret
        exact ⟨_, rfl, rfl, ⟨.inr ⟨by simp, HG.out.1, HG.out.2.1, HG.out.2.2, by rw [← HLe.out]; exact HG5.out⟩⟩⟩
       ·have e5 : ¬ ((L : Int) ≤ 3000) := by omega
        clear g5
        go_wp2
        go_ret
        exact ⟨_, rfl, rfl, ⟨.inl (by simp [e5])⟩⟩
      ·have e4 : ¬ ((n7 : Int) ≤ 5) := by omega
       clear g4
       go_wp2
       go_ret
       exact ⟨.bool false, rfl, rfl, ⟨.inl rfl⟩⟩
     ·have e3 : ¬ ((k : Int) ≤ 25) := by omega
      clear g3
      go_wp2
      go_ret
      exact ⟨.bool false, rfl, rfl, ⟨.inl rfl⟩⟩
    ·have e2 : ¬ ((m0 : Int) ≤ 100) := by omega
     clear g2
     go_wp2
     go_ret
     exact ⟨.bool false, rfl, rfl, ⟨.inl rfl⟩⟩
   ·have e1 : ¬ ((r : Int) ≤ 20) := by omega
    clear g1
    go_wp2
    go_ret
    exact ⟨.bool false, rfl, rfl, ⟨.inl rfl⟩⟩
set_option maxHeartbeats 2000000 in
theorem is09_any (A B : Option Addr) (c2 n c : Nat) (body : List UInt8) (w : World) (hA : Bs w w.heap.size A 256 c2 (pad256 body)) (hB : Bs w w.heap.size B n c body) (hn : n ≤ 256) :
  Calls Tryz.prog 18 #[.slice A 256 c2, .slice B n c] w fun e w' => e = .returned (.bool true) ∧ w' = w := by
 have HA : Kp _ := ⟨hA⟩
 have HB : Kp _ := ⟨hB⟩
 have HT : Kp ((pad256 body).take n = body) := ⟨by unfold pad256; rw [← hB.len, List.take_left']; rfl⟩
 have HZ : Kp (∀ i (h : i < (pad256 body).length), n ≤ i → (pad256 body)[i] = 0) := ⟨fun i h hi => by
  have hl := hB.len
  unfold pad256 at h ⊢
  rw [List.getElem_append_right (by omega), List.getElem_replicate]⟩
 have HLn : Kp ((pad256 body).length = 256) := ⟨hA.len⟩
 clear hA hB
 go_enter Tryz.func18, Tryz.ntmps18
 go_wp2_with (with_reducible refine wpList_cut_h_g (o := ⟨some 13, _, _, _, _, _⟩) el8 rfl _ _ rfl rfl HA.out _ _ n rfl rfl hn ?_)
 intro A1 hc1
 rw [HT.out] at hc1
 go_wp2_with fail
 refine (same_any A1 B n c2 n c body body w _ _ hc1 HB.out).mono ?_
 rintro x w1 ⟨rfl, rfl⟩
 have e1 : (body == body) = true := by simp
 rw [e1]
 clear hc1 e1
 go_wp2
 go_loop [5] (fun i => ∃ k : Nat, n ≤ k ∧ k ≤ 256 ∧ i = .int .i64 k) (fun i => 256 - (intOf i).toNat)
 case atStart => exact ⟨n, Nat.le_refl _, hn, rfl⟩
 case round =>
  obtain ⟨k, hk1, hk2, rfl⟩ := hrel
  by_cases hlt : k < 256
  ·obtain ⟨b, o, rfl, hb, hcell⟩ := HA.out.cell hlt
   rw [HZ.out k (by rw [HLn.out]; exact hlt) hk1] at hcell
   have hli : (k : Int) < 256 := by omega
   have hc9 : w.cell? ⟨b, o + k, none⟩ = some (.int .u8 0) := hcell
   clear hcell hb
   go_wp2
   go_round
   case rel => exact ⟨k + 1, by omega, by omega, by go_num⟩
   case measure => simp [intOf]; omega
  ·obtain rfl : k = 256 := by omega
   go_wp2
   go_ret
   exact ⟨rfl, rfl⟩
end Go.Proofs.YtcehkafddlfleaaGreatDoor

namespace Go.Proofs.YtcehkafddlfleaaGreatDoor
open Go.RowKit
set_option maxRecDepth 100000 in
set_option maxHeartbeats 4000000 in
theorem known9_any (w : World) : Calls Tryz.prog 13 #[] w fun e w' => e = .returned (.bool true) ∧ Below w.heap.size w w' := by
 go_enter Tryz.func13, Tryz.ntmps13
 go_wp2_with fail
 refine (sw_new w 2 (by omega)).mono ?_
 rintro e w1 ⟨b, rfl, h1⟩
 have H1 : Kp _ := ⟨h1⟩
 clear h1
 go_wp2_with (with_reducible refine wpList_lit (o := ⟨some 14, _, _, _, _, _⟩) el8 Tryz.underlying5 rfl (.tmp 13) rfl [109] rfl 1 rfl (by decide) rfl ?_)
 intro w2 hB2 hb2
 have H2 : Kp _ := ⟨H1.out.grow hb2⟩
 have HB2 : Kp _ := ⟨hB2⟩
 clear hB2 hb2 H1
 generalize w1.heap.size = a2 at *
 go_wp2_with fail
 refine (mformat_new (m := [109]) H2.out (by omega) (some ⟨a2, 0, none⟩) 1 1 HB2.out (by omega) (by omega) (by omega)).mono ?_
 rintro x w3 ⟨rfl, k3, h3⟩
 have H3 : Kp _ := ⟨h3⟩
 clear k3 h3 H2 HB2
 go_wp2_with (with_reducible refine wpList_lit (o := ⟨some 19, _, _, _, _, _⟩) el8 Tryz.underlying5 rfl (.tmp 18) rfl [109] rfl 1 rfl (by decide) rfl ?_)
 intro w4 hB4 hb4
 have H4 : Kp _ := ⟨H3.out.grow hb4⟩
 have HB4 : Kp _ := ⟨hB4⟩
 clear hB4 hb4 H3
 generalize w3.heap.size = a4 at *
 go_wp2_with fail
 refine (mount_new (m := [109]) H4.out (by omega) (some ⟨a4, 0, none⟩) 1 1 HB4.out (by omega) (by omega)).mono ?_
 rintro x w5 ⟨g, mp, s, hs5, t5, Om5, rc, rfl, e1, e2, hr3, hsub, k5, h5⟩
 have H5 : Kp _ := ⟨h5⟩
 have HR : Kp (rc.num = 3) := ⟨hr3⟩
 clear e1 e2 hr3 hsub k5 h5 H4 HB4
 go_wp2_with fail
 refine H5.out.number.mono ?_
 rintro x w6 ⟨rfl, rfl⟩
 rw [HR.out]
 go_wp2_with (with_reducible refine wpList_lit (o := ⟨some 27, _, _, _, _, _⟩) el8 Tryz.underlying5 rfl (.tmp 26) rfl [97, 98, 99] rfl 3 rfl (by decide) rfl ?_)
 intro w7 hB7 hb7
 have H7 : Kp _ := ⟨H5.out.growHold hb7 ⟨hB7, Fr.at _ (Nat.le_refl _)⟩ (by omega)⟩
 clear hB7 hb7 H5
 generalize w6.heap.size = a7 at *
 go_wp2_with fail
 refine (mWrite_hon (at' := 0) H7.out (by omega) (by omega) (by omega) (by omega) (by omega) (by omega) (some ⟨a7, 0, none⟩) 3 3 [97, 98, 99] (by simp) (by omega)).mono ?_
 rintro x w8 ⟨rfl, A8, c8, h8⟩
 obtain ⟨t8, Om8, hs8, nm8, rn8, F8, hsub8, hin8, hnm8, h8'⟩ := h8.is
 have H8 : Kp _ := ⟨h8'⟩
 have HN8 : Kp (nm8 ≤ 1) := ⟨hnm8⟩
 clear h8 hsub8 hin8 hnm8 h8' H7
 go_wp2_with fail
 refine (mRead_hon (at' := 0) H8.out (by omega) (by omega) (by omega) (by omega) (by omega) (by have := HN8.out; omega)).mono ?_
 rintro x w9 ⟨A9, c9, rfl, h9⟩
 obtain ⟨t9, Om9, hs9, nm9, rn9, F9, hsub9, hin9, hnm9, h9'⟩ := h9.is
 have H9 : Kp _ := ⟨h9'⟩
 have HB9 : Kp (Bs w9 w9.heap.size A9 256 c9 (pad256 [97, 98, 99])) := ⟨h9'.held hin9⟩
 have HI9 : Kp ((A9, 256, c9, pad256 [97, 98, 99]) ∈ hs9) := ⟨hin9⟩
 clear h9 hsub9 hin9 hnm9 h9' H8
 go_wp2_with fail
 refine (mSync_hon H9.out (by omega) (by omega) (by omega) (by rw [HR.out]; omega)).mono ?_
 rintro x w10 ⟨rfl, t10, Om10, hs10, gm10, rc10, hsub10, k10, hr10, h10⟩
 have H10 : Kp _ := ⟨h10⟩
 have HB10 : Kp (Bs w10 w10.heap.size A9 256 c9 (pad256 [97, 98, 99])) := ⟨h10.held (hsub10 _ HI9.out)⟩
 have HR10 : Kp (rc10.num = 4) := ⟨by rw [hr10, HR.out]⟩
 clear h10 hsub10 k10 hr10 H9 HB9 HI9
 go_wp2_with (with_reducible refine wpList_cut_h_g (o := ⟨some 61, _, _, _, _, _⟩) el8 rfl _ _ rfl rfl HB10.out _ _ 3 rfl rfl (by omega) ?_)
 intro A11 hc11
 have e11 := hc11.text Tryz.underlying29 Tryz.underlying5 Tryz.underlying9
 have e12 : (⟨((pad256 [97, 98, 99]).take 3).toArray⟩ : ByteArray) = ⟨#[97, 98, 99]⟩ := rfl
 rw [e12] at e11
 clear hc11 e12
 go_wp2_with fail
 refine H10.out.number.mono ?_
 rintro x w12 ⟨rfl, rfl⟩
 rw [HR10.out]
 go_wp2_with fail
 refine (mSync_nil w12).mono ?_
 rintro x w13 ⟨rfl, rfl⟩
 have HBl : Kp _ := ⟨H10.out.below⟩
 go_wp2
 go_ret
 exact ⟨rfl, HBl.out⟩
end Go.Proofs.YtcehkafddlfleaaGreatDoor
