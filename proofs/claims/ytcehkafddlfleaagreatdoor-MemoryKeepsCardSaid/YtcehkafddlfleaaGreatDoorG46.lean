/-  -/
import Derived.Test.YtcehkafddlfleaaGreatDoorG02
import Derived.Test.YtcehkafddlfleaaGreatDoorG45
namespace Go.Proofs.YtcehkafddlfleaaGreatDoor
open Go.RowKit
theorem folded_twice (F : Nat → Option Pt) (i : Nat) (x : Pt) (rd wr rd2 wr2 : List UInt8) : folded (fun j => if j = i then some ⟨x.p, rd, wr⟩ else (fun j => if j = i then some x else F j) j) i x.p rd2 wr2 = folded F i x.p rd2 wr2 := by
 funext j
 unfold folded
 by_cases e : j = i
 ·simp only [e, if_true]
 ·simp only [e, if_false]
def oxA (Ox : Nat → Prop) (g3 g6 g7 : Nat) : Nat → Prop := fun j => ((Ox j ∨ j = g3) ∨ j = g6) ∨ j = g7
structure AcW (w0 w W : World) (k : Nat) (t : Wd) (Om Ox : Nat → Prop) (hs : List Held) (g gm nm : Nat) (s : Sto) (ks : List UInt8) (rc rn : Rc) (q : Int) (lim : Int) (F : Nat → Option Pt) (g3 g6 g7 : Nat) (v6 : Value) : Prop where
 st : MemW w0 W k t Om (oxA Ox g3 g6 g7) hs g gm nm s ks rc rn q lim false F
 c3 : Blk W g3 30 [.pointer (some ⟨g, 0, none⟩)]
 c6 : Blk W g6 29 [v6]
 c7 : Blk W g7 117 [.nilIface]
 ne : g3 ≠ g6 ∧ g3 ≠ g7 ∧ g6 ≠ g7
 old : ∀ j, Ox j → j ≠ g3 ∧ j ≠ g6 ∧ j ≠ g7
 keep : Keep Ox w W
theorem wp_noPanic {P : Program} {c : Code} {K : Act → World → Prop} {Q' : Exit → Act → World → Prop} {a : Act} {w : World} (h : c.wp P (Exit.then K (fun _ _ _ => False)) a w) : c.wp P (Exit.then K Q') a w :=
 wp_mono h (by
  intro e a' w' hq
  cases e <;> first | exact hq | exact hq.elim)
theorem tg_rd (p : Nat) (t : TypeId) (rd wr v : List UInt8) (hr : rd.length = 32) (_hw : wr.length = 32) : (⟨p, 0, t, cells8 rd ++ cells8 wr, rd⟩ : Tg).add v (decide (0 < 1)) = cells8 (addL rd v) ++ cells8 wr := by
 unfold Tg.add Tg.put
 rw [if_pos (show decide (0 < 1) = true from rfl)]
 show (cells8 rd ++ cells8 wr).take 0 ++ cells8 (addL rd v) ++ (cells8 rd ++ cells8 wr).drop (0 + 32) = _
 rw [List.take_zero, List.nil_append, Nat.zero_add, List.drop_left' (by rw [cells8_length]; exact hr)]
theorem tg_rd_ok (p : Nat) (t : TypeId) (rd wr : List UInt8) (hr : rd.length = 32) (_hw : wr.length = 32) : (⟨p, 0, t, cells8 rd ++ cells8 wr, rd⟩ : Tg).ok := by
 refine ⟨?_, ?_, hr⟩
 ·show 0 + 32 ≤ (cells8 rd ++ cells8 wr).length
  rw [List.length_append, cells8_length, cells8_length]; omega
 ·show ((cells8 rd ++ cells8 wr).drop 0).take 32 = _
  rw [List.drop_zero, List.take_left' (by rw [cells8_length]; exact hr)]
theorem wrong_len {b : List UInt8} (h : ¬ wrongL b) : b.length = 272 := by
 unfold wrongL at h
 omega
section
variable {w0 w W W' : World} {k k' : Nat} {t t' : Wd} {Om Om' Ox : Nat → Prop} {hs hs' : List Held} {g gm nm nm' : Nat} {s : Sto} {ks : List UInt8} {rc rn rn' : Rc} {q q' : Int} {lim : Int} {F F' : Nat → Option Pt} {g3 g6 g7 : Nat} {v6 : Value}
theorem AcW.step (h : AcW w0 w W k t Om Ox hs g gm nm s ks rc rn q lim F g3 g6 g7 v6) (h2 : MemW w0 W' k' t' Om' (oxA Ox g3 g6 g7) hs' g gm nm' s ks rc rn' q' lim false F') (hk : Keep (oxA Ox g3 g6 g7) W W') : AcW w0 w W' k' t' Om' Ox hs' g gm nm' s ks rc rn' q' lim F' g3 g6 g7 v6 :=
 ⟨h2, hk.blk h.c3 (.inl (.inl (.inr rfl))), hk.blk h.c6 (.inl (.inr rfl)), hk.blk h.c7 (.inr rfl), h.ne, h.old, h.keep.trans (hk.less fun _ h => .inl (.inl (.inl h)))⟩
theorem AcW.keepOx (h : AcW w0 w W k t Om Ox hs g gm nm s ks rc rn q lim F g3 g6 g7 v6) (hk : Keep Om W W') : Keep (oxA Ox g3 g6 g7) W W' := hk.less fun j hj => (h.st.oth j hj).1
theorem AcW.grow (h : AcW w0 w W k t Om Ox hs g gm nm s ks rc rn q lim F g3 g6 g7 v6) (hb : Below W.heap.size W W') : AcW w0 w W' k t Om Ox hs g gm nm s ks rc rn q lim F g3 g6 g7 v6 := h.step (h.st.grow hb) (h.keepOx (h.st.st.keepBelow hb))
theorem AcW.drew (h : AcW w0 w W k t Om Ox hs g gm nm s ks rc rn q lim F g3 g6 g7 v6) : AcW w0 w W.drew k t Om Ox hs g gm nm s ks rc rn q lim F g3 g6 g7 v6 := h.grow (Below.refl _ _).drew
theorem AcW.set7 (h : AcW w0 w W k t Om Ox hs g gm nm s ks rc rn q lim F g3 g6 g7 v6) : AcW w0 w (W.setCell ⟨g7, 0, none⟩ .nilIface) k t Om Ox hs g gm nm s ks rc rn q lim F g3 g6 g7 v6 := by
 have ho := Only.setCell W ⟨g7, 0, none⟩ .nilIface
 exact ⟨h.st.other ho (.inr rfl), h.c3.only ho h.ne.2.1, h.c6.only ho h.ne.2.2, h.c7.set 0 .nilIface, h.ne, h.old, h.keep.trans (Keep.only ho fun h9 => (h.old _ h9).2.2 rfl)⟩
theorem AcW.set6 (h : AcW w0 w W k t Om Ox hs g gm nm s ks rc rn q lim F g3 g6 g7 v6) (v : Value) : AcW w0 w (W.setCell ⟨g6, 0, none⟩ v) k t Om Ox hs g gm nm s ks rc rn q lim F g3 g6 g7 v := by
 have ho := Only.setCell W ⟨g6, 0, none⟩ v
 exact ⟨h.st.other ho (.inl (.inr rfl)), h.c3.only ho h.ne.1, h.c6.set 0 v, h.c7.only ho h.ne.2.2.symm, h.ne, h.old, h.keep.trans (Keep.only ho fun h9 => (h.old _ h9).2.1 rfl)⟩
theorem AcW.start (h : MemW w0 w k t Om Ox hs g gm nm s ks rc rn q lim false F) (h3 : g3 = w.heap.size) (h6 : g6 = w.heap.size + 1) (h7 : g7 = w.heap.size + 1 + 1) :
  AcW w0 w (((w.alloc (.cells #[.pointer (some ⟨g, 0, none⟩)] 30)).alloc (.cells #[.slice none 0 0] 29)).alloc (.cells #[.nilIface] 117)) k t (fun j => ((Om j ∨ j = g3) ∨ j = g6) ∨ j = g7) Ox hs g gm nm s ks rc rn q lim F g3 g6 g7 (.slice none 0 0) := by
 have b1 : Below w.heap.size w (w.alloc (.cells #[.pointer (some ⟨g, 0, none⟩)] 30)) := (Below.refl _ _).alloc (Nat.le_refl _) _
 obtain ⟨W1, hW1⟩ : ∃ X, X = w.alloc (.cells #[.pointer (some ⟨g, 0, none⟩)] 30) := ⟨_, rfl⟩
 have z1 : W1.heap.size = w.heap.size + 1 := by rw [hW1]; simp
 have k1 : Blk W1 g3 30 [.pointer (some ⟨g, 0, none⟩)] := by rw [hW1, h3]; exact Blk.new w _ _
 rw [← hW1] at b1 ⊢
 have b2 : Below W1.heap.size W1 (W1.alloc (.cells #[.slice none 0 0] 29)) := (Below.refl _ _).alloc (Nat.le_refl _) _
 obtain ⟨W2, hW2⟩ : ∃ X, X = W1.alloc (.cells #[.slice none 0 0] 29) := ⟨_, rfl⟩
 have z2 : W2.heap.size = w.heap.size + 1 + 1 := by rw [hW2]; simp [z1]
 have k2 : Blk W2 g6 29 [.slice none 0 0] := by rw [hW2, h6, ← z1]; exact Blk.new W1 _ _
 rw [← hW2] at b2 ⊢
 have b3 : Below W2.heap.size W2 (W2.alloc (.cells #[.nilIface] 117)) := (Below.refl _ _).alloc (Nat.le_refl _) _
 obtain ⟨W3, hW3⟩ : ∃ X, X = W2.alloc (.cells #[.nilIface] 117) := ⟨_, rfl⟩
 have z3 : W3.heap.size = w.heap.size + 1 + 1 + 1 := by rw [hW3]; simp [z2]
 have k3 : Blk W3 g7 117 [.nilIface] := by rw [hW3, h7, ← z2]; exact Blk.new W2 _ _
 rw [← hW3] at b3 ⊢
 have hM := ((h.guest (p := g3) b1 ⟨by omega, by omega⟩).guest (p := g6) b2 ⟨by omega, by omega⟩).guest (p := g7) b3 ⟨by omega, by omega⟩
 exact ⟨hM, (k1.below b2 k1.lt).below b3 (by have := k1.lt; omega), k2.below b3 k2.lt, k3, ⟨by omega, by omega, by omega⟩, fun j hj => by
  have := (h.st.lt (h.oth j hj).1).2
  exact ⟨by omega, by omega, by omega⟩, ((h.st.keepBelow b1).less fun j hj => (h.oth j hj).1).trans ((Keep.trans ⟨b2.size, fun j hj => b2.block j (by have := (h.st.lt (h.oth j hj).1).2; omega)⟩ ⟨b3.size, fun j hj => b3.block j (by have := (h.st.lt (h.oth j hj).1).2; omega)⟩))⟩
end
section
variable {w0 w : World} {k : Nat} {t : Wd} {Om Ox : Nat → Prop} {hs : List Held} {g gm nm : Nat} {s : Sto} {ks : List UInt8} {rc rn : Rc} {q : Nat} {lim : Int} {F : Nat → Option Pt}
structure AccI (w0 w w' : World) (k : Nat) (t' : Wd) (Ox : Nat → Prop) (hs : List Held) (g gm nm : Nat) (s : Sto) (ks : List UInt8) (rc rn : Rc) (q1 : Nat) (lim : Int) (F : Nat → Option Pt) (at' : Nat) (bb b : List UInt8) (A : Option Addr) (c : Nat) : Prop where
 is : ∃ x Om' nm' hs', PartA F (at' / 16) rc.su x ∧ (∀ y ∈ hs, y ∈ hs') ∧ (A, 256, c, showL s.hk bb) ∈ hs' ∧ nm' ≤ nm + 1 ∧
  MemW w0 w' (k + 2) t' Om' Ox hs' g gm nm' s ks rc (nowR rc rn (at' : Int)) (q1 : Int) lim false (folded F (at' / 16) x.p (addL x.rd (ofL ks (at' : Int) bb)) (addL x.wr (ofL ks (at' : Int) b)))
 keep : Keep Ox w w'
set_option maxRecDepth 100000 in
set_option maxHeartbeats 16000000 in
theorem maccess_read (h : MemW w0 w k t Om Ox hs g gm nm s ks rc rn (q : Int) lim false F) (hk : k + 2 ≤ 1000000) (at' : Nat) (hat : at' ≤ 1000000) (hab : (at' : Int) < rc.blk) (hq : (q : Int) < lim) (hq2 : q ≤ 1048576) (hi : at' / 16 < rc.su.length) (hnm : nm + 1 ≤ 100000)
  (s0 s2 : Nat) (hs0 : s0 = slotI rc.sl (at' : Int)) (hs2 : s2 = slotI rn.sl (at' : Int)) (hl : (readW t ((at' : Int), (s2 : Int))).lost = false) (bb : List UInt8) (hbb : readLw t ((at' : Int), (s2 : Int)) = bb) (hwr : ¬ wrongL bb) (hp : Past rc.num q bb) (hwb : writeB (readW t ((at' : Int), (s2 : Int))) ((at' : Int), ((1 - s0 : Nat) : Int)) = true)
  (b : List UInt8) (hb : b = hideL s.hk rc.num (q + 1) (showL s.hk bb)) :
  Calls Tryz.prog 53 #[.pointer (some ⟨g, 0, none⟩), .int .i64 (at' : Int), .slice none 0 0] w fun r w' => ∃ A c, r = .returned (.tuple #[.slice A 256 c, .nilIface]) ∧ AccI w0 w w' k (writeW (readW t ((at' : Int), (s2 : Int))) ((at' : Int), ((1 - s0 : Nat) : Int)) b) Ox hs g gm nm s ks rc rn (q + 1) lim F at' bb b A c := by
 have HW : Kp _ := ⟨h⟩
 have HC : Kp (k + 2 ≤ 1000000 ∧ (at' : Int) < rc.blk ∧ (q : Int) < lim ∧ q ≤ 1048576 ∧ at' / 16 < rc.su.length ∧ nm + 1 ≤ 100000) := ⟨hk, hab, hq, hq2, hi, hnm⟩
 have HS : Kp (s0 = slotI rc.sl (at' : Int) ∧ s2 = slotI rn.sl (at' : Int)) := ⟨hs0, hs2⟩
 have HL : Kp _ := ⟨hl⟩
 have HBb : Kp (readLw t ((at' : Int), (s2 : Int)) = bb ∧ ¬ wrongL bb ∧ Past rc.num q bb) := ⟨hbb, hwr, hp⟩
 have HWb : Kp _ := ⟨hwb⟩
 have HB : Kp _ := ⟨hb⟩
 have HKy : Kp (s.hk.length = 16) := ⟨h.key⟩
 have hs29 : s2 ≤ 1 := by rw [hs2]; exact slotI_le _ _
 have hmf : ∀ (fn : Fn) (first cap : Array Value) (w : World), (Instr.makeFunc fn first cap).run Tryz.prog w = .ok (.func fn first cap) w := fun _ _ _ _ => rfl
 clear h hk hab hq hq2 hi hnm hs0 hs2 hl hbb hwr hp hwb hb
 go_enter_defers Tryz.func53, Tryz.ntmps53
 go_upto_region 2 with fail
 have hAc := fun a b c => AcW.start (g3 := w.heap.size) (g6 := w.heap.size + 1) (g7 := w.heap.size + 1 + 1) HW.out a b c
 have HA : Kp _ := ⟨hAc rfl rfl rfl⟩
 obtain ⟨w1, hw1⟩ : ∃ X, X = (((w.alloc (.cells #[.pointer (some ⟨g, 0, none⟩)] 30)).alloc (.cells #[.slice none 0 0] 29)).alloc (.cells #[.nilIface] 117)) := ⟨_, rfl⟩
 rw [← hw1] at HA ⊢
 clear hAc hw1 HW
 generalize w.heap.size + 1 + 1 = g7 at *
 generalize w.heap.size + 1 = g6 at *
 generalize w.heap.size = g3 at *
 have q3 : w1.cell? ⟨g3, 0, none⟩ = some (.pointer (some ⟨g, 0, none⟩)) := HA.out.c3.cell? 0
 go_wp2_with fail
 obtain ⟨A9, n9, c9, D9, m9, e9, A8, n8, c8, D8, m8, e8, hMx, hL3, hL4⟩ := HA.out.st.mem
 refine (madmit_ok hMx HKy.out rfl rfl rc.blk rfl at' HC.out.2.1 HC.out.2.2.1 none 0 0 [] (Ls.zero _ _) (fun l h => by cases h)).mono ?_
 rintro x2 w2 ⟨rfl, hw2⟩
 have HA2 : Kp _ := ⟨HA.out.drew⟩
 rw [← hw2] at HA2
 clear hw2 hMx hL3 hL4 A9 n9 c9 D9 m9 e9 A8 n8 c8 D8 m8 e8 HA q3
 go_upto_region 5 with fail
 go_cut [9] from 22 to 36 (fun v9 wx => ∃ A n c, v9 = .slice A n c ∧ Kp (n = 272) ∧ Kp (AcW w0 w wx (k + 1) (readW t ((at' : Int), (s2 : Int))) (fun j => ((Om j ∨ j = g3) ∨ j = g6) ∨ j = g7) Ox ((A, n, c, bb) :: hs) g gm nm s ks rc rn (q : Int) lim F g3 g6 g7 (.slice none 0 0)))
 case first =>
  refine wp_noPanic ?_
  have HA : Kp _ := ⟨HA2.out⟩
  clear HA2
  go_wp2_with fail
  refine wp_region_any (by kernel_rfl) ?_
  change wpAny _ _ _ _ _ _ _ w2.drew
  replace HA : Kp _ := ⟨HA.out.drew⟩
  generalize w2.drew = wS at *
  refine wT 4 27 ?_ rfl ?_
  try simp only [Act.put, sA, sB, sC]
  refine wT 9 32 ?_ rfl ?_
  try simp only [Act.put, sA, sB, sC]
  repeat' (first
   | ((with_reducible change ite (Region.wanted ⟨some 23, _, _, _, _, _⟩ _ = true) _ _); have q0 : wS.cell? ⟨g3, 0, none⟩ = some (.pointer (some ⟨g, 0, none⟩)) := HA.out.c3.cell? 0; go_simp; refine hK _ _ ?_; clear hK K q0; (try simp only [Act.put, sA, sB, sC]); refine wT 1 24 ?_ rfl ?_; (try simp only [Act.put, sA, sB, sC]); refine wT 2 25 ?_ rfl ?_; (try simp only [Act.put, sA, sB, sC]))
   | ((with_reducible change ite (Region.wanted ⟨some 26, _, _, _, _, _⟩ _ = true) _ _); obtain ⟨A9, n9, c9, D9, m9, e9, A8, n8, c8, D8, m8, e8, hMx, hL3, hL4⟩ := HA.out.st.mem; refine step_load rwSto rfl (.tmp 25) rfl rfl hMx (by rw [mmL_length HKy.out rfl rfl]; decide) (mm_store HKy.out) ?_; clear hMx hL3 hL4 A9 n9 c9 D9 m9 e9 A8 n8 c8 D8 m8 e8; refine hK _ _ ?_; clear hK K; (try simp only [Act.put, sA, sB, sC]))
   | ((with_reducible change ite (Region.wanted ⟨some 28, _, _, _, _, _⟩ _ = true) _ _); have q0 : wS.cell? ⟨g3, 0, none⟩ = some (.pointer (some ⟨g, 0, none⟩)) := HA.out.c3.cell? 0; go_simp; refine hK _ _ ?_; clear hK K q0; (try simp only [Act.put, sA, sB, sC]); refine wT 6 29 ?_ rfl ?_; (try simp only [Act.put, sA, sB, sC]); refine wT 7 30 ?_ rfl ?_; (try simp only [Act.put, sA, sB, sC]))
   | ((with_reducible change ite (Region.wanted ⟨some 31, _, _, _, _, _⟩ _ = true) _ _); obtain ⟨A9, n9, c9, D9, m9, e9, A2, n2, c2, D2, m2, e2, hMx, hL3, hL4⟩ := HA.out.st.mem; have H4 : Kp _ := ⟨hL4⟩; refine step_load rwSeal rfl (.tmp 30) rfl rfl hMx (by rw [mmL_length HKy.out rfl rfl]; decide) (mm_nowv HKy.out rfl rfl) ?_; clear hMx hL3 hL4 A9 n9 c9 D9 m9 e9; refine hK _ _ ?_; clear hK K; (try simp only [Act.put, sA, sB, sC]))
   | ((with_reducible change ite (Region.wanted ⟨some 33, _, _, _, _, _⟩ _ = true) _ _); go_simp; have hsa := slot_any rn A2 n2 c2 D2 m2 e2 (at' : Int) wS (H4.out.rs HA.out.st.st) (by omega); rw [← HS.out.2] at hsa; refine hsa.mono ?_; rintro e wZ ⟨rfl, hb'⟩; replace HA : Kp _ := ⟨HA.out.grow hb'⟩; clear hsa hb' H4; refine hK _ _ ?_; clear hK K; (try simp only [Act.put, sA, sB, sC]); obtain ⟨wS, rfl⟩ : ∃ x, x = wZ := ⟨_, rfl⟩)
   | ((with_reducible change ite (Region.wanted ⟨some 34, _, _, _, _, _⟩ _ = true) _ _); go_simp; refine (sread_any HA.out.st.st (by have := HC.out.1; omega) (at' : Int) (s2 : Int) ⟨WalkArith.wf_i64 (by omega), WalkArith.wf_i64 (by omega)⟩ HL.out).mono ?_; rintro e wZ ⟨A, n, c, rfl, h9, k9⟩; rw [HBb.out.1] at h9; have HN : Kp (n = 272) := ⟨by have h1 := (h9.held (A := A) (n := n) (c := c) (l := bb) (by simp)).1.len; have h2 : bb.length = 272 := wrong_len HBb.out.2.1; omega⟩; replace HA : Kp _ := ⟨HA.out.step (HA.out.st.keep h9 k9 (fun _ h => List.mem_cons_of_mem _ h)) (HA.out.keepOx k9)⟩; clear h9 k9; refine hK _ _ ?_; clear hK K; (try simp only [Act.put, sA, sB, sC]); obtain ⟨wS, rfl⟩ : ∃ x, x = wZ := ⟨_, rfl⟩; refine wT 12 22 ?_ rfl ?_; (try simp only [Act.put, sA, sB, sC]); refine wT 13 35 ?_ rfl ?_; (try simp only [Act.put, sA, sB, sC]); refine wT 14 36 ?_ rfl ?_; (try simp only [Act.put, sA, sB, sC]); refine wT 15 9 ?_ rfl ?_; (try simp only [Act.put, sA, sB, sC]))
   | ((with_reducible change ite (Region.wanted ⟨none, (Go.Op.store _ (Go.Operand.tmp 7) (Go.Operand.tmp 36)), _, _, _, _⟩ _ = true) _ _); have q0 : wS.cell? ⟨g7, 0, none⟩ = some .nilIface := HA.out.c7.cell? 0; have f0 := HA.out.c7.frozen 0; go_simp; refine hK _ _ ?_; clear hK K q0 f0; (try simp only [Act.put, sA, sB, sC]); replace HA : Kp _ := ⟨HA.out.set7⟩; generalize wS.setCell ⟨g7, 0, none⟩ .nilIface = wZ at *; obtain ⟨wS, rfl⟩ : ∃ x, x = wZ := ⟨_, rfl⟩)
   | (refine rD [0, 5] ?_; refine aS 23 28 rfl rfl (fun K hK => ?_) fun K hK => ?_)
   | (refine rD [0, 8] ?_; refine aS 23 31 rfl rfl (fun K hK => ?_) fun K hK => ?_)
   | (refine rD [0, 10] ?_; refine aS 23 33 rfl rfl (fun K hK => ?_) fun K hK => ?_)
   | (refine rD [3, 5] ?_; refine aS 26 28 rfl rfl (fun K hK => ?_) fun K hK => ?_)
   | (refine rD [3, 8] ?_; refine aS 26 31 rfl rfl (fun K hK => ?_) fun K hK => ?_)
   | (refine rD [3, 10] ?_; refine aS 26 33 rfl rfl (fun K hK => ?_) fun K hK => ?_)
   | (refine rD [0] ?_; refine aR 23 rfl fun K hK => ?_)
   | (refine rD [3] ?_; refine aR 26 rfl fun K hK => ?_)
   | (refine rD [5] ?_; refine aR 28 rfl fun K hK => ?_)
   | (refine rD [8] ?_; refine aR 31 rfl fun K hK => ?_)
   | (refine rD [10] ?_; refine aR 33 rfl fun K hK => ?_)
   | (refine rD [11] ?_; refine aR 34 rfl fun K hK => ?_)
   | (refine rD [16] ?_; refine AllReady.cons (o := ⟨none, _, _, _, _, _⟩) rfl (fun K hK => ?_) AllReady.nil)
   | (refine wpAny_done (by decide +kernel) ?_ _; go_wp2_with fail; go_meet; case rel => exact ⟨A, n, c, rfl, HN, HA⟩)
   | fail)
 case rest =>
  obtain ⟨A, n, c, rfl, HN, HA3⟩ := hcut
  clear HA2
  have q7 : wc.cell? ⟨g7, 0, none⟩ = some .nilIface := HA3.out.c7.cell? 0
  go_upto_region 8 with fail
  clear q7
  have q3 : wc.cell? ⟨g3, 0, none⟩ = some (.pointer (some ⟨g, 0, none⟩)) := HA3.out.c3.cell? 0
  go_wp2_with fail
  obtain ⟨A9, n9, c9, D9, m9, e9, A8, n8, c8, D8, m8, e8, hMx, hL3, hL4⟩ := HA3.out.st.mem
  refine (mshow_any hMx HKy.out rfl rfl rc.num rfl HC.out.2.2.2.1 A n c bb (HA3.out.st.held (by simp)) HBb.out.2.1 HBb.out.2.2).mono ?_
  rintro x2 w4 ⟨A', c', rfl, hx4, hb4⟩
  have HA4 : Kp _ := ⟨HA3.out.step (HA3.out.st.keep (HA3.out.st.st.growHold hb4 hx4 (by omega)) (HA3.out.st.st.keepBelow hb4) (fun _ h => List.mem_cons_of_mem _ h)) (HA3.out.keepOx (HA3.out.st.st.keepBelow hb4))⟩
  clear hx4 hb4 hMx hL3 hL4 A9 n9 c9 D9 m9 e9 A8 n8 c8 D8 m8 e8 HA3 q3
  have q6 : w4.cell? ⟨g6, 0, none⟩ = some (.slice none 0 0) := HA4.out.c6.cell? 0
  have f6 := HA4.out.c6.frozen 0
  have q7 : w4.cell? ⟨g7, 0, none⟩ = some .nilIface := HA4.out.c7.cell? 0
  have f7 := HA4.out.c7.frozen 0
  have hne67 := HA4.out.ne.2.2
  go_upto_region 11 with fail
  have HA5 : Kp _ := ⟨(HA4.out.set6 (.slice A' 256 c')).set7⟩
  generalize (w4.setCell ⟨g6, 0, none⟩ (.slice A' 256 c')).setCell ⟨g7, 0, none⟩ .nilIface = w5 at *
  clear HA4 q6 f6 q7 f7 hne67
  go_cut [10] from 49 to 59 (fun v10 wx => ∃ x Om' nm' g1 g2 gp, v10 = .func (.func 142) #[] #[.pointer (some ⟨g1, 0, none⟩), .pointer (some ⟨g2, 0, none⟩)] ∧ Kp (PartA F (at' / 16) rc.su x ∧ nm' ≤ nm + 1) ∧ Kp (AcW w0 w wx (k + 1) (readW t ((at' : Int), (s2 : Int))) Om' Ox ((A', 256, c', showL s.hk bb) :: (A, n, c, bb) :: hs) g gm nm' s ks rc rn (q : Int) lim (fun j => if j = at' / 16 then some x else F j) g3 g6 g7 (.slice A' 256 c')) ∧ Kp (Blk wx g1 119 (stL s)) ∧ Kp (Blk wx g2 231 [.slice (some ⟨gp, 0, none⟩) 1 1]) ∧ Kp (wx.cell? ⟨gp, 0, none⟩ = some (.pointer (some ⟨x.p, 0, none⟩))) ∧ Kp (gp < wx.heap.size ∧ ∀ j, Om' j → j ≠ gp))
  case first =>
   refine wp_noPanic ?_
   have HA : Kp _ := ⟨HA5.out⟩
   clear HA5
   go_wp2_with fail
   refine wp_region_any (by kernel_rfl) ?_
   change wpAny _ _ _ _ _ _ _ w5.drew
   replace HA : Kp _ := ⟨HA.out.drew⟩
   generalize w5.drew = wS at *
   refine wT 5 54 ?_ rfl ?_
   try simp only [Act.put, sA, sB, sC]
   repeat' (first
    | ((with_reducible change ite (Region.wanted ⟨some 49, _, _, _, _, _⟩ _ = true) _ _); have q0 : wS.cell? ⟨g3, 0, none⟩ = some (.pointer (some ⟨g, 0, none⟩)) := HA.out.c3.cell? 0; go_simp; refine hK _ _ ?_; clear hK K q0; (try simp only [Act.put, sA, sB, sC]); refine wT 1 50 ?_ rfl ?_; (try simp only [Act.put, sA, sB, sC]); refine wT 2 51 ?_ rfl ?_; (try simp only [Act.put, sA, sB, sC]))
    | ((with_reducible change ite (Region.wanted ⟨some 52, _, _, _, _, _⟩ _ = true) _ _); obtain ⟨A9, n9, c9, D9, m9, e9, A8, n8, c8, D8, m8, e8, hMx, hL3, hL4⟩ := HA.out.st.mem; refine step_load rwSto rfl (.tmp 51) rfl rfl hMx (by rw [mmL_length HKy.out rfl rfl]; decide) (mm_store HKy.out) ?_; clear hMx hL3 hL4 A9 n9 c9 D9 m9 e9 A8 n8 c8 D8 m8 e8; refine hK _ _ ?_; clear hK K; (try simp only [Act.put, sA, sB, sC]))
    | ((with_reducible change ite (Region.wanted ⟨some 53, _, _, _, _, _⟩ _ = true) _ _); have q0 : wS.cell? ⟨g3, 0, none⟩ = some (.pointer (some ⟨g, 0, none⟩)) := HA.out.c3.cell? 0; go_simp; refine hK _ _ ?_; clear hK K q0; (try simp only [Act.put, sA, sB, sC]))
    | ((with_reducible change ite (Region.wanted ⟨some 55, _, _, _, _, _⟩ _ = true) _ _); go_simp; refine (mpart_any HA.out.st at' hat HC.out.2.2.2.2.1 HC.out.2.2.2.2.2).mono ?_; rintro e wZ ⟨x, Om', nm', rfl, hPa, h9, k9, hn9, _⟩; have HPa : Kp (PartA F (at' / 16) rc.su x ∧ nm' ≤ nm + 1) := ⟨hPa, hn9⟩; replace HA : Kp _ := ⟨HA.out.step h9 k9⟩; clear h9 k9 hPa hn9; refine hK _ _ ?_; clear hK K; (try simp only [Act.put, sA, sB, sC]); obtain ⟨wS, rfl⟩ : ∃ x, x = wZ := ⟨_, rfl⟩; refine wT 7 56 ?_ rfl ?_; (try simp only [Act.put, sA, sB, sC]); refine wT 8 57 ?_ rfl ?_; (try simp only [Act.put, sA, sB, sC]))
    | ((with_reducible change ite (Region.wanted ⟨some 58, _, _, _, _, _⟩ _ = true) _ _); go_simp; have hb' : Below wS.heap.size wS (wS.alloc (.cells #[.pointer (some ⟨x.p, 0, none⟩)] 171)) := (Below.refl _ _).alloc (Nat.le_refl _) _; have HGp : Kp (Blk (wS.alloc (.cells #[.pointer (some ⟨x.p, 0, none⟩)] 171)) wS.heap.size 171 [.pointer (some ⟨x.p, 0, none⟩)]) := ⟨Blk.new wS _ _⟩; have HGn : Kp (∀ j, Om' j → j ≠ wS.heap.size) := ⟨fun j hj e => by have := (HA.out.st.st.lt hj).2; omega⟩; obtain ⟨gp, hgp⟩ : ∃ g, g = wS.heap.size := ⟨_, rfl⟩; rw [← hgp] at HGp HGn ⊢; replace HA : Kp _ := ⟨HA.out.grow hb'⟩; clear hb' hgp; refine hK _ _ ?_; clear hK K; (try simp only [Act.put, sA, sB, sC]); generalize wS.alloc (.cells #[.pointer (some ⟨x.p, 0, none⟩)] 171) = wZ at *; obtain ⟨wS, rfl⟩ : ∃ x, x = wZ := ⟨_, rfl⟩)
    | ((with_reducible change ite (Region.wanted ⟨some 59, _, _, _, _, _⟩ _ = true) _ _); go_simp; refine (folder_any (s := s) (some ⟨gp, 0, none⟩) 1 1 wS).mono ?_; rintro e wZ ⟨g1, g2, rfl, hg1, hg2, hk1, hk2, hb'⟩; have HG1 : Kp _ := ⟨hk1⟩; have HG2 : Kp _ := ⟨hk2⟩; replace HGp : Kp _ := ⟨HGp.out.below hb' HGp.out.lt⟩; replace HA : Kp _ := ⟨HA.out.grow hb'⟩; clear hk1 hk2 hg1 hg2 hb'; refine hK _ _ ?_; clear hK K; (try simp only [Act.put, sA, sB, sC]); obtain ⟨wS, rfl⟩ : ∃ x, x = wZ := ⟨_, rfl⟩; refine wT 11 10 ?_ rfl ?_; (try simp only [Act.put, sA, sB, sC]))
    | (refine rD [0, 4] ?_; refine aS 49 53 rfl rfl (fun K hK => ?_) fun K hK => ?_)
    | (refine rD [0, 6] ?_; refine aS 49 55 rfl rfl (fun K hK => ?_) fun K hK => ?_)
    | (refine rD [0, 9] ?_; refine aS 49 58 rfl rfl (fun K hK => ?_) fun K hK => ?_)
    | (refine rD [3, 4] ?_; refine aS 52 53 rfl rfl (fun K hK => ?_) fun K hK => ?_)
    | (refine rD [3, 6] ?_; refine aS 52 55 rfl rfl (fun K hK => ?_) fun K hK => ?_)
    | (refine rD [3, 9] ?_; refine aS 52 58 rfl rfl (fun K hK => ?_) fun K hK => ?_)
    | (refine rD [0] ?_; refine aR 49 rfl fun K hK => ?_)
    | (refine rD [3] ?_; refine aR 52 rfl fun K hK => ?_)
    | (refine rD [4] ?_; refine aR 53 rfl fun K hK => ?_)
    | (refine rD [6] ?_; refine aR 55 rfl fun K hK => ?_)
    | (refine rD [9] ?_; refine aR 58 rfl fun K hK => ?_)
    | (refine rD [10] ?_; refine aR 59 rfl fun K hK => ?_)
    | (refine wpAny_done (by decide +kernel) ?_ _; go_wp2_with fail; go_meet; case rel => exact ⟨x, Om', nm', g1, g2, gp, rfl, HPa, HA, HG1, HG2, ⟨HGp.out.cell? 0⟩, ⟨HGp.out.lt, HGn.out⟩⟩)
    | fail)
  case rest =>
   obtain ⟨x, Om', nm', g1, g2, gp, rfl, HPa, HA6, HG1, HG2, HGp, HGn⟩ := hcut
   clear HA5
   obtain ⟨rd9, hrd9⟩ : ∃ z, z = addL x.rd (ofL ks (at' : Int) bb) := ⟨_, rfl⟩
   have HRd : Kp (rd9 = addL x.rd (ofL ks (at' : Int) bb)) := ⟨hrd9⟩
   clear hrd9
   have HFx : Kp ((fun j => if j = at' / 16 then some x else F j) (at' / 16) = some x) := ⟨by simp⟩
   have HPt : Kp _ := ⟨HA6.out.st.pts _ _ HFx.out⟩
   go_wp2_with fail
   have hn9 := HN.out
   have hp9 : ∀ j (hj : j < [(⟨x.p, 0, 184, cells8 x.rd ++ cells8 x.wr, x.rd⟩ : Tg)].length), wc.cell? ⟨gp, j, none⟩ = some (.pointer (some ⟨[(⟨x.p, 0, 184, cells8 x.rd ++ cells8 x.wr, x.rd⟩ : Tg)][j].g, [(⟨x.p, 0, 184, cells8 x.rd ++ cells8 x.wr, x.rd⟩ : Tg)][j].o, none⟩)) := fun j hj => by
    match j, hj with
    | 0, _ => exact HGp.out
   have ht9 : Tgs wc [(⟨x.p, 0, 184, cells8 x.rd ++ cells8 x.wr, x.rd⟩ : Tg)] (ofL ks (at' : Int) bb) 0 := ⟨fun j hj => by
    match j, hj with
    | 0, _ => exact HPt.out.2.2.2.1⟩
   refine (fold_any HA6.out.st.st HKy.out ks HA6.out.st.sum A n c bb (by simp) (by omega) (at' : Int) g1 g2 gp 1 1 [⟨x.p, 0, 184, cells8 x.rd ++ cells8 x.wr, x.rd⟩] rfl HG1.out HG2.out hp9 HGn.out.1 ht9 (fun y hy => by
    obtain rfl := List.mem_singleton.1 hy
    exact ⟨tg_rd_ok _ _ _ _ HPt.out.2.2.2.2.1 HPt.out.2.2.2.2.2, HPt.out.1, HGn.out.2 _ HPt.out.1⟩) (by simp) (by omega)).mono ?_
   rintro y w7 ⟨rfl, h9, t9, k9⟩
   have hq9 := t9.at_ 0 (by simp)
   have hq8 : Blk w7 x.p 184 (cells8 rd9 ++ cells8 x.wr) := by
    rw [HRd.out, ← tg_rd x.p 184 x.rd x.wr _ HPt.out.2.2.2.2.1 HPt.out.2.2.2.2.2]
    exact hq9
   have hE9 := HA6.out.st.fold (i := at' / 16) (x := x) (rd := rd9) (wr := x.wr) (by simp) h9 (k9.less fun j hj => ⟨hj.1, fun y hy => by obtain rfl := List.mem_singleton.1 hy; exact fun e => hj.2 e.symm⟩) hq8 (by rw [HRd.out]; exact addL_length _ _) HPt.out.2.2.2.2.2
   have HA7 : Kp _ := ⟨HA6.out.step hE9.1 hE9.2⟩
   clear hE9 hq8 hq9 h9 t9 k9 hp9 ht9 hn9 HPt HFx HA6 HG1 HG2 HGp HGn
   have q6 : w7.cell? ⟨g6, 0, none⟩ = some (.slice A' 256 c') := HA7.out.c6.cell? 0
   go_upto_region 14 with fail
   go_wp2_with fail
   go_loop [11, 67] (fun v i => v = .slice A' 256 c' ∧ i = .int .i64 0) (fun _ _ => 0)
   case atStart => exact ⟨rfl, rfl⟩
   case round =>
    obtain ⟨rfl, rfl⟩ := hrel
    clear q6
    go_upto_region 19 with fail
    go_cut [] from 73 to 77 (fun wx => ∃ hs', Kp (∀ y ∈ (A', 256, c', showL s.hk bb) :: (A, n, c, bb) :: hs, y ∈ hs') ∧ Kp (AcW w0 w wx (k + 1 + 1) (writeW (readW t ((at' : Int), (s2 : Int))) ((at' : Int), ((1 - s0 : Nat) : Int)) b) Om' Ox hs' g gm nm' s ks rc (nowR rc rn (at' : Int)) ((q + 1 : Nat) : Int) lim (folded (fun j => if j = at' / 16 then some ⟨x.p, rd9, x.wr⟩ else (fun j => if j = at' / 16 then some x else F j) j) (at' / 16) x.p rd9 (addL x.wr (ofL ks (at' : Int) b))) g3 g6 g7 (.slice A' 256 c')))
    case first =>
     refine wp_noPanic ?_
     have HA : Kp _ := ⟨HA7.out⟩
     clear HA7
     go_wp2_with fail
     refine wp_region_any (by kernel_rfl) ?_
     change wpAny _ _ _ _ _ _ _ w7.drew
     replace HA : Kp _ := ⟨HA.out.drew⟩
     generalize w7.drew = wS at *
     refine wT 2 75 ?_ rfl ?_
     try simp only [Act.put, sA, sB, sC]
     refine wT 3 76 ?_ rfl ?_
     try simp only [Act.put, sA, sB, sC]
     repeat' (first
      | ((with_reducible change ite (Region.wanted ⟨some 73, _, _, _, _, _⟩ _ = true) _ _); have q0 : wS.cell? ⟨g6, 0, none⟩ = some (.slice A' 256 c') := HA.out.c6.cell? 0; go_simp; refine hK _ _ ?_; clear hK K q0; (try simp only [Act.put, sA, sB, sC]))
      | ((with_reducible change ite (Region.wanted ⟨some 74, _, _, _, _, _⟩ _ = true) _ _); have q0 : wS.cell? ⟨g3, 0, none⟩ = some (.pointer (some ⟨g, 0, none⟩)) := HA.out.c3.cell? 0; go_simp; refine hK _ _ ?_; clear hK K q0; (try simp only [Act.put, sA, sB, sC]))
      | ((with_reducible change ite (Region.wanted ⟨some 77, _, _, _, _, _⟩ _ = true) _ _); go_simp; have hwb9 := HWb.out; rw [HS.out.1] at hwb9; have hc9 := HC.out; refine (mrenew_any HA.out.st (by omega) at' hat ⟨x.p, rd9, x.wr⟩ (by simp) (by omega) A' 256 c' (showL s.hk bb) (by simp) (by omega) hwb9 b HB.out).mono ?_; rintro e wZ ⟨rfl, hs9, hsub9, h9, k9⟩; rw [← HS.out.1] at h9; have HSb : Kp _ := ⟨hsub9⟩; replace HA : Kp _ := ⟨HA.out.step h9 k9⟩; clear hwb9 hc9 hsub9 h9 k9; refine hK _ _ ?_; clear hK K; (try simp only [Act.put, sA, sB, sC]); obtain ⟨wS, rfl⟩ : ∃ x, x = wZ := ⟨_, rfl⟩)
      | ((with_reducible change ite (Region.wanted ⟨none, (Go.Op.store _ (Go.Operand.tmp 6) (Go.Operand.tmp 73)), _, _, _, _⟩ _ = true) _ _); have q0 : wS.cell? ⟨g6, 0, none⟩ = some (.slice A' 256 c') := HA.out.c6.cell? 0; have f0 := HA.out.c6.frozen 0; go_simp; refine hK _ _ ?_; clear hK K q0 f0; (try simp only [Act.put, sA, sB, sC]); replace HA : Kp _ := ⟨HA.out.set6 (.slice A' 256 c')⟩; generalize wS.setCell ⟨g6, 0, none⟩ (.slice A' 256 c') = wZ at *; obtain ⟨wS, rfl⟩ : ∃ x, x = wZ := ⟨_, rfl⟩)
      | ((with_reducible change ite (Region.wanted ⟨none, (Go.Op.store _ (Go.Operand.tmp 7) (Go.Operand.tmp 77)), _, _, _, _⟩ _ = true) _ _); have q0 : wS.cell? ⟨g7, 0, none⟩ = some .nilIface := HA.out.c7.cell? 0; have f0 := HA.out.c7.frozen 0; go_simp; refine hK _ _ ?_; clear hK K q0 f0; (try simp only [Act.put, sA, sB, sC]); replace HA : Kp _ := ⟨HA.out.set7⟩; generalize wS.setCell ⟨g7, 0, none⟩ .nilIface = wZ at *; obtain ⟨wS, rfl⟩ : ∃ x, x = wZ := ⟨_, rfl⟩)
      | (refine rD [0, 1] ?_; refine aS 73 74 rfl rfl (fun K hK => ?_) fun K hK => ?_)
      | (refine rD [0, 4] ?_; refine aS 73 77 rfl rfl (fun K hK => ?_) fun K hK => ?_)
      | (refine rD [0] ?_; refine aR 73 rfl fun K hK => ?_)
      | (refine rD [1] ?_; refine aR 74 rfl fun K hK => ?_)
      | (refine rD [4] ?_; refine aR 77 rfl fun K hK => ?_)
      | (refine rD [5] ?_; refine AllReady.cons (o := ⟨none, _, _, _, _, _⟩) rfl (fun K hK => ?_) AllReady.nil)
      | (refine rD [6] ?_; refine AllReady.cons (o := ⟨none, _, _, _, _, _⟩) rfl (fun K hK => ?_) AllReady.nil)
      | (refine wpAny_done (by decide +kernel) ?_ _; go_wp2_with fail; go_meet; case rel => exact ⟨hs9, HSb, HA⟩)
      | fail)
    case rest =>
     obtain ⟨hs', HSb, HA8⟩ := hcut
     clear HA7
     go_wp2_with fail
     refine leaves_cons (f := 91) (args := #[.pointer (some ⟨g3, 0, none⟩), .pointer (some ⟨g7, 0, none⟩), .pointer (some ⟨g6, 0, none⟩)]) (by simp) (by simp [go_sem]) ?_
     refine (access_deferred .returning wc g3 g6 g7 g HA8.out.c3 HA8.out.c7).mono ?_
     rintro e u' w9 ⟨rfl, rfl, hb9⟩
     have HA9 := HA8.out.grow hb9
     have q6 : w9.cell? ⟨g6, 0, none⟩ = some (.slice A' 256 c') := HA9.c6.cell? 0
     have q7 : w9.cell? ⟨g7, 0, none⟩ = some .nilIface := HA9.c7.cell? 0
     refine ⟨.tuple #[.slice A' 256 c', .nilIface], ?_, A', c', rfl, ⟨x, Om', nm', hs', HPa.out.1, fun y hy => HSb.out y (by simp [hy]), HSb.out _ (by simp), HPa.out.2, ?_⟩, HA9.keep⟩
     ·simp [results, Tryz.results53, go_sem, q6, q7]
     ·have h9 := HA9.st.lessO (Ox' := Ox) (fun j hj => .inl (.inl (.inl hj)))
      rw [folded_twice, HRd.out] at h9
      exact h9
end
end Go.Proofs.YtcehkafddlfleaaGreatDoor
