/- 
   
    -/
import Derived.Test.YtcehkafddlfleaaGreatDoorG02
import Derived.Test.YtcehkafddlfleaaGreatDoorG44
import Derived.Test.YtcehkafddlfleaaGreatDoorG43
import Derived.Test.YtcehkafddlfleaaGreatDoorG24
import Derived.Defers
import Derived.Test.YtcehkafddlfleaaGreatDoorG03
namespace Go.Proofs.YtcehkafddlfleaaGreatDoor
open Go.RowKit
section
variable {s : Sto} {cn nw : List Value} {q lim : Int} {gm : Option Nat} {po : Bool}
theorem mm_certv (h : s.hk.length = 16) (h1 : cn.length = 4) : ((mmL s cn nw q lim gm po).drop 19).take 4 = cn := by
 unfold mmL
 rw [List.drop_left' (stL_length s h), List.take_left' h1]
theorem mm_nowv (h : s.hk.length = 16) (h1 : cn.length = 4) (h2 : nw.length = 4) : ((mmL s cn nw q lim gm po).drop 23).take 4 = nw := by
 unfold mmL
 rw [← List.append_assoc, List.drop_left' (by rw [List.length_append, stL_length s h, h1]), List.take_left' h2]
end
theorem slotI_le (l : List UInt8) (i : Int) : slotI l i ≤ 1 := by
 unfold slotI
 split
 ·omega
 ·have : slotN l i.toNat < 2 := Nat.mod_lt _ (by omega)
  omega
def nowR (rc rn : Rc) (i : Int) : Rc := if slotI rn.sl i = 1 - slotI rc.sl i then rn else flipR rn i
theorem tg_pt (p : Nat) (t : TypeId) (rd wr v : List UInt8) (hr : rd.length = 32) (hw : wr.length = 32) : (⟨p, 32, t, cells8 rd ++ cells8 wr, wr⟩ : Tg).add v (decide (0 < 1)) = cells8 rd ++ cells8 (addL wr v) := by
 unfold Tg.add Tg.put
 rw [if_pos (show decide (0 < 1) = true from rfl)]
 show (cells8 rd ++ cells8 wr).take 32 ++ cells8 (addL wr v) ++ (cells8 rd ++ cells8 wr).drop 64 = _
 rw [List.take_left' (by rw [cells8_length]; exact hr), List.drop_of_length_le (by rw [List.length_append, cells8_length, cells8_length]; omega), List.append_nil]
theorem tg_pt_ok (p : Nat) (t : TypeId) (rd wr : List UInt8) (hr : rd.length = 32) (hw : wr.length = 32) : (⟨p, 32, t, cells8 rd ++ cells8 wr, wr⟩ : Tg).ok := by
 refine ⟨?_, ?_, hw⟩
 ·show 32 + 32 ≤ (cells8 rd ++ cells8 wr).length
  rw [List.length_append, cells8_length, cells8_length]; omega
 ·show ((cells8 rd ++ cells8 wr).drop 32).take 32 = _
  rw [List.drop_left' (by rw [cells8_length]; exact hr), List.take_of_length_le (by rw [cells8_length]; omega)]
def folded (F : Nat → Option Pt) (i : Nat) (p : Nat) (rd wr : List UInt8) : Nat → Option Pt := fun j => if j = i then some ⟨p, rd, wr⟩ else F j
section
variable {w0 w : World} {k : Nat} {t : Wd} {Om Ox : Nat → Prop} {hs : List Held} {g gm nm : Nat} {s : Sto} {ks : List UInt8} {rc rn : Rc} {q : Nat} {lim : Int} {po : Bool} {F : Nat → Option Pt}
set_option maxRecDepth 100000 in
set_option maxHeartbeats 16000000 in
theorem mrenew_any (h : MemW w0 w k t Om Ox hs g gm nm s ks rc rn (q : Int) lim po F) (hk : k ≤ 1000000) (at' : Nat) (hat : at' ≤ 1000000) (x : Pt) (hF : F (at' / 16) = some x) (hq : q + 1 < 4294967296) (A0 : Option Addr) (n0 c0 : Nat) (body : List UInt8) (ha : (A0, n0, c0, body) ∈ hs) (hn : n0 ≤ 256) (hw : writeB t ((at' : Int), ((1 - slotI rc.sl (at' : Int) : Nat) : Int)) = true) (b : List UInt8) (hb9 : b = hideL s.hk rc.num (q + 1) body) :
  Calls Tryz.prog 98 #[.pointer (some ⟨g, 0, none⟩), .int .i64 (at' : Int), .slice A0 n0 c0] w fun r w' => r = .returned .nilIface ∧ ∃ hs', (∀ y ∈ hs, y ∈ hs') ∧ MemW w0 w' (k + 1) (writeW t ((at' : Int), ((1 - slotI rc.sl (at' : Int) : Nat) : Int)) b) Om Ox hs' g gm nm s ks rc (nowR rc rn (at' : Int)) ((q + 1 : Nat) : Int) lim po (folded F (at' / 16) x.p x.rd (addL x.wr (ofL ks (at' : Int) b))) ∧ Keep Ox w w' := by
 obtain ⟨sl, hsl⟩ : ∃ z, z = 1 - slotI rc.sl (at' : Int) := ⟨_, rfl⟩
 have hsl0 := slotI_le rc.sl (at' : Int)
 rw [← hsl] at hw ⊢
 obtain ⟨s0, hs0⟩ : ∃ z, z = slotI rc.sl (at' : Int) := ⟨_, rfl⟩
 rw [← hs0] at hsl hsl0
 obtain ⟨s2, hs2⟩ : ∃ z, z = slotI rn.sl (at' : Int) := ⟨_, rfl⟩
 obtain ⟨rN, hrN⟩ : ∃ z, z = nowR rc rn (at' : Int) := ⟨_, rfl⟩
 obtain ⟨rF, hrF⟩ : ∃ z, z = flipR rn (at' : Int) := ⟨_, rfl⟩
 obtain ⟨wr9, hwr9⟩ : ∃ z, z = addL x.wr (ofL ks (at' : Int) b) := ⟨_, rfl⟩
 have HWr9 : Kp (wr9 = addL x.wr (ofL ks (at' : Int) b)) := ⟨hwr9⟩
 have HRF : Kp (rF = flipR rn (at' : Int)) := ⟨hrF⟩
 rw [← hrN, ← hwr9]
 have HRn : Kp ((s2 = sl → rN = rn) ∧ (s2 ≠ sl → rN = rF)) := ⟨by
  rw [hrN, hrF]
  unfold nowR
  rw [← hs0, ← hs2, ← hsl]
  exact ⟨fun e => if_pos e, fun e => if_neg e⟩⟩
 have HSl : Kp (s0 = slotI rc.sl (at' : Int) ∧ s2 = slotI rn.sl (at' : Int)) := ⟨hs0, hs2⟩
 have HS9 : Kp (sl = 1 - s0 ∧ s0 ≤ 1) := ⟨hsl, hsl0⟩
 have hw0 : wrap64 (1 - (s0 : Int)) = (sl : Int) := by unfold wrap64; omega
 have hw1 : 1 - (s0 : Int) = (sl : Int) := by omega
 have hsl2 : sl ≤ 1 := by omega
 clear hs0 hs2 hsl hrN hrF hwr9
 have HWr : Kp _ := ⟨hw⟩
 have HA : Kp _ := ⟨ha⟩
 have HN : Kp (n0 ≤ 256 ∧ k ≤ 1000000) := ⟨hn, hk⟩
 have HFx : Kp _ := ⟨hF⟩
 have HB9 : Kp _ := ⟨hb9⟩
 have HKy : Kp (s.hk.length = 16 ∧ (∀ z, okP ((at' : Int), (z : Int)) ↔ okP ((at' : Int), (z : Int)))) := ⟨h.key, fun _ => Iff.rfl⟩
 obtain ⟨q1, hq1⟩ : ∃ z : Nat, z = q + 1 := ⟨_, rfl⟩
 have hqe : (q : Int) + 1 = (q1 : Int) := by omega
 have HQ1 : Kp (q1 = q + 1 ∧ q1 < 4294967296) := ⟨hq1, by omega⟩
 rw [← hq1] at HB9 ⊢
 clear hq1
 obtain ⟨A, n, c, D, m, e, A2, n2, c2, D2, m2, e2, hM, h3, h4⟩ := h.mem
 have c27 : w.cell? ⟨g, 27, none⟩ = some (.int .i64 (q : Int)) := by rw [hM.cell? 27]; exact mm_at h.key rfl rfl 0
 have f27 := hM.frozen 27
 have HM : Kp _ := ⟨hM⟩
 have H3 : Kp _ := ⟨h3⟩
 have H4 : Kp _ := ⟨h4⟩
 have HW : Kp _ := ⟨h⟩
 have HFt : Kp (∀ (a b : List Value) (q : Int), a.length = 4 → b.length = 4 → (mmL s a b q lim (some gm) po).length = 31) := ⟨fun a b q h1 h2 => mmL_length HKy.out.1 h1 h2⟩
 clear hw ha hn hF hb9 hk hM h3 h4 h
 go_enter Tryz.func98, Tryz.ntmps98
 go_upto_region 2 with fail
 have ho1 := Only.setCell w ⟨g, 27, none⟩ (.int .i64 (q1 : Int))
 have hk1 := HM.out.set 27 (.int .i64 (q1 : Int))
 rw [mm_set HKy.out.1 rfl rfl 0] at hk1
 have HT1 : Kp _ := ⟨HW.out.turn (q' := (q1 : Int)) (lim' := lim) (po' := po) (rc' := rc) (rn' := rn) ho1 hk1 H3.out H4.out⟩
 have HM1 : Kp (Blk (w.setCell ⟨g, 27, none⟩ (.int .i64 (q1 : Int))) g 124 (mmL s (rcL rc.num rc.blk A n c D m e) (rcL rn.num rn.blk A2 n2 c2 D2 m2 e2) (q1 : Int) lim (some gm) po)) := ⟨hk1⟩
 have HF1 : Kp (19 + 4 ≤ (mmL s (rcL rc.num rc.blk A n c D m e) (rcL rn.num rn.blk A2 n2 c2 D2 m2 e2) (q1 : Int) lim (some gm) po).length ∧ 23 + 4 ≤ (mmL s (rcL rc.num rc.blk A n c D m e) (rcL rn.num rn.blk A2 n2 c2 D2 m2 e2) (q1 : Int) lim (some gm) po).length ∧ 0 + 19 ≤ (mmL s (rcL rc.num rc.blk A n c D m e) (rcL rn.num rn.blk A2 n2 c2 D2 m2 e2) (q1 : Int) lim (some gm) po).length) := ⟨by rw [HFt.out _ _ _ rfl rfl]; decide⟩
 generalize w.setCell ⟨g, 27, none⟩ (.int .i64 (q1 : Int)) = w1 at *
 clear ho1 hk1 hqe c27 f27 HM HW
 go_wp2_with (with_reducible refine wpList_loadv (o := ⟨some 21, _, _, _, _, _⟩) (vs := rcL rc.num rc.blk A n c D m e) rwSeal rfl (.tmp 20) rfl rfl HM1.out HF1.out.1 (mm_certv HKy.out.1 rfl) ?_)
 have hsa := slot_any rc A n c D m e (at' : Int) w1 (H3.out.rs HT1.out.1.st) (by omega)
 rw [← HSl.out.1] at hsa
 refine hsa.mono ?_
 rintro x2 w2 ⟨rfl, hb2⟩
 have HT2 : Kp _ := ⟨HT1.out.1.grow hb2⟩
 have HK2 : Kp (Keep Ox w w2) := ⟨HT1.out.2.trans ((HT1.out.1.st.keepBelow hb2).less fun j hj => (HT1.out.1.oth j hj).1)⟩
 have HM2 : Kp _ := ⟨HM1.out.below hb2 HM1.out.lt⟩
 clear hsa hb2 HT1 HM1
 go_upto_region 3 with fail
 go_cut [8, 9, 25] from 26 to 44 (fun v8 v9 v25 wx => ∃ B d, v8 = .slice B 272 d ∧ v9 = .nilIface ∧ v25 = .tuple #[.slice B 272 d, .nilIface] ∧ Kp (MemW w0 wx (k + 1) (writeW t ((at' : Int), (sl : Int)) b) Om Ox ((B, 272, d, b) :: hs) g gm nm s ks rc rn (q1 : Int) lim po F) ∧ Kp (Keep Ox w wx) ∧ Kp (Blk wx g 124 (mmL s (rcL rc.num rc.blk A n c D m e) (rcL rn.num rn.blk A2 n2 c2 D2 m2 e2) (q1 : Int) lim (some gm) po)))
 case first =>
  have H19 : Kp ((mmL s (rcL rc.num rc.blk A n c D m e) (rcL rn.num rn.blk A2 n2 c2 D2 m2 e2) (q1 : Int) lim (some gm) po)[19]? = some (.int .u64 (rc.num : Int))) := ⟨mm_cn HKy.out.1 rfl 0 (by decide)⟩
  have H27 : Kp ((mmL s (rcL rc.num rc.blk A n c D m e) (rcL rn.num rn.blk A2 n2 c2 D2 m2 e2) (q1 : Int) lim (some gm) po)[27]? = some (.int .i64 (q1 : Int))) := ⟨mm_at HKy.out.1 rfl rfl 0⟩
  have HT3 : Kp _ := ⟨HT2.out.drew⟩
  have HK3 : Kp _ := ⟨HK2.out.drew⟩
  clear HT2 HK2
  go_wp2_with fail
  refine wp_region_any (by kernel_rfl) ?_
  change wpAny _ _ _ _ _ _ _ w2.drew
  replace HM2 : Kp _ := ⟨HM2.out.drew⟩
  generalize w2.drew = wS at *
  refine wT 0 26 ?_ rfl ?_
  try simp only [Act.put, sA, sB, sC]
  refine wT 1 27 ?_ rfl ?_
  try simp only [Act.put, sA, sB, sC]
  refine wT 2 28 ?_ rfl ?_
  try simp only [Act.put, sA, sB, sC]
  refine wT 4 30 ?_ rfl ?_
  try simp only [Act.put, sA, sB, sC]
  refine wT 5 31 ?_ rfl ?_
  try simp only [Act.put, sA, sB, sC]
  refine wT 6 32 ?_ rfl ?_
  try simp only [Act.put, sA, sB, sC]
  refine wT 7 33 ?_ rfl ?_
  try simp only [Act.put, sA, sB, sC]
  refine wT 8 34 ?_ rfl ?_
  try simp only [Act.put, sA, sB, sC]
  refine wT 9 35 ?_ rfl ?_
  try simp only [Act.put, sA, sB, sC]
  refine wT 11 37 ?_ rfl ?_
  try simp only [Act.put, sA, sB, sC]
  refine wT 12 38 ?_ rfl ?_
  try simp only [Act.put, sA, sB, sC]
  refine wT 13 39 ?_ rfl ?_
  try simp only [Act.put, sA, sB, sC]
  refine wT 15 41 ?_ rfl ?_
  try simp only [Act.put, sA, sB, sC]
  repeat' (first
   | ((with_reducible change ite (Region.wanted ⟨some 29, _, _, _, _, _⟩ _ = true) _ _); refine step_load rwSto rfl (.tmp 28) rfl rfl HM2.out HF1.out.2.2 (mm_store HKy.out.1) ?_; refine hK _ _ ?_; clear hK K; (try simp only [Act.put, sA, sB, sC]))
   | ((with_reducible change ite (Region.wanted ⟨some 36, _, _, _, _, _⟩ _ = true) _ _); have q0 := HM2.out.cell? 19; rw [H19.out] at q0; go_simp; refine hK _ _ ?_; clear hK K q0; (try simp only [Act.put, sA, sB, sC]))
   | ((with_reducible change ite (Region.wanted ⟨some 40, _, _, _, _, _⟩ _ = true) _ _); have q0 := HM2.out.cell? 27; rw [H27.out] at q0; go_simp; refine hK _ _ ?_; clear hK K q0; (try simp only [Act.put, sA, sB, sC]))
   | ((with_reducible change ite (Region.wanted ⟨some 42, _, _, _, _, _⟩ _ = true) _ _); go_simp; refine (swrite_any HT3.out.st HN.out.2 HKy.out.1 (at' : Int) (sl : Int) ⟨WalkArith.wf_i64 (by omega), WalkArith.wf_i64 (by omega)⟩ rc.num q1 H3.out.num HQ1.out.2 A0 n0 c0 body (HT3.out.st.held HA.out).1 HN.out.1 HWr.out).mono ?_; rintro e wZ ⟨B, d, rfl, h9, k9⟩; rw [← HB9.out] at h9; have HT9 : Kp _ := ⟨HT3.out.keep h9 k9 (fun _ h => List.mem_cons_of_mem _ h)⟩; have HK9 : Kp (Keep Ox w wZ) := ⟨HK3.out.trans (k9.less fun j hj => (HT3.out.oth j hj).1)⟩; have HM9 : Kp _ := ⟨k9.blk HM2.out HT3.out.mine.1⟩; clear h9 k9 HM2; refine hK _ _ ?_; clear hK K; (try simp only [Act.put, sA, sB, sC]); obtain ⟨wS, rfl⟩ : ∃ x, x = wZ := ⟨_, rfl⟩; refine wT 17 25 ?_ rfl ?_; (try simp only [Act.put, sA, sB, sC]); refine wT 18 43 ?_ rfl ?_; (try simp only [Act.put, sA, sB, sC]); refine wT 19 44 ?_ rfl ?_; (try simp only [Act.put, sA, sB, sC]); refine wT 20 8 ?_ rfl ?_; (try simp only [Act.put, sA, sB, sC]); refine wT 21 9 ?_ rfl ?_; (try simp only [Act.put, sA, sB, sC]))
   | (refine rD [3, 10, 14] ?_; refine AllReady.cons (o := ⟨some 29, _, _, _, _, _⟩) rfl (fun K hK => ?_) (aS 36 40 rfl rfl (fun K hK => ?_) fun K hK => ?_))
   | (refine rD [3, 10] ?_; refine aS 29 36 rfl rfl (fun K hK => ?_) fun K hK => ?_)
   | (refine rD [3, 14] ?_; refine aS 29 40 rfl rfl (fun K hK => ?_) fun K hK => ?_)
   | (refine rD [10, 14] ?_; refine aS 36 40 rfl rfl (fun K hK => ?_) fun K hK => ?_)
   | (refine rD [3] ?_; refine aR 29 rfl fun K hK => ?_)
   | (refine rD [10] ?_; refine aR 36 rfl fun K hK => ?_)
   | (refine rD [14] ?_; refine aR 40 rfl fun K hK => ?_)
   | (refine rD [16] ?_; refine aR 42 rfl fun K hK => ?_)
   | (refine wpAny_done (by decide +kernel) ?_ _; go_wp2_with fail; go_meet; case rel => exact ⟨B, d, rfl, rfl, rfl, HT9, HK9, HM9⟩)
   | fail)
 case rest =>
  obtain ⟨B, d, rfl, rfl, rfl, HT4, HK4, HM4⟩ := hcut
  clear HT2 HK2 HM2 HWr HA
  go_upto_region 6 with fail
  go_wp2_with (with_reducible refine wpList_loadv (o := ⟨some 51, _, _, _, _, _⟩) (vs := rcL rn.num rn.blk A2 n2 c2 D2 m2 e2) rwSeal rfl (.tmp 50) rfl rfl HM4.out HF1.out.2.1 (mm_nowv HKy.out.1 rfl rfl) ?_)
  have hsa := slot_any rn A2 n2 c2 D2 m2 e2 (at' : Int) wc ((H4.out.mono (fun _ h => List.mem_cons_of_mem _ h)).rs HT4.out.st) (by omega)
  rw [← HSl.out.2] at hsa
  refine hsa.mono ?_
  rintro x2 w5 ⟨rfl, hb5⟩
  have HT5 : Kp _ := ⟨HT4.out.grow hb5⟩
  have HK5 : Kp (Keep Ox w w5) := ⟨HK4.out.trans ((HT4.out.st.keepBelow hb5).less fun j hj => (HT4.out.oth j hj).1)⟩
  have HM5 : Kp _ := ⟨HM4.out.below hb5 HM4.out.lt⟩
  clear hsa hb5 HT4 HM4 HK4
  by_cases he : s2 = sl
  ·have HE : Kp _ := ⟨he⟩
   have hne : ((s2 : Int) != (sl : Int)) = false := by simp [he]
   clear he
   go_upto_region 8 with fail
   go_cut [10] from 65 to 75 (fun v10 wx => ∃ g1 g2 gp, v10 = .func (.func 142) #[] #[.pointer (some ⟨g1, 0, none⟩), .pointer (some ⟨g2, 0, none⟩)] ∧ Kp (Blk wx g1 119 (stL s)) ∧ Kp (Blk wx g2 231 [.slice (some ⟨gp, 0, none⟩) 1 1]) ∧ Kp (wx.cell? ⟨gp, 0, none⟩ = some (.pointer (some ⟨x.p, 32, none⟩))) ∧ Kp (w5.heap.size ≤ gp ∧ gp < wx.heap.size) ∧ Kp (Below w5.heap.size w5 wx))
   case first =>
    have hB9 : Below w5.heap.size w5 w5 := Below.refl _ _
    have HWb : Kp (∀ W, Below w5.heap.size w5 W → MemW w0 W (k + 1) (writeW t ((at' : Int), (sl : Int)) b) Om Ox ((B, 272, d, b) :: hs) g gm nm s ks rc rn (q1 : Int) lim po F) := ⟨fun W hW => HT5.out.grow hW⟩
    have HBb : Kp (∀ W, Below w5.heap.size w5 W → Blk W g 124 (mmL s (rcL rc.num rc.blk A n c D m e) (rcL rn.num rn.blk A2 n2 c2 D2 m2 e2) (q1 : Int) lim (some gm) po)) := ⟨fun W hW => HM5.out.below hW HM5.out.lt⟩
    have HF8 : Kp (0 + 19 ≤ ((mmL s (rcL rc.num rc.blk A n c D m e) (rcL rn.num rn.blk A2 n2 c2 D2 m2 e2) (q1 : Int) lim (some gm) po)).length) := ⟨by rw [HFt.out _ _ _ rfl rfl]; decide⟩
    have HMp : Kp (mpF F ((at' / 16 : Nat) : Int) = some (.pointer (some ⟨x.p, 0, none⟩))) := ⟨by rw [mpF_at, HFx.out]; rfl⟩
    clear HT5 HK5 HM5
    go_wp2_with fail
    refine wp_region_any (by kernel_rfl) ?_
    change wpAny _ _ _ _ _ _ _ w5.drew
    replace hB9 := hB9.drew
    generalize w5.drew = wS at *
    refine wT 0 65 ?_ rfl ?_
    try simp only [Act.put, sA, sB, sC]
    refine wT 1 66 ?_ rfl ?_
    try simp only [Act.put, sA, sB, sC]
    refine wT 2 67 ?_ rfl ?_
    try simp only [Act.put, sA, sB, sC]
    refine wT 4 69 ?_ rfl ?_
    try simp only [Act.put, sA, sB, sC]
    refine wT 5 70 ?_ rfl ?_
    try simp only [Act.put, sA, sB, sC]
    repeat' (first
     | ((with_reducible change ite (Region.wanted ⟨some 68, _, _, _, _, _⟩ _ = true) _ _); refine step_load rwSto rfl (.tmp 67) rfl rfl (HBb.out _ hB9) HF8.out (mm_store HKy.out.1) ?_; refine hK _ _ ?_; clear hK K; (try simp only [Act.put, sA, sB, sC]))
     | ((with_reducible change ite (Region.wanted ⟨some 71, _, _, _, _, _⟩ _ = true) _ _); go_simp; refine (mpart_there (HBb.out wS hB9) HKy.out.1 rfl rfl (HWb.out wS hB9).map at' x.p hat HMp.out).mono ?_; rintro e wZ ⟨rfl, rfl⟩; refine hK _ _ ?_; clear hK K; (try simp only [Act.put, sA, sB, sC]); obtain ⟨wS, rfl⟩ : ∃ x, x = wZ := ⟨_, rfl⟩; refine wT 7 72 ?_ rfl ?_; (try simp only [Act.put, sA, sB, sC]); refine wT 8 73 ?_ rfl ?_; (try simp only [Act.put, sA, sB, sC]))
     | ((with_reducible change ite (Region.wanted ⟨some 74, _, _, _, _, _⟩ _ = true) _ _); go_simp; have hb' : Below wS.heap.size wS (wS.alloc (.cells #[.pointer (some ⟨x.p, 32, none⟩)] 171)) := (Below.refl _ _).alloc (Nat.le_refl _) _; have HGp : Kp (Blk (wS.alloc (.cells #[.pointer (some ⟨x.p, 32, none⟩)] 171)) wS.heap.size 171 [.pointer (some ⟨x.p, 32, none⟩)]) := ⟨Blk.new wS _ _⟩; have HGz : Kp (w5.heap.size ≤ wS.heap.size) := ⟨hB9.size⟩; obtain ⟨gp, hgp⟩ : ∃ g, g = wS.heap.size := ⟨_, rfl⟩; rw [← hgp] at HGp HGz ⊢; replace hB9 := hB9.trans (hb'.mono hB9.size); clear hb' hgp; refine hK _ _ ?_; clear hK K; (try simp only [Act.put, sA, sB, sC]); generalize wS.alloc (.cells #[.pointer (some ⟨x.p, 32, none⟩)] 171) = wZ at *; obtain ⟨wS, rfl⟩ : ∃ x, x = wZ := ⟨_, rfl⟩)
     | ((with_reducible change ite (Region.wanted ⟨some 75, _, _, _, _, _⟩ _ = true) _ _); go_simp; refine (folder_any (s := s) (some ⟨gp, 0, none⟩) 1 1 wS).mono ?_; rintro e wZ ⟨g1, g2, rfl, hg1, hg2, hk1, hk2, hb'⟩; have HG1 : Kp _ := ⟨hk1⟩; have HG2 : Kp _ := ⟨hk2⟩; replace HGp : Kp _ := ⟨HGp.out.below hb' HGp.out.lt⟩; replace hB9 := hB9.trans (hb'.mono hB9.size); clear hk1 hk2 hg1 hg2 hb'; refine hK _ _ ?_; clear hK K; (try simp only [Act.put, sA, sB, sC]); obtain ⟨wS, rfl⟩ : ∃ x, x = wZ := ⟨_, rfl⟩; refine wT 11 10 ?_ rfl ?_; (try simp only [Act.put, sA, sB, sC]))
     | (refine rD [3, 6] ?_; refine aS 68 71 rfl rfl (fun K hK => ?_) fun K hK => ?_)
     | (refine rD [3, 9] ?_; refine aS 68 74 rfl rfl (fun K hK => ?_) fun K hK => ?_)
     | (refine rD [3] ?_; refine aR 68 rfl fun K hK => ?_)
     | (refine rD [6] ?_; refine aR 71 rfl fun K hK => ?_)
     | (refine rD [9] ?_; refine aR 74 rfl fun K hK => ?_)
     | (refine rD [10] ?_; refine aR 75 rfl fun K hK => ?_)
     | (refine wpAny_done (by decide +kernel) ?_ _; have HBd : Kp _ := ⟨hB9⟩; clear hB9; go_wp2_with fail; go_meet; case rel => exact ⟨g1, g2, gp, rfl, HG1, HG2, ⟨HGp.out.cell? 0⟩, ⟨HGz.out, HGp.out.lt⟩, HBd⟩)
     | fail)
   case rest =>
    obtain ⟨g1, g2, gp, rfl, HG1, HG2, HGp, HGs, HBd⟩ := hcut
    have HT8 : Kp _ := ⟨HT5.out.grow HBd.out⟩
    have HK8 : Kp (Keep Ox w wc) := ⟨HK5.out.trans ((HT5.out.st.keepBelow HBd.out).less fun j hj => (HT5.out.oth j hj).1)⟩
    have HPt : Kp _ := ⟨HT8.out.pts _ _ HFx.out⟩
    have HXg : Kp (x.p ≠ gp) := ⟨by have h1 := HGs.out.1; have h2 := (HT5.out.st.lt HPt.out.1).2; omega⟩
    clear HT5 HK5 HM5
    go_wp2_with fail
    have hp9 : ∀ j (hj : j < [(⟨x.p, 32, 184, cells8 x.rd ++ cells8 x.wr, x.wr⟩ : Tg)].length), wc.cell? ⟨gp, j, none⟩ = some (.pointer (some ⟨[(⟨x.p, 32, 184, cells8 x.rd ++ cells8 x.wr, x.wr⟩ : Tg)][j].g, [(⟨x.p, 32, 184, cells8 x.rd ++ cells8 x.wr, x.wr⟩ : Tg)][j].o, none⟩)) := fun j hj => by
     match j, hj with
     | 0, _ => exact HGp.out
    have ht9 : Tgs wc [(⟨x.p, 32, 184, cells8 x.rd ++ cells8 x.wr, x.wr⟩ : Tg)] (ofL ks (at' : Int) b) 0 := ⟨fun j hj => by
     match j, hj with
     | 0, _ => exact HPt.out.2.2.2.1⟩
    refine (fold_any HT8.out.st HKy.out.1 ks HT8.out.sum B 272 d b (by simp) (by omega) (at' : Int) g1 g2 gp 1 1 [⟨x.p, 32, 184, cells8 x.rd ++ cells8 x.wr, x.wr⟩] rfl HG1.out HG2.out hp9 HGs.out.2 ht9 (fun y hy => by
     obtain rfl := List.mem_singleton.1 hy
     exact ⟨tg_pt_ok _ _ _ _ HPt.out.2.2.2.2.1 HPt.out.2.2.2.2.2, HPt.out.1, HXg.out⟩) (by simp) (by omega)).mono ?_
    rintro y w9 ⟨rfl, h9, t9, k9⟩
    have hq9 := t9.at_ 0 (by simp)
    have hq8 : Blk w9 x.p 184 (cells8 x.rd ++ cells8 wr9) := by
     rw [HWr9.out, ← tg_pt x.p 184 x.rd x.wr _ HPt.out.2.2.2.2.1 HPt.out.2.2.2.2.2]
     exact hq9
    have HE9 : Kp _ := ⟨HT8.out.fold (rd := x.rd) (wr := wr9) HFx.out h9 (k9.less fun j hj => ⟨hj.1, fun y hy => by obtain rfl := List.mem_singleton.1 hy; exact fun e => hj.2 e.symm⟩) hq8 HPt.out.2.2.2.2.1 (by rw [HWr9.out]; exact addL_length _ _)⟩
    clear hq8 hq9 h9 t9 k9 hp9 ht9
    go_wp2
    go_ret
    have e9 := HRn.out.1 HE.out
    rw [e9]
    exact ⟨rfl, _, fun y hy => by simp [hy], HE9.out.1, HK8.out.trans HE9.out.2⟩
  ·have HE : Kp _ := ⟨he⟩
   have hne : ((s2 : Int) != (sl : Int)) = true := by simp; omega
   clear he
   go_upto_region 7 with fail
   go_wp2_with (with_reducible refine wpList_loadv (o := ⟨some 60, _, _, _, _, _⟩) (vs := rcL rn.num rn.blk A2 n2 c2 D2 m2 e2) rwSeal rfl (.tmp 59) rfl rfl HM5.out HF1.out.2.1 (mm_nowv HKy.out.1 rfl rfl) ?_)
   have H45 : Kp _ := ⟨H4.out.mono (hs' := (B, 272, d, b) :: hs) (fun _ h => List.mem_cons_of_mem _ h)⟩
   have hfl := flip_any rn A2 n2 c2 D2 m2 e2 (at' : Int) w5 (H45.out.rs HT5.out.st) (by omega) (H45.out.n_le HT5.out.st) H45.out.sm
   rw [← HRF.out] at hfl
   refine hfl.mono ?_
   rintro x2 w6 ⟨A', c', D', e', rfl, hR6, hb6⟩
   have hsm := H45.out.sm
   have HT6 : Kp _ := ⟨HT5.out.keep (HT5.out.st.growHold2 hb6 ⟨hR6.sl, hR6.fa⟩ (H45.out.n_le HT5.out.st) ⟨Ds.flat hR6.su hsm, hR6.fd⟩ (by omega)) (HT5.out.st.keepBelow hb6) (fun _ h => List.mem_cons_of_mem _ (List.mem_cons_of_mem _ h))⟩
   have HK6 : Kp (Keep Ox w w6) := ⟨HK5.out.trans ((HT5.out.st.keepBelow hb6).less fun j hj => (HT5.out.oth j hj).1)⟩
   have HL6 : Kp (Hld ((D', 32 * m2, (if D' = none then 0 else 32 * m2), rF.su.flatten) :: (A', n2, c', rF.sl) :: (B, 272, d, b) :: hs) A' n2 c' D' m2 e' rF) := ⟨Hld.of_rs hR6.toRs (by simp) (by simp) hsm⟩
   have HM6 : Kp _ := ⟨HM5.out.below hb6 HM5.out.lt⟩
   clear hsm hfl hR6 hb6 HT5 HM5 HK5
   go_wp2_with (with_reducible refine wpList_store (o := ⟨none, _, _, _, _, _⟩) (vs := rcL rF.num rF.blk A' n2 c' D' m2 e') rwSeal rfl (.tmp 64) (.tmp 62) rfl rfl rfl HM6.out rfl HF1.out.2.1 (rcL_one _ _ _ _ _ _ _ _) ?_)
   intro w7 hk7 ho7
   have hk8 : Blk w7 g 124 (mmL s (rcL rc.num rc.blk A n c D m e) (rcL rF.num rF.blk A' n2 c' D' m2 e') (q1 : Int) lim (some gm) po) := by
    rw [← mm_now (s := s) (cn := rcL rc.num rc.blk A n c D m e) (nw := rcL rn.num rn.blk A2 n2 c2 D2 m2 e2) HKy.out.1 rfl rfl (rcL rF.num rF.blk A' n2 c' D' m2 e')]
    rw [List.append_assoc]
    exact hk7
   have hT7 := HT6.out.turn ho7 hk8 (H3.out.mono (fun _ h => List.mem_cons_of_mem _ (List.mem_cons_of_mem _ (List.mem_cons_of_mem _ h)))) HL6.out
   have HT7 : Kp _ := ⟨hT7.1⟩
   have HK7 : Kp (Keep Ox w w7) := ⟨HK6.out.trans hT7.2⟩
   have HM7 : Kp _ := ⟨hk8⟩
   clear hT7 hk7 hk8 ho7 HT6 HK6 HM6 H45
   go_upto_region 8 with fail
   go_cut [10] from 65 to 75 (fun v10 wx => ∃ g1 g2 gp, v10 = .func (.func 142) #[] #[.pointer (some ⟨g1, 0, none⟩), .pointer (some ⟨g2, 0, none⟩)] ∧ Kp (Blk wx g1 119 (stL s)) ∧ Kp (Blk wx g2 231 [.slice (some ⟨gp, 0, none⟩) 1 1]) ∧ Kp (wx.cell? ⟨gp, 0, none⟩ = some (.pointer (some ⟨x.p, 32, none⟩))) ∧ Kp (w7.heap.size ≤ gp ∧ gp < wx.heap.size) ∧ Kp (Below w7.heap.size w7 wx))
   case first =>
    have hB9 : Below w7.heap.size w7 w7 := Below.refl _ _
    have HWb : Kp (∀ W, Below w7.heap.size w7 W → MemW w0 W (k + 1) (writeW t ((at' : Int), (sl : Int)) b) Om Ox ((D', 32 * m2, (if D' = none then 0 else 32 * m2), rF.su.flatten) :: (A', n2, c', rF.sl) :: (B, 272, d, b) :: hs) g gm nm s ks rc rF (q1 : Int) lim po F) := ⟨fun W hW => HT7.out.grow hW⟩
    have HBb : Kp (∀ W, Below w7.heap.size w7 W → Blk W g 124 (mmL s (rcL rc.num rc.blk A n c D m e) (rcL rF.num rF.blk A' n2 c' D' m2 e') (q1 : Int) lim (some gm) po)) := ⟨fun W hW => HM7.out.below hW HM7.out.lt⟩
    have HF8 : Kp (0 + 19 ≤ ((mmL s (rcL rc.num rc.blk A n c D m e) (rcL rF.num rF.blk A' n2 c' D' m2 e') (q1 : Int) lim (some gm) po)).length) := ⟨by rw [HFt.out _ _ _ rfl rfl]; decide⟩
    have HMp : Kp (mpF F ((at' / 16 : Nat) : Int) = some (.pointer (some ⟨x.p, 0, none⟩))) := ⟨by rw [mpF_at, HFx.out]; rfl⟩
    clear HT7 HK7 HM7
    go_wp2_with fail
    refine wp_region_any (by kernel_rfl) ?_
    change wpAny _ _ _ _ _ _ _ w7.drew
    replace hB9 := hB9.drew
    generalize w7.drew = wS at *
    refine wT 0 65 ?_ rfl ?_
    try simp only [Act.put, sA, sB, sC]
    refine wT 1 66 ?_ rfl ?_
    try simp only [Act.put, sA, sB, sC]
    refine wT 2 67 ?_ rfl ?_
    try simp only [Act.put, sA, sB, sC]
    refine wT 4 69 ?_ rfl ?_
    try simp only [Act.put, sA, sB, sC]
    refine wT 5 70 ?_ rfl ?_
    try simp only [Act.put, sA, sB, sC]
    repeat' (first
     | ((with_reducible change ite (Region.wanted ⟨some 68, _, _, _, _, _⟩ _ = true) _ _); refine step_load rwSto rfl (.tmp 67) rfl rfl (HBb.out _ hB9) HF8.out (mm_store HKy.out.1) ?_; refine hK _ _ ?_; clear hK K; (try simp only [Act.put, sA, sB, sC]))
     | ((with_reducible change ite (Region.wanted ⟨some 71, _, _, _, _, _⟩ _ = true) _ _); go_simp; refine (mpart_there (HBb.out wS hB9) HKy.out.1 rfl rfl (HWb.out wS hB9).map at' x.p hat HMp.out).mono ?_; rintro e wZ ⟨rfl, rfl⟩; refine hK _ _ ?_; clear hK K; (try simp only [Act.put, sA, sB, sC]); obtain ⟨wS, rfl⟩ : ∃ x, x = wZ := ⟨_, rfl⟩; refine wT 7 72 ?_ rfl ?_; (try simp only [Act.put, sA, sB, sC]); refine wT 8 73 ?_ rfl ?_; (try simp only [Act.put, sA, sB, sC]))
     | ((with_reducible change ite (Region.wanted ⟨some 74, _, _, _, _, _⟩ _ = true) _ _); go_simp; have hb' : Below wS.heap.size wS (wS.alloc (.cells #[.pointer (some ⟨x.p, 32, none⟩)] 171)) := (Below.refl _ _).alloc (Nat.le_refl _) _; have HGp : Kp (Blk (wS.alloc (.cells #[.pointer (some ⟨x.p, 32, none⟩)] 171)) wS.heap.size 171 [.pointer (some ⟨x.p, 32, none⟩)]) := ⟨Blk.new wS _ _⟩; have HGz : Kp (w7.heap.size ≤ wS.heap.size) := ⟨hB9.size⟩; obtain ⟨gp, hgp⟩ : ∃ g, g = wS.heap.size := ⟨_, rfl⟩; rw [← hgp] at HGp HGz ⊢; replace hB9 := hB9.trans (hb'.mono hB9.size); clear hb' hgp; refine hK _ _ ?_; clear hK K; (try simp only [Act.put, sA, sB, sC]); generalize wS.alloc (.cells #[.pointer (some ⟨x.p, 32, none⟩)] 171) = wZ at *; obtain ⟨wS, rfl⟩ : ∃ x, x = wZ := ⟨_, rfl⟩)
     | ((with_reducible change ite (Region.wanted ⟨some 75, _, _, _, _, _⟩ _ = true) _ _); go_simp; refine (folder_any (s := s) (some ⟨gp, 0, none⟩) 1 1 wS).mono ?_; rintro e wZ ⟨g1, g2, rfl, hg1, hg2, hk1, hk2, hb'⟩; have HG1 : Kp _ := ⟨hk1⟩; have HG2 : Kp _ := ⟨hk2⟩; replace HGp : Kp _ := ⟨HGp.out.below hb' HGp.out.lt⟩; replace hB9 := hB9.trans (hb'.mono hB9.size); clear hk1 hk2 hg1 hg2 hb'; refine hK _ _ ?_; clear hK K; (try simp only [Act.put, sA, sB, sC]); obtain ⟨wS, rfl⟩ : ∃ x, x = wZ := ⟨_, rfl⟩; refine wT 11 10 ?_ rfl ?_; (try simp only [Act.put, sA, sB, sC]))
     | (refine rD [3, 6] ?_; refine aS 68 71 rfl rfl (fun K hK => ?_) fun K hK => ?_)
     | (refine rD [3, 9] ?_; refine aS 68 74 rfl rfl (fun K hK => ?_) fun K hK => ?_)
     | (refine rD [3] ?_; refine aR 68 rfl fun K hK => ?_)
     | (refine rD [6] ?_; refine aR 71 rfl fun K hK => ?_)
     | (refine rD [9] ?_; refine aR 74 rfl fun K hK => ?_)
     | (refine rD [10] ?_; refine aR 75 rfl fun K hK => ?_)
     | (refine wpAny_done (by decide +kernel) ?_ _; have HBd : Kp _ := ⟨hB9⟩; clear hB9; go_wp2_with fail; go_meet; case rel => exact ⟨g1, g2, gp, rfl, HG1, HG2, ⟨HGp.out.cell? 0⟩, ⟨HGz.out, HGp.out.lt⟩, HBd⟩)
     | fail)
   case rest =>
    obtain ⟨g1, g2, gp, rfl, HG1, HG2, HGp, HGs, HBd⟩ := hcut
    have HT8 : Kp _ := ⟨HT7.out.grow HBd.out⟩
    have HK8 : Kp (Keep Ox w wc) := ⟨HK7.out.trans ((HT7.out.st.keepBelow HBd.out).less fun j hj => (HT7.out.oth j hj).1)⟩
    have HPt : Kp _ := ⟨HT8.out.pts _ _ HFx.out⟩
    have HXg : Kp (x.p ≠ gp) := ⟨by have h1 := HGs.out.1; have h2 := (HT7.out.st.lt HPt.out.1).2; omega⟩
    clear HT7 HK7 HM7
    go_wp2_with fail
    have hp9 : ∀ j (hj : j < [(⟨x.p, 32, 184, cells8 x.rd ++ cells8 x.wr, x.wr⟩ : Tg)].length), wc.cell? ⟨gp, j, none⟩ = some (.pointer (some ⟨[(⟨x.p, 32, 184, cells8 x.rd ++ cells8 x.wr, x.wr⟩ : Tg)][j].g, [(⟨x.p, 32, 184, cells8 x.rd ++ cells8 x.wr, x.wr⟩ : Tg)][j].o, none⟩)) := fun j hj => by
     match j, hj with
     | 0, _ => exact HGp.out
    have ht9 : Tgs wc [(⟨x.p, 32, 184, cells8 x.rd ++ cells8 x.wr, x.wr⟩ : Tg)] (ofL ks (at' : Int) b) 0 := ⟨fun j hj => by
     match j, hj with
     | 0, _ => exact HPt.out.2.2.2.1⟩
    refine (fold_any HT8.out.st HKy.out.1 ks HT8.out.sum B 272 d b (by simp) (by omega) (at' : Int) g1 g2 gp 1 1 [⟨x.p, 32, 184, cells8 x.rd ++ cells8 x.wr, x.wr⟩] rfl HG1.out HG2.out hp9 HGs.out.2 ht9 (fun y hy => by
     obtain rfl := List.mem_singleton.1 hy
     exact ⟨tg_pt_ok _ _ _ _ HPt.out.2.2.2.2.1 HPt.out.2.2.2.2.2, HPt.out.1, HXg.out⟩) (by simp) (by omega)).mono ?_
    rintro y w9 ⟨rfl, h9, t9, k9⟩
    have hq9 := t9.at_ 0 (by simp)
    have hq8 : Blk w9 x.p 184 (cells8 x.rd ++ cells8 wr9) := by
     rw [HWr9.out, ← tg_pt x.p 184 x.rd x.wr _ HPt.out.2.2.2.2.1 HPt.out.2.2.2.2.2]
     exact hq9
    have HE9 : Kp _ := ⟨HT8.out.fold (rd := x.rd) (wr := wr9) HFx.out h9 (k9.less fun j hj => ⟨hj.1, fun y hy => by obtain rfl := List.mem_singleton.1 hy; exact fun e => hj.2 e.symm⟩) hq8 HPt.out.2.2.2.2.1 (by rw [HWr9.out]; exact addL_length _ _)⟩
    clear hq8 hq9 h9 t9 k9 hp9 ht9
    go_wp2
    go_ret
    have e9 := HRn.out.2 HE.out
    rw [e9]
    exact ⟨rfl, _, fun y hy => by simp [hy], HE9.out.1, HK8.out.trans HE9.out.2⟩
end
end Go.Proofs.YtcehkafddlfleaaGreatDoor

namespace Go.Proofs.YtcehkafddlfleaaGreatDoor
open Go.RowKit
section
variable {w0 w w' : World} {k k' b p : Nat} {t t' : Wd} {Om Ox Ox' : Nat → Prop} {hs hs' : List Held} {g gm nm : Nat} {s : Sto} {ks : List UInt8} {rc rn : Rc} {q lim : Int} {po : Bool} {F : Nat → Option Pt}
theorem MemW.guest (h : MemW w0 w k t Om Ox hs g gm nm s ks rc rn q lim po F) (hb : Below w.heap.size w w') (hp : w.heap.size ≤ p ∧ p < w'.heap.size) : MemW w0 w' k t (fun j => Om j ∨ j = p) (fun j => Ox j ∨ j = p) hs g gm nm s ks rc rn q lim po F := by
 have h1 := h.grow hb
 have hne : ∀ j, Om j → j ≠ p := fun j hj e => by have := (h.st.lt hj).2; omega
 exact ⟨h.st.growOwn hb hp, ⟨.inl h.mine.1, .inl h.mine.2.1, h.mine.2.2⟩, fun j hj => hj.elim (fun h9 => ⟨.inl (h.oth j h9).1, (h.oth j h9).2⟩) (fun e => by
  subst e
  exact ⟨.inr rfl, fun e => hne g h.mine.1 e.symm, fun e => hne gm h.mine.2.1 e.symm, fun i x hx => hne x.p (h.pts i x hx).1⟩), h.key, h.sum, h1.mem, h1.map, fun i x hx => by
  obtain ⟨a1, a2⟩ := h1.pts i x hx
  exact ⟨.inl a1, a2⟩, h.inj, h.small⟩
theorem MemW.lessO (h : MemW w0 w k t Om Ox hs g gm nm s ks rc rn q lim po F) (hO : ∀ j, Ox' j → Ox j) : MemW w0 w k t Om Ox' hs g gm nm s ks rc rn q lim po F :=
 ⟨h.st, h.mine, fun j hj => h.oth j (hO j hj), h.key, h.sum, h.mem, h.map, h.pts, h.inj, h.small⟩
theorem MemW.other (h : MemW w0 w k t Om Ox hs g gm nm s ks rc rn q lim po F) (ho : Only p w w') (hp : Ox p) : MemW w0 w' k t Om Ox hs g gm nm s ks rc rn q lim po F := by
 obtain ⟨a1, a2, a3, a4⟩ := h.oth p hp
 obtain ⟨A, n, c, D, m, e, A2, n2, c2, D2, m2, e2, hb, h3, h4⟩ := h.mem
 exact ⟨h.st.only ho a1, h.mine, h.oth, h.key, h.sum, ⟨A, n, c, D, m, e, A2, n2, c2, D2, m2, e2, hb.only ho a2.symm, h3, h4⟩, h.map.stay (ho.block _ a3.symm), fun i x hx => by
  obtain ⟨b1, b2, b3, b4, b5⟩ := h.pts i x hx
  exact ⟨b1, b2, b3, b4.only ho (a4 i x hx), b5⟩, h.inj, h.small⟩
theorem MemW.held (h : MemW w0 w k t Om Ox hs g gm nm s ks rc rn q lim po F) {A : Option Addr} {n c : Nat} {l : List UInt8} (hm : (A, n, c, l) ∈ hs) : Bs w w.heap.size A n c l := (h.st.held hm).1
structure PartA (F : Nat → Option Pt) (i : Nat) (su : List (List UInt8)) (x : Pt) : Prop where
 there : ∀ y, F i = some y → x = y
 new : F i = none → x.rd = z32 ∧ x.wr = su.getD i []
theorem mpart_any (h : MemW w0 w k t Om Ox hs g gm nm s ks rc rn q lim po F) (at' : Nat) (hat : at' ≤ 1000000) (hi : at' / 16 < rc.su.length) (hnm : nm + 1 ≤ 100000) :
  Calls Tryz.prog 97 #[.pointer (some ⟨g, 0, none⟩), .int .i64 (at' : Int)] w fun v w' => ∃ x Om' nm', v = .returned (.pointer (some ⟨x.p, 0, none⟩)) ∧ PartA F (at' / 16) rc.su x ∧ MemW w0 w' k t Om' Ox hs g gm nm' s ks rc rn q lim po (fun j => if j = at' / 16 then some x else F j) ∧ Keep Ox w w' ∧ nm' ≤ nm + 1 ∧ ∀ j, Om j → Om' j := by
 obtain ⟨A, n, c, D, m, e, A2, n2, c2, D2, m2, e2, hb, h3, h4⟩ := h.mem
 cases hF : F (at' / 16) with
 | some y =>
  refine (mpart_there hb h.key rfl rfl h.map at' y.p hat (by rw [mpF_at, hF]; rfl)).mono ?_
  rintro v w' ⟨rfl, rfl⟩
  have e9 : (fun j => if j = at' / 16 then some y else F j) = F := by
   funext j
   by_cases e : j = at' / 16
   ·rw [if_pos e, e, hF]
   ·rw [if_neg e]
  refine ⟨y, Om, nm, rfl, ⟨fun z hz => (Option.some.inj (hF.symm.trans hz)), fun h0 => by rw [hF] at h0; cases h0⟩, ?_, Keep.refl _ _, by omega, fun _ h => h⟩
  rw [e9]
  exact h
 | none =>
  have hsm := h.small
  have hR := h3.rs h.st
  refine (mpart_new rc.num rc.blk A n c D m e hb h.key rfl h.map at' (at' / 16) (by omega) rfl (by rw [mpF_at, hF]; rfl) rc.su hR.su hi (rc.su[at' / 16]) rfl (by omega)).mono ?_
  rintro v w' ⟨p, rfl, hP⟩
  have hm := h.made hF hP (h3.wide _ (List.getElem_mem hi)) hnm
  exact ⟨⟨p, z32, rc.su[at' / 16]⟩, _, _, rfl, ⟨fun z hz => (by rw [hF] at hz; cases hz), fun _ => ⟨rfl, by rw [List.getD_eq_getElem?_getD, List.getElem?_eq_getElem hi]; rfl⟩⟩, hm.1, hm.2, Nat.le_refl _, fun _ h => .inl h⟩
theorem access_deferred (u : FrameMode) (w : World) (g1 g6 g7 g : Nat) (hk1 : Blk w g1 30 [.pointer (some ⟨g, 0, none⟩)]) (hk7 : Blk w g7 117 [.nilIface]) :
  CallsD Tryz.prog 91 #[.pointer (some ⟨g1, 0, none⟩), .pointer (some ⟨g7, 0, none⟩), .pointer (some ⟨g6, 0, none⟩)] u w fun e u' w' => u' = u ∧ (e = .returned (.tuple #[]) ∧ Below w.heap.size w w') := by
 have c1 : w.cell? ⟨g1, 0, none⟩ = some (.pointer (some ⟨g, 0, none⟩)) := hk1.cell? 0
 have c7 : w.cell? ⟨g7, 0, none⟩ = some .nilIface := hk7.cell? 0
 have H7 : Kp _ := ⟨hk7⟩
 clear hk1 hk7
 go_enter_d Tryz.func91, Tryz.ntmps91
 go_wp2_with fail
 refine (msettle_ok w g).mono ?_
 rintro e w2 ⟨rfl, hb2⟩
 have c7' : w2.cell? ⟨g7, 0, none⟩ = some .nilIface := (H7.out.below hb2 H7.out.lt).cell? 0
 have HB : Kp _ := ⟨hb2⟩
 clear hb2 c1 c7 H7
 go_wp2
 go_end0
 exact ⟨rfl, HB.out⟩
end
end Go.Proofs.YtcehkafddlfleaaGreatDoor

namespace Go.Proofs.YtcehkafddlfleaaGreatDoor
open Go.RowKit Go.Maps Go.Sort Go.Shelf
theorem sorts_in (m : Nat) : AnyZI.SortsIn Tryz.prog sortedA_ren Fence.wide m :=
 ⟨fun blk off cap ss W hH hblk hsz => callsIn_wide.2 (AnyM.slices_Sort_int sortA blk off cap ss W hH hblk hsz),
  fun p cap W => callsIn_wide.2 (AnyM.slices_Sort_int_none sortA p cap W)⟩
def presL (F : Nat → Option Pt) (B : Nat) : List Nat := (List.range B).filter (fun i => (F i).isSome)
theorem presL_mem {F : Nat → Option Pt} {B i : Nat} : i ∈ presL F B ↔ i < B ∧ (F i).isSome = true := by simp [presL]
theorem pres_perm {w : World} {gm nm : Nat} {F : Nat → Option Pt} {B : Nat} {D : DataW Value} (hown : w.ownsMap Tryz.prog 3 Rv gm nm D) (hh : ∀ x, okI x → ∀ kl, keyOf Tryz.prog 3 (kvI x) = some kl → Maps.has D kl = (mpF F x).isSome) (hB : B ≤ 1000000) (hF : ∀ i, (F i).isSome = true → i < B) :
  ((presL F B).map (fun i : Nat => (i : Int))).Perm (intKeys D) := by
 obtain ⟨es, hD, hpw, _⟩ := hown.entries keyI.K
 obtain ⟨es', hD', hko⟩ := hown.keysOf
 obtain rfl : es = es' := by rw [hD] at hD'; simpa using hD'
 subst hD
 have hmem : ∀ x, Maps.has (.map es) (.int .i64 x) = true → okI x := fun x hx => by
  rw [has_eq, List.any_eq_true] at hx
  obtain ⟨p, hp, hs⟩ := hx
  obtain ⟨v, hv⟩ := hko p hp
  obtain ⟨y, _, hy, hl⟩ := Maps.keyOf_i64 Tryz.underlying3 hv
  rw [hy] at hs
  have e : y = x := by simpa [Lit.sameKey] using hs
  rw [← e]; exact hl
 refine perm_intKeys hpw (fun p hp => by obtain ⟨v, hv⟩ := hko p hp; obtain ⟨x, _, hx, _⟩ := Maps.keyOf_i64 Tryz.underlying3 hv; exact ⟨x, hx⟩) ?_ (fun x => ?_)
 ·refine List.pairwise_map.2 (List.Pairwise.imp (fun {a b} h e => h (by omega)) (List.Pairwise.filter _ List.nodup_range))
 ·constructor
  ·intro hx
   obtain ⟨i, hi, rfl⟩ := List.mem_map.1 hx
   obtain ⟨h1, h2⟩ := presL_mem.1 hi
   have hok : okI (i : Int) := WalkArith.wf_i64 (by omega)
   rw [hh _ hok _ (Maps.keyOf_int_mk Tryz.underlying3 hok), mpF_at]
   simpa using h2
  ·intro hx
   have hok := hmem x hx
   rw [hh _ hok _ (Maps.keyOf_int_mk Tryz.underlying3 hok)] at hx
   unfold mpF at hx
   by_cases h0 : 0 ≤ x
   ·rw [if_pos h0] at hx
    have h2 : (F x.toNat).isSome = true := by simpa using hx
    exact List.mem_map.2 ⟨x.toNat, presL_mem.2 ⟨hF _ h2, h2⟩, by omega⟩
   ·rw [if_neg h0] at hx; simp at hx
theorem presL_sorted (F : Nat → Option Pt) (B : Nat) : ((presL F B).map (fun i : Nat => (i : Int))).mergeSort leI = (presL F B).map (fun i : Nat => (i : Int)) := by
 refine List.mergeSort_of_pairwise (List.pairwise_map.2 ?_)
 refine (List.Pairwise.filter _ List.pairwise_lt_range).imp (fun {a b} h => ?_)
 simp only [leI, decide_eq_true_eq]
 omega
theorem pkeys_any (mb : Option Nat) (w : World) : Calls Tryz.prog 155 #[.map mb] w fun e w' => e = .returned (.func (.func 210) #[] #[.pointer (some ⟨w.heap.size, 0, none⟩)]) ∧ w' = w.alloc (.cells #[.map mb] 122) :=
 (callsIn_wide (n := 5)).1 (AnyZI.keys_in keysA Fence.wide 5 trivial rfl mb w)
theorem psorted_any (w : World) {gm nm : Nat} {F : Nat → Option Pt} (hI : MapI w Tryz.prog 3 kvI okI gm nm (mpF F)) (hn : nm ≤ 1000000) (B : Nat) (hB : B ≤ 1000000) (hF : ∀ i, (F i).isSome = true → i < B) (g : Nat) (hg : w.cell? ⟨g, 0, none⟩ = some (.map (some gm))) (hgl : g < w.heap.size) :
  Calls Tryz.prog 78 #[.func (.func 210) #[] #[.pointer (some ⟨g, 0, none⟩)]] w fun e w' => ∃ v, e = .returned v ∧
   w'.ownsRow w.heap.size 3 1 v (presL F B).length ((presL F B).map (fun i : Nat => encZ (i : Int))) ∧ Below w.heap.size w w' := by
 refine (callsIn_wide (n := 6)).1 ?_
 obtain ⟨D, hown, hsz, hh⟩ := hI.is
 have hseq : SeqGives Fence.wide 3 Tryz.prog 210 #[.pointer (some ⟨g, 0, none⟩)] encZ (fun ss => ss.Perm (intKeys D)) (Maps.size D) w :=
  AnyZI.keys_gives (ρ := keysA_ren) { keysA with } Fence.wide _ trivial rfl (by omega) g gm nm D w hgl hg hown
 have cS := AnyZI.sorted_in sortedA Fence.wide 6 trivial trivial trivial trivial rfl (by omega) (sorts_in _) (enters_of Tryz.func131 (by kernel_rfl) rfl) 210 #[.pointer (some ⟨g, 0, none⟩)] trivial (enters_of Tryz.func210 (by kernel_rfl) rfl) _ _ (by simp only [maxLen]; omega) (by omega) _ hseq
 refine cS.mono ?_
 rintro e w' ⟨v, ss, rfl, hS, hrow, _, hb⟩
 have hp := hS.trans (pres_perm hown (fun x hx kl hk => (hh x hx kl hk).1) hB hF).symm
 have e1 : ss.mergeSort (fun x y => decide (x ≤ y)) = (presL F B).map (fun i : Nat => (i : Int)) := (mergeSort_of_perm_i hp).trans (presL_sorted F B)
 have e2 : ss.length = (presL F B).length := by rw [hp.length_eq, List.length_map]
 rw [e1, e2, List.map_map] at hrow
 exact ⟨v, rfl, hrow, hb⟩
end Go.Proofs.YtcehkafddlfleaaGreatDoor
