/- 
   
   
   
   
   
    -/
import Derived.Test.YtcehkafddlfleaaGreatDoorG42
import Derived.Test.YtcehkafddlfleaaGreatDoorG02
import Derived.Test.YtcehkafddlfleaaGreatDoorG18
import Derived.Test.YtcehkafddlfleaaGreatDoorG34
namespace Go.Proofs.YtcehkafddlfleaaGreatDoor
open Go.RowKit
theorem mnumber_ok (w : World) : Calls Tryz.prog 48 #[.nilIface] w fun e w' => e = .returned (.int .i64 0) ∧ Below w.heap.size w w' := by
 go_enter Tryz.func48, Tryz.ntmps48
 go_wp2_with (go_at_call 80; refine (as_nil _ _).mono ?_; rintro e w' ⟨rfl, rfl⟩)
 go_ret
 exact ⟨rfl, (Below.refl _ _).alloc (Nat.le_refl _) _⟩
section
variable {w0 w : World} {k b : Nat} {t : Wd} {Om : Nat → Prop} {hs : List Held}
noncomputable def formW (m : List UInt8) (t : Wd) : Wd :=
 bumpW (sealedW (fmtW (hideK m) (t.ctr + 1) (bumpW t) t.n) (((t.ctr + 1 + 1) % 2 : Nat) : Int) (encL (sealK m) ⟨t.ctr + 1 + 1, t.n, List.replicate ((t.n + 7) / 8) 0, sumF (hideK m) (sumK m) (t.ctr + 1) ((t.n + 15) / 16) t.n⟩))
theorem hideK_length (m : List UInt8) : (hideK m).length = 16 := by unfold hideK; rw [deriveL_length _ _ _ 1 (by decide)]; decide
set_option maxRecDepth 100000 in
set_option maxHeartbeats 2000000 in
theorem mformat_any (h : StM w0 w k b t Om hs) (hk : k + t.n + 3 ≤ 1000000) (A : Option Addr) (a c : Nat) (m : List UInt8) (ha : Bs w w.heap.size A a c m) (ha9 : a ≤ 524288) (hH : Hw t) (hsl : ∀ x, inR t.n x = true → (t.sl x).length = 272) (hn : t.n ≤ 4096) (hn0 : 0 < t.n) (hc : t.ctr + 2 < 18446744073709551615) :
  Calls Tryz.prog 15 #[.pointer (some ⟨b, 0, none⟩), .slice A a c] w fun x w' => x = .returned (.int .i64 0) ∧ Keep Om w w' ∧ StM w0 w' (k + t.n + 3) b (formW m t) Om hs := by
 have H : Kp _ := ⟨h⟩
 have HA : Kp _ := ⟨ha⟩
 have HH : Kp (Hw t ∧ (∀ x, inR t.n x = true → (t.sl x).length = 272) ∧ t.n ≤ 4096 ∧ t.ctr + 2 < 18446744073709551615 ∧ a ≤ 524288) := ⟨hH, hsl, hn, hc, ha9⟩
 have hz : ((t.n : Int) == 0) = false := by rw [beq_eq_false_iff_ne]; omega
 have hz2 : ¬ (t.n : Int) = 0 := by omega
 clear h ha hH hsl hc ha9
 go_enter Tryz.func15, Tryz.ntmps15
 go_wp2_with fail
 refine (sw_blocks H.out).mono ?_
 rintro x w1 ⟨rfl, rfl⟩
 go_wp2_with fail
 refine (storeOf_any b A a c m w1 HA.out HH.out.2.2.2.2).mono ?_
 rintro x w2 ⟨s, rfl, hsk, rfl, hS, hT, hb2⟩
 have H2 : Kp _ := ⟨H.out.growHold2 hb2 hS (by omega) hT (by omega)⟩
 have HKe2 : Kp _ := ⟨H.out.keepBelow hb2⟩
 have HSk : Kp _ := ⟨hsk⟩
 clear hS hT hb2 hsk hz hz2
 go_wp2_with fail
 refine (sformat_any H2.out hk (by rw [HSk.out]; exact hideK_length m) (sumK m) (sealK m) (by simp) (by simp) HH.out.1 HH.out.2.1 HH.out.2.2.1 HH.out.2.2.2.1 (t.ctr + 1) rfl).mono ?_
 rintro x w3 ⟨rfl, k3, h3⟩
 have H3 : Kp (StM w0 w3 (k + t.n + 3) s.b (formW m t) Om hs) := ⟨by
  have h9 := h3.forget (hs' := hs) (fun _ h => List.mem_cons_of_mem _ (List.mem_cons_of_mem _ h))
  rw [HSk.out] at h9
  exact h9⟩
 have HKe3 : Kp _ := ⟨HKe2.out.trans k3⟩
 clear k3 h3 H2 HKe2
 go_wp2_with fail
 refine (mnumber_ok w3).mono ?_
 rintro x w4 ⟨rfl, hb4⟩
 go_wp2
 go_ret
 exact ⟨rfl, HKe3.out.trans (H3.out.keepBelow hb4), H3.out.grow hb4⟩
end
end Go.Proofs.YtcehkafddlfleaaGreatDoor

namespace Go.Proofs.YtcehkafddlfleaaGreatDoor
open Go.RowKit
def mmL (s : Sto) (cn nw : List Value) (q lim : Int) (gm : Option Nat) (po : Bool) : List Value := stL s ++ (cn ++ (nw ++ [.int .i64 q, .int .i64 lim, .map gm, .bool po]))
theorem splice (a b v r : List Value) : (a ++ (b ++ r)).take a.length ++ v ++ (a ++ (b ++ r)).drop (a.length + b.length) = a ++ (v ++ r) := by
 rw [List.take_left', List.append_assoc, ← List.append_assoc a b r, List.drop_left' (by simp)]
 rfl
section
variable {s : Sto} {cn nw : List Value} {q lim : Int} {gm : Option Nat} {po : Bool}
theorem mmL_length (h : s.hk.length = 16) (h1 : cn.length = 4) (h2 : nw.length = 4) : (mmL s cn nw q lim gm po).length = 31 := by simp [mmL, stL_length s h, h1, h2]
theorem mm_cert (h : s.hk.length = 16) (h1 : cn.length = 4) (v : List Value) : (mmL s cn nw q lim gm po).take 19 ++ v ++ (mmL s cn nw q lim gm po).drop (19 + 4) = mmL s v nw q lim gm po := by
 have := splice (stL s) cn v (nw ++ [.int .i64 q, .int .i64 lim, .map gm, .bool po])
 rw [stL_length s h, h1] at this
 exact this
theorem mm_now (h : s.hk.length = 16) (h1 : cn.length = 4) (h2 : nw.length = 4) (v : List Value) : (mmL s cn nw q lim gm po).take 23 ++ v ++ (mmL s cn nw q lim gm po).drop (23 + 4) = mmL s cn v q lim gm po := by
 have := splice (stL s ++ cn) nw v [.int .i64 q, .int .i64 lim, .map gm, .bool po]
 rw [List.length_append, stL_length s h, h1, h2] at this
 simpa [mmL, List.append_assoc] using this
theorem mm_at (h : s.hk.length = 16) (h1 : cn.length = 4) (h2 : nw.length = 4) (j : Nat) : (mmL s cn nw q lim gm po)[27 + j]? = [Value.int .i64 q, .int .i64 lim, .map gm, .bool po][j]? := by
 unfold mmL
 rw [List.getElem?_append_right (by rw [stL_length s h]; omega), stL_length s h, List.getElem?_append_right (by omega), h1, List.getElem?_append_right (by omega), h2, show 27 + j - 19 - 4 - 4 = j by omega]
theorem mm_set (h : s.hk.length = 16) (h1 : cn.length = 4) (h2 : nw.length = 4) (j : Nat) (v : Value) : (mmL s cn nw q lim gm po).set (27 + j) v = stL s ++ (cn ++ (nw ++ [Value.int .i64 q, .int .i64 lim, .map gm, .bool po].set j v)) := by
 unfold mmL
 rw [List.set_append_right _ _ (by rw [stL_length s h]; omega), stL_length s h, List.set_append_right _ _ (by omega), h1, List.set_append_right _ _ (by omega), h2, show 27 + j - 19 - 4 - 4 = j by omega]
end
section
variable {w0 w : World} {k b : Nat} {t : Wd} {Om : Nat → Prop} {hs : List Held} {s : Sto}
set_option maxRecDepth 100000 in
set_option maxHeartbeats 4000000 in
theorem begin_any (h : StM w0 w k b t Om hs) (g : Nat) (hg : Om g) (hKy : s.hk.length = 16) (cn nw : List Value) (hcn : cn.length = 4) (hnw : nw.length = 4) (q lim : Int) (gm : Option Nat) (po : Bool) (hM : Blk w g 124 (mmL s cn nw q lim gm po)) (r : Rc) (A : Option Addr) (n c : Nat) (D : Option Addr) (m e : Nat) :
  Calls Tryz.prog 52 #[.pointer (some ⟨g, 0, none⟩), rcV r A n c D m e] w fun x w' => ∃ mp, x = .returned (.tuple #[]) ∧ w.heap.size ≤ mp ∧ StM w0 w' k b t (fun j => Om j ∨ j = mp) hs ∧ Blk w' g 124 (mmL s (rcL r.num r.blk A n c D m e) (rcL r.num r.blk A n c D m e) 0 lim (some mp) po) ∧ MapI w' Tryz.prog 3 kvI okI mp 0 (fun _ => none) ∧ Keep (fun j => Om j ∧ j ≠ g) w w' := by
 obtain ⟨num, blk, sl, su⟩ := r
 have H : Kp _ := ⟨h⟩
 have HO : Kp _ := ⟨hg⟩
 have HL : Kp (s.hk.length = 16 ∧ cn.length = 4 ∧ nw.length = 4) := ⟨hKy, hcn, hnw⟩
 have HM : Kp _ := ⟨hM⟩
 have HR : Kp _ := ⟨rcL_one num blk A n c D m e⟩
 clear h hg hM hKy hcn hnw
 go_enter Tryz.func52, Tryz.ntmps52
 go_wp2_with (with_reducible refine wpList_box (o := ⟨some 3, _, _, _, _, _⟩) (cs := rcL num blk A n c D m e) rfl (.tmp 1) rfl rfl ?_)
 intro w1 hk1 hb1 hs1
 have H1 : Kp _ := ⟨H.out.grow hb1⟩
 have HB3 : Kp _ := ⟨hk1⟩
 have HM1 : Kp _ := ⟨HM.out.below hb1 HM.out.lt⟩
 have HKe1 : Kp _ := ⟨H.out.keepBelow hb1⟩
 have HNe : Kp (w.heap.size ≠ g ∧ w.heap.size ≤ w1.heap.size) := ⟨by have := (H.out.lt HO.out).2; omega, hb1.size⟩
 obtain ⟨g3, hg3⟩ : ∃ x, x = w.heap.size := ⟨_, rfl⟩
 have HNe' : Kp (g3 ≠ g) := ⟨by rw [hg3]; exact HNe.out.1⟩
 rw [← hg3] at HB3 ⊢
 clear hk1 hb1 hs1 H HM hg3
 have hB9 : Below w1.heap.size w1 w1 := Below.refl _ _
 go_wp2_with fail
 refine wp_region_any (by kernel_rfl) ?_
 change wpAny _ _ _ _ _ _ _ w1.drew
 replace HB3 : Kp _ := ⟨HB3.out.drew⟩
 replace HM1 : Kp _ := ⟨HM1.out.drew⟩
 replace hB9 := hB9.drew
 generalize w1.drew = wS at *
 refine wT 0 4 ?_ rfl ?_
 try simp only [Act.put, sA, sB, sC]
 refine wT 1 5 ?_ rfl ?_
 try simp only [Act.put, sA, sB, sC]
 refine rK [2, 3] ?_
 refine aS 6 7 rfl rfl (fun K hK => ?_) fun K hK => ?_
 ·refine step_load rwSeal rfl (.tmp 3) rfl rfl HB3.out (Nat.le_refl _) (vs := rcL num blk A n c D m e) rfl ?_
  refine hK _ _ ?_
  clear hK K
  try simp only [Act.put, sA, sB, sC]
  refine wT 4 8 ?_ rfl ?_
  try simp only [Act.put, sA, sB, sC]
  refine wT 5 9 ?_ rfl ?_
  try simp only [Act.put, sA, sB, sC]
  refine rK [3, 6] ?_
  refine AllReady.cons (o := ⟨some 7, _, _, _, _, _⟩) rfl (fun K hK => ?_) (AllReady.cons (o := ⟨none, _, _, _, _, _⟩) rfl (fun K hK => ?_) AllReady.nil)
  ·refine step_load rwSeal rfl (.tmp 3) rfl rfl HB3.out (Nat.le_refl _) (vs := rcL num blk A n c D m e) rfl ?_
   refine hK _ _ ?_
   clear hK K
   try simp only [Act.put, sA, sB, sC]
   refine rK [6] ?_
   refine AllReady.cons (o := ⟨none, _, _, _, _, _⟩) rfl (fun K hK => ?_) AllReady.nil
   refine step_store rwSeal rfl (.tmp 9) (.tmp 6) (vs := rcL num blk A n c D m e) rfl rfl rfl HM1.out rfl (by rw [mmL_length HL.out.1 HL.out.2.1 HL.out.2.2]; decide) HR.out ?_
   intro w61 hk' ho'
   rw [mm_cert HL.out.1 HL.out.2.1] at hk'
   replace HM1 : Kp _ := ⟨hk'⟩
   replace HB3 : Kp _ := ⟨HB3.out.only ho' HNe'.out⟩
   have HS1 : Kp _ := ⟨(H1.out.grow hB9).only ho' HO.out⟩
   have HKe2 : Kp (Keep (fun j => Om j ∧ j ≠ g) w w61) := ⟨((HKe1.out.trans (H1.out.keepBelow hB9)).less fun _ h => h.1).trans (Keep.only ho' (fun h => h.2 rfl))⟩
   have HSz : Kp (w.heap.size ≤ w61.heap.size) := ⟨HKe2.out.size⟩
   clear hk' ho' hB9
   refine hK _ _ ?_
   clear hK K
   try simp only [Act.put]
   refine wT 7 10 ?_ rfl ?_
   try simp only [Act.put, sA, sB, sC]
   refine wT 8 11 ?_ rfl ?_
   try simp only [Act.put, sA, sB, sC]
   refine rK [9] ?_
   refine AllReady.cons (o := ⟨none, _, _, _, _, _⟩) rfl (fun K hK => ?_) AllReady.nil
   refine step_store rwSeal rfl (.tmp 11) (.tmp 7) (vs := rcL num blk A n c D m e) rfl rfl rfl HM1.out rfl (by rw [mmL_length HL.out.1 rfl HL.out.2.2]; decide) HR.out ?_
   intro w62 hk' ho'
   rw [mm_now HL.out.1 rfl HL.out.2.2] at hk'
   replace HM1 : Kp _ := ⟨hk'⟩
   replace HS1 : Kp _ := ⟨HS1.out.only ho' HO.out⟩
   replace HKe2 : Kp (Keep (fun j => Om j ∧ j ≠ g) w w62) := ⟨HKe2.out.trans (Keep.only ho' (fun h => h.2 rfl))⟩
   clear hk' ho' HB3
   refine hK _ _ ?_
   clear hK K
   try simp only [Act.put]
   refine wpAny_done (by kernel_rfl) ?_ _
   obtain ⟨w5, hw5⟩ : ∃ x, x = w62 := ⟨_, rfl⟩
   rw [← hw5] at HM1 HS1 HKe2 ⊢
   clear hw5
   have c27 : w5.cell? ⟨g, 27, none⟩ = some (.int .i64 q) := by rw [HM1.out.cell? 27]; exact mm_at HL.out.1 rfl rfl 0
   have f27 := HM1.out.frozen 27
   go_upto_region 3 with fail
   have ho1 := Only.setCell w5 ⟨g, 27, none⟩ (.int .i64 0)
   have hk6 := HM1.out.set 27 (.int .i64 0)
   rw [mm_set HL.out.1 rfl rfl 0] at hk6
   have HM6 : Kp (Blk (w5.setCell ⟨g, 27, none⟩ (.int .i64 0)) g 124 (mmL s (rcL num blk A n c D m e) (rcL num blk A n c D m e) 0 lim gm po)) := ⟨hk6⟩
   have HS6 : Kp _ := ⟨HS1.out.only ho1 HO.out⟩
   have HKe6 : Kp _ := ⟨HKe2.out.trans (Keep.only ho1 (fun h => h.2 rfl))⟩
   generalize w5.setCell ⟨g, 27, none⟩ (.int .i64 0) = w6 at *
   clear ho1 hk6 c27 f27 HM1 HS1 HKe2
   have hmm := fun w => run_makeMap (P := Tryz.prog) 122 w
   have hbA : Below w6.heap.size w6 (w6.alloc (.map #[] 0)) := (Below.refl _ _).alloc (Nat.le_refl _) _
   have HMA : Kp _ := ⟨HM6.out.below hbA HM6.out.lt⟩
   have HSA : Kp (StM w0 (w6.alloc (.map #[] 0)) k b t (fun j => Om j ∨ j = w6.heap.size) hs) := ⟨HS6.out.growOwn hbA ⟨Nat.le_refl _, by simp⟩⟩
   have HKA : Kp _ := ⟨HKe6.out.trans ((HS6.out.keepBelow hbA).less fun _ h => h.1)⟩
   have HMi : Kp _ := ⟨MapI.made w6 Tryz.prog 3 kvI okI⟩
   have c29 : (w6.alloc (.map #[] 0)).cell? ⟨g, 29, none⟩ = some (.map gm) := by rw [HMA.out.cell? 29]; exact mm_at (q := 0) HL.out.1 rfl rfl 2
   have f29 := HMA.out.frozen 29
   have HLt : Kp (g < w6.heap.size ∧ w.heap.size ≤ w6.heap.size) := ⟨HM6.out.lt, HKe6.out.size⟩
   clear hbA HM6 HS6 HKe6
   go_wp2
   go_end0
   have ho2 := Only.setCell (w6.alloc (.map #[] 0)) ⟨g, 29, none⟩ (.map (some w6.heap.size))
   have hk7 := HMA.out.set 29 (.map (some w6.heap.size))
   rw [mm_set HL.out.1 rfl rfl 2] at hk7
   exact ⟨w6.heap.size, rfl, HLt.out.2, HSA.out.only ho2 (.inl HO.out), hk7, HMi.out.stay (ho2.block _ (by show w6.heap.size ≠ g; have := HLt.out; omega)), HKA.out.trans (Keep.only ho2 (fun h => h.2 rfl))⟩
  ·refine step_store rwSeal rfl (.tmp 9) (.tmp 6) (vs := rcL num blk A n c D m e) rfl rfl rfl HM1.out rfl (by rw [mmL_length HL.out.1 HL.out.2.1 HL.out.2.2]; decide) HR.out ?_
   intro w63 hk' ho'
   rw [mm_cert HL.out.1 HL.out.2.1] at hk'
   replace HM1 : Kp _ := ⟨hk'⟩
   replace HB3 : Kp _ := ⟨HB3.out.only ho' HNe'.out⟩
   have HS1 : Kp _ := ⟨(H1.out.grow hB9).only ho' HO.out⟩
   have HKe2 : Kp (Keep (fun j => Om j ∧ j ≠ g) w w63) := ⟨((HKe1.out.trans (H1.out.keepBelow hB9)).less fun _ h => h.1).trans (Keep.only ho' (fun h => h.2 rfl))⟩
   have HSz : Kp (w.heap.size ≤ w63.heap.size) := ⟨HKe2.out.size⟩
   clear hk' ho' hB9
   refine hK _ _ ?_
   clear hK K
   try simp only [Act.put]
   refine rK [3] ?_
   refine aR 7 rfl fun K hK => ?_
   refine step_load rwSeal rfl (.tmp 3) rfl rfl HB3.out (Nat.le_refl _) (vs := rcL num blk A n c D m e) rfl ?_
   refine hK _ _ ?_
   clear hK K
   try simp only [Act.put, sA, sB, sC]
   refine wT 7 10 ?_ rfl ?_
   try simp only [Act.put, sA, sB, sC]
   refine wT 8 11 ?_ rfl ?_
   try simp only [Act.put, sA, sB, sC]
   refine rK [9] ?_
   refine AllReady.cons (o := ⟨none, _, _, _, _, _⟩) rfl (fun K hK => ?_) AllReady.nil
   refine step_store rwSeal rfl (.tmp 11) (.tmp 7) (vs := rcL num blk A n c D m e) rfl rfl rfl HM1.out rfl (by rw [mmL_length HL.out.1 rfl HL.out.2.2]; decide) HR.out ?_
   intro w64 hk' ho'
   rw [mm_now HL.out.1 rfl HL.out.2.2] at hk'
   replace HM1 : Kp _ := ⟨hk'⟩
   replace HS1 : Kp _ := ⟨HS1.out.only ho' HO.out⟩
   replace HKe2 : Kp (Keep (fun j => Om j ∧ j ≠ g) w w64) := ⟨HKe2.out.trans (Keep.only ho' (fun h => h.2 rfl))⟩
   clear hk' ho' HB3
   refine hK _ _ ?_
   clear hK K
   try simp only [Act.put]
   refine wpAny_done (by kernel_rfl) ?_ _
   obtain ⟨w5, hw5⟩ : ∃ x, x = w64 := ⟨_, rfl⟩
   rw [← hw5] at HM1 HS1 HKe2 ⊢
   clear hw5
   have c27 : w5.cell? ⟨g, 27, none⟩ = some (.int .i64 q) := by rw [HM1.out.cell? 27]; exact mm_at HL.out.1 rfl rfl 0
   have f27 := HM1.out.frozen 27
   go_upto_region 3 with fail
   have ho1 := Only.setCell w5 ⟨g, 27, none⟩ (.int .i64 0)
   have hk6 := HM1.out.set 27 (.int .i64 0)
   rw [mm_set HL.out.1 rfl rfl 0] at hk6
   have HM6 : Kp (Blk (w5.setCell ⟨g, 27, none⟩ (.int .i64 0)) g 124 (mmL s (rcL num blk A n c D m e) (rcL num blk A n c D m e) 0 lim gm po)) := ⟨hk6⟩
   have HS6 : Kp _ := ⟨HS1.out.only ho1 HO.out⟩
   have HKe6 : Kp _ := ⟨HKe2.out.trans (Keep.only ho1 (fun h => h.2 rfl))⟩
   generalize w5.setCell ⟨g, 27, none⟩ (.int .i64 0) = w6 at *
   clear ho1 hk6 c27 f27 HM1 HS1 HKe2
   have hmm := fun w => run_makeMap (P := Tryz.prog) 122 w
   have hbA : Below w6.heap.size w6 (w6.alloc (.map #[] 0)) := (Below.refl _ _).alloc (Nat.le_refl _) _
   have HMA : Kp _ := ⟨HM6.out.below hbA HM6.out.lt⟩
   have HSA : Kp (StM w0 (w6.alloc (.map #[] 0)) k b t (fun j => Om j ∨ j = w6.heap.size) hs) := ⟨HS6.out.growOwn hbA ⟨Nat.le_refl _, by simp⟩⟩
   have HKA : Kp _ := ⟨HKe6.out.trans ((HS6.out.keepBelow hbA).less fun _ h => h.1)⟩
   have HMi : Kp _ := ⟨MapI.made w6 Tryz.prog 3 kvI okI⟩
   have c29 : (w6.alloc (.map #[] 0)).cell? ⟨g, 29, none⟩ = some (.map gm) := by rw [HMA.out.cell? 29]; exact mm_at (q := 0) HL.out.1 rfl rfl 2
   have f29 := HMA.out.frozen 29
   have HLt : Kp (g < w6.heap.size ∧ w.heap.size ≤ w6.heap.size) := ⟨HM6.out.lt, HKe6.out.size⟩
   clear hbA HM6 HS6 HKe6
   go_wp2
   go_end0
   have ho2 := Only.setCell (w6.alloc (.map #[] 0)) ⟨g, 29, none⟩ (.map (some w6.heap.size))
   have hk7 := HMA.out.set 29 (.map (some w6.heap.size))
   rw [mm_set HL.out.1 rfl rfl 2] at hk7
   exact ⟨w6.heap.size, rfl, HLt.out.2, HSA.out.only ho2 (.inl HO.out), hk7, HMi.out.stay (ho2.block _ (by show w6.heap.size ≠ g; have := HLt.out; omega)), HKA.out.trans (Keep.only ho2 (fun h => h.2 rfl))⟩
 ·refine step_load rwSeal rfl (.tmp 3) rfl rfl HB3.out (Nat.le_refl _) (vs := rcL num blk A n c D m e) rfl ?_
  refine hK _ _ ?_
  clear hK K
  try simp only [Act.put, sA, sB, sC]
  refine rK [2] ?_
  refine aR 6 rfl fun K hK => ?_
  refine step_load rwSeal rfl (.tmp 3) rfl rfl HB3.out (Nat.le_refl _) (vs := rcL num blk A n c D m e) rfl ?_
  refine hK _ _ ?_
  clear hK K
  try simp only [Act.put, sA, sB, sC]
  refine wT 4 8 ?_ rfl ?_
  try simp only [Act.put, sA, sB, sC]
  refine wT 5 9 ?_ rfl ?_
  try simp only [Act.put, sA, sB, sC]
  refine rK [6] ?_
  refine AllReady.cons (o := ⟨none, _, _, _, _, _⟩) rfl (fun K hK => ?_) AllReady.nil
  refine step_store rwSeal rfl (.tmp 9) (.tmp 6) (vs := rcL num blk A n c D m e) rfl rfl rfl HM1.out rfl (by rw [mmL_length HL.out.1 HL.out.2.1 HL.out.2.2]; decide) HR.out ?_
  intro w65 hk' ho'
  rw [mm_cert HL.out.1 HL.out.2.1] at hk'
  replace HM1 : Kp _ := ⟨hk'⟩
  replace HB3 : Kp _ := ⟨HB3.out.only ho' HNe'.out⟩
  have HS1 : Kp _ := ⟨(H1.out.grow hB9).only ho' HO.out⟩
  have HKe2 : Kp (Keep (fun j => Om j ∧ j ≠ g) w w65) := ⟨((HKe1.out.trans (H1.out.keepBelow hB9)).less fun _ h => h.1).trans (Keep.only ho' (fun h => h.2 rfl))⟩
  have HSz : Kp (w.heap.size ≤ w65.heap.size) := ⟨HKe2.out.size⟩
  clear hk' ho' hB9
  refine hK _ _ ?_
  clear hK K
  try simp only [Act.put]
  refine wT 7 10 ?_ rfl ?_
  try simp only [Act.put, sA, sB, sC]
  refine wT 8 11 ?_ rfl ?_
  try simp only [Act.put, sA, sB, sC]
  refine rK [9] ?_
  refine AllReady.cons (o := ⟨none, _, _, _, _, _⟩) rfl (fun K hK => ?_) AllReady.nil
  refine step_store rwSeal rfl (.tmp 11) (.tmp 7) (vs := rcL num blk A n c D m e) rfl rfl rfl HM1.out rfl (by rw [mmL_length HL.out.1 rfl HL.out.2.2]; decide) HR.out ?_
  intro w66 hk' ho'
  rw [mm_now HL.out.1 rfl HL.out.2.2] at hk'
  replace HM1 : Kp _ := ⟨hk'⟩
  replace HS1 : Kp _ := ⟨HS1.out.only ho' HO.out⟩
  replace HKe2 : Kp (Keep (fun j => Om j ∧ j ≠ g) w w66) := ⟨HKe2.out.trans (Keep.only ho' (fun h => h.2 rfl))⟩
  clear hk' ho' HB3
  refine hK _ _ ?_
  clear hK K
  try simp only [Act.put]
  refine wpAny_done (by kernel_rfl) ?_ _
  obtain ⟨w5, hw5⟩ : ∃ x, x = w66 := ⟨_, rfl⟩
  rw [← hw5] at HM1 HS1 HKe2 ⊢
  clear hw5
  have c27 : w5.cell? ⟨g, 27, none⟩ = some (.int .i64 q) := by rw [HM1.out.cell? 27]; exact mm_at HL.out.1 rfl rfl 0
  have f27 := HM1.out.frozen 27
  go_upto_region 3 with fail
  have ho1 := Only.setCell w5 ⟨g, 27, none⟩ (.int .i64 0)
  have hk6 := HM1.out.set 27 (.int .i64 0)
  rw [mm_set HL.out.1 rfl rfl 0] at hk6
  have HM6 : Kp (Blk (w5.setCell ⟨g, 27, none⟩ (.int .i64 0)) g 124 (mmL s (rcL num blk A n c D m e) (rcL num blk A n c D m e) 0 lim gm po)) := ⟨hk6⟩
  have HS6 : Kp _ := ⟨HS1.out.only ho1 HO.out⟩
  have HKe6 : Kp _ := ⟨HKe2.out.trans (Keep.only ho1 (fun h => h.2 rfl))⟩
  generalize w5.setCell ⟨g, 27, none⟩ (.int .i64 0) = w6 at *
  clear ho1 hk6 c27 f27 HM1 HS1 HKe2
  have hmm := fun w => run_makeMap (P := Tryz.prog) 122 w
  have hbA : Below w6.heap.size w6 (w6.alloc (.map #[] 0)) := (Below.refl _ _).alloc (Nat.le_refl _) _
  have HMA : Kp _ := ⟨HM6.out.below hbA HM6.out.lt⟩
  have HSA : Kp (StM w0 (w6.alloc (.map #[] 0)) k b t (fun j => Om j ∨ j = w6.heap.size) hs) := ⟨HS6.out.growOwn hbA ⟨Nat.le_refl _, by simp⟩⟩
  have HKA : Kp _ := ⟨HKe6.out.trans ((HS6.out.keepBelow hbA).less fun _ h => h.1)⟩
  have HMi : Kp _ := ⟨MapI.made w6 Tryz.prog 3 kvI okI⟩
  have c29 : (w6.alloc (.map #[] 0)).cell? ⟨g, 29, none⟩ = some (.map gm) := by rw [HMA.out.cell? 29]; exact mm_at (q := 0) HL.out.1 rfl rfl 2
  have f29 := HMA.out.frozen 29
  have HLt : Kp (g < w6.heap.size ∧ w.heap.size ≤ w6.heap.size) := ⟨HM6.out.lt, HKe6.out.size⟩
  clear hbA HM6 HS6 HKe6
  go_wp2
  go_end0
  have ho2 := Only.setCell (w6.alloc (.map #[] 0)) ⟨g, 29, none⟩ (.map (some w6.heap.size))
  have hk7 := HMA.out.set 29 (.map (some w6.heap.size))
  rw [mm_set HL.out.1 rfl rfl 2] at hk7
  exact ⟨w6.heap.size, rfl, HLt.out.2, HSA.out.only ho2 (.inl HO.out), hk7, HMi.out.stay (ho2.block _ (by show w6.heap.size ≠ g; have := HLt.out; omega)), HKA.out.trans (Keep.only ho2 (fun h => h.2 rfl))⟩
end
end Go.Proofs.YtcehkafddlfleaaGreatDoor

namespace Go.Proofs.YtcehkafddlfleaaGreatDoor
open Go.RowKit
section
variable {s : Sto} {cn nw : List Value} {q lim : Int} {gm : Option Nat} {po : Bool} {g : Nat} {w : World}
theorem mm_cn (h : s.hk.length = 16) (h1 : cn.length = 4) (j : Nat) (hj : j < 4) : (mmL s cn nw q lim gm po)[19 + j]? = cn[j]? := by
 unfold mmL
 rw [List.getElem?_append_right (by rw [stL_length s h]; omega), stL_length s h, List.getElem?_append_left (by omega), show 19 + j - 19 = j by omega]
set_option maxRecDepth 100000 in
set_option maxHeartbeats 1000000 in
theorem mmNumber_any (hM : Blk w g 124 (mmL s cn nw q lim gm po)) (hKy : s.hk.length = 16) (hcn : cn.length = 4) (n : Nat) (hn : cn[0]? = some (.int .u64 (n : Int))) :
  Calls Tryz.prog 20 #[.pointer (some ⟨g, 0, none⟩)] w fun e w' => e = .returned (.int .u64 (n : Int)) ∧ w' = w := by
 have c19 : w.cell? ⟨g, 19, none⟩ = some (.int .u64 (n : Int)) := by rw [hM.cell? 19]; exact (mm_cn hKy hcn 0 (by decide)).trans hn
 clear hM hn
 go_enter Tryz.func20, Tryz.ntmps20
 go_wp2
 go_ret
 exact ⟨rfl, rfl⟩
set_option maxRecDepth 100000 in
set_option maxHeartbeats 1000000 in
theorem msound_ok (hM : Blk w g 124 (mmL s cn nw q lim gm false)) (hKy : s.hk.length = 16) (hcn : cn.length = 4) (hnw : nw.length = 4) :
  Calls Tryz.prog 100 #[.pointer (some ⟨g, 0, none⟩)] w fun e w' => e = .returned .nilIface ∧ w' = w := by
 have c30 : w.cell? ⟨g, 30, none⟩ = some (.bool false) := by rw [hM.cell? 30]; exact mm_at hKy hcn hnw 3
 clear hM
 go_enter Tryz.func100, Tryz.ntmps100
 go_wp2
 go_ret
 exact ⟨rfl, rfl⟩
set_option maxRecDepth 100000 in
set_option maxHeartbeats 1000000 in
theorem msettle_ok (w : World) (g : Nat) :
  Calls Tryz.prog 92 #[.pointer (some ⟨g, 0, none⟩), .nilIface] w fun e w' => e = .returned (.tuple #[]) ∧ Below w.heap.size w w' := by
 go_enter Tryz.func92, Tryz.ntmps92
 go_wp2_with fail
 refine (mnumber_ok w).mono ?_
 rintro e w1 ⟨rfl, hb⟩
 have HB : Kp _ := ⟨hb⟩
 clear hb
 go_wp2
 go_end0
 exact ⟨rfl, HB.out⟩
end
end Go.Proofs.YtcehkafddlfleaaGreatDoor

namespace Go.Proofs.YtcehkafddlfleaaGreatDoor
open Go.RowKit
section
variable {s : Sto} {cn nw : List Value} {q : Nat} {lim : Int} {gm : Option Nat} {po : Bool} {g : Nat} {w : World}
theorem mm_key (h : s.hk.length = 16) {q : Int} : ((mmL s cn nw q lim gm po).drop 1).take 16 = cells8 s.hk := by
 have hl := stL_length s h
 unfold mmL
 rw [List.drop_append_of_le_length (by omega), List.take_append_of_le_length (by rw [List.length_drop]; omega)]
 exact stL_key s h
theorem wrap_u32 (q : Nat) (h : q ≤ 1048576) : IntKind.u32.wrap (q : Int) = (q : Int) := by
 simp [IntKind.wrap, IntKind.bits, IntKind.signed]; omega
structure Past (num : Nat) (q : Nat) (b : List UInt8) : Prop where
 of : getN (b.take 8) < num ∨ getN (b.take 8) = num ∧ getN ((b.drop 8).take 4) ≤ q
set_option maxRecDepth 100000 in
set_option maxHeartbeats 4000000 in
theorem mshow_any (hM : Blk w g 124 (mmL s cn nw q lim gm po)) (hKy : s.hk.length = 16) (hcn : cn.length = 4) (hnw : nw.length = 4) (num : Nat) (hn : cn[0]? = some (.int .u64 (num : Int))) (hq : q ≤ 1048576) (A : Option Addr) (n c : Nat) (b : List UInt8) (ha : Bs w w.heap.size A n c b) (hb : ¬ wrongL b) (hp : Past num q b) :
  Calls Tryz.prog 96 #[.pointer (some ⟨g, 0, none⟩), .slice A n c] w fun x w' => ∃ A' c', x = .returned (.tuple #[.slice A' 256 c', .nilIface]) ∧ BsN w.heap.size w' A' 256 c' (showL s.hk b) ∧ Below w.heap.size w w' := by
 have HM : Kp _ := ⟨hM⟩
 have HA : Kp _ := ⟨ha⟩
 have HL : Kp (s.hk.length = 16 ∧ cn.length = 4 ∧ nw.length = 4 ∧ cn[0]? = some (.int .u64 (num : Int)) ∧ q ≤ 1048576 ∧ ¬ wrongL b ∧ Past num q b) := ⟨hKy, hcn, hnw, hn, hq, hb, hp⟩
 have HF : Kp (1 + 16 ≤ (mmL s cn nw q lim gm po).length) := ⟨by rw [mmL_length hKy hcn hnw]; decide⟩
 clear hM ha hKy hcn hnw hn hq hb hp
 go_enter Tryz.func96, Tryz.ntmps96
 go_wp2_with (with_reducible refine wpList_loadv (o := ⟨some 16, _, _, _, _, _⟩) (vs := cells8 s.hk) rwKey rfl (.tmp 15) rfl rfl HM.out HF.out (mm_key HL.out.1) ?_)
 refine (show_any s.hk A n c b w HL.out.1 HA.out HL.out.2.2.2.2.2.1).mono ?_
 rintro x w2 ⟨A', c', rfl, hx, hb2⟩
 have HX2 : Kp _ := ⟨hx⟩
 have HB2 : Kp _ := ⟨hb2⟩
 have HA2 : Kp _ := ⟨(HA.out.below hb2).more hb2.size⟩
 have HM2 : Kp _ := ⟨HM.out.below hb2 HM.out.lt⟩
 clear hx hb2 HA HM HF
 go_upto_region 4 with fail
 go_wp2_with fail
 refine (when_any A n c b w2 HA2.out HL.out.2.2.2.2.2.1).mono ?_
 rintro x w3 ⟨rfl, hb3⟩
 have HX3 : Kp _ := ⟨HX2.out.next hb3⟩
 have HB3 : Kp _ := ⟨HB2.out.trans (hb3.mono HB2.out.size)⟩
 have hM3 := HM2.out.below hb3 HM2.out.lt
 have c19 : w3.cell? ⟨g, 19, none⟩ = some (.int .u64 (num : Int)) := by rw [hM3.cell? 19]; exact (mm_cn HL.out.1 HL.out.2.1 0 (by decide)).trans HL.out.2.2.2.1
 have c27 : w3.cell? ⟨g, 27, none⟩ = some (.int .i64 (q : Int)) := by rw [hM3.cell? 27]; exact mm_at HL.out.1 HL.out.2.1 HL.out.2.2.1 0
 obtain ⟨e, he⟩ : ∃ x, x = getN (b.take 8) := ⟨_, rfl⟩
 obtain ⟨r, hr⟩ : ∃ x, x = getN ((b.drop 8).take 4) := ⟨_, rfl⟩
 have HP := HL.out.2.2.2.2.2.2.of
 rw [← he, ← hr] at HP ⊢
 have hW : IntKind.u32.wrap (q : Int) = (q : Int) := wrap_u32 q HL.out.2.2.2.2.1
 clear hb3 HX2 HB2 HA2 HM2 hM3 he hr
 rcases HP with h1 | ⟨h1, h2⟩
 ·have g1 : decide (num < e) = false := by simp; omega
  have g2 : ((e : Int) == (num : Int)) = false := by simp; omega
  clear h1
  go_wp2
  go_ret2
  exact ⟨A', c', rfl, HX3.out, HB3.out⟩
 ·have g3 : decide (q < r) = false := by simp; omega
  clear h2
  subst h1
  go_wp2
  go_ret2
  exact ⟨A', c', rfl, HX3.out, HB3.out⟩
end
end Go.Proofs.YtcehkafddlfleaaGreatDoor

namespace Go.Proofs.YtcehkafddlfleaaGreatDoor
open Go.RowKit
section
variable {s : Sto} {cn nw : List Value} {q lim : Int} {gm : Option Nat} {g : Nat} {w : World}
set_option maxRecDepth 100000 in
set_option maxHeartbeats 4000000 in
theorem madmit_ok (hM : Blk w g 124 (mmL s cn nw q lim gm false)) (hKy : s.hk.length = 16) (hcn : cn.length = 4) (hnw : nw.length = 4) (bl : Int) (hn : cn[1]? = some (.int .i64 bl)) (at' : Nat) (hat : (at' : Int) < bl) (hq : q < lim) (A : Option Addr) (n c : Nat) (ls : List (List UInt8)) (ha : Ls w w.heap.size A n c ls) (hl : ∀ l ∈ ls, l.length ≤ 256) :
  Calls Tryz.prog 93 #[.pointer (some ⟨g, 0, none⟩), .int .i64 (at' : Int), .slice A n c] w fun x w' => x = .returned .nilIface ∧ w' = w.drew := by
 have HA : Kp _ := ⟨ha⟩
 have HS : Kp _ := ⟨msound_ok hM hKy hcn hnw⟩
 have c20 : w.cell? ⟨g, 20, none⟩ = some (.int .i64 bl) := by rw [hM.cell? 20]; exact (mm_cn hKy hcn 1 (by decide)).trans hn
 have c27 : w.cell? ⟨g, 27, none⟩ = some (.int .i64 q) := by rw [hM.cell? 27]; exact mm_at hKy hcn hnw 0
 have c28 : w.cell? ⟨g, 28, none⟩ = some (.int .i64 lim) := by rw [hM.cell? 28]; exact mm_at hKy hcn hnw 1
 have HL : Kp (∀ l ∈ ls, l.length ≤ 256) := ⟨hl⟩
 have hle := ha.le
 have g1 : decide (bl ≤ (at' : Int)) = false := by simp; omega
 have g2 : decide (lim ≤ q) = false := by simp; omega
 clear hM ha hKy hcn hnw hn hl hat hq
 go_enter Tryz.func93, Tryz.ntmps93
 go_wp2_with fail
 refine HS.out.mono ?_
 rintro x w1 ⟨rfl, rfl⟩
 clear HS
 go_wp2
 go_loop [31] (fun i => ∃ k : Nat, k ≤ n ∧ i = .int .i64 k) (fun i => n - (intOf i).toNat)
 case atStart => exact ⟨0, Nat.zero_le _, rfl⟩
 case round =>
  obtain ⟨k, hk, rfl⟩ := hrel
  by_cases hlt : k < n
  ·obtain ⟨b, o, A', n', c', rfl, hb, hc, hx⟩ := HA.out.at hlt
   have h6 : n' ≤ 256 := by rw [← hx.len]; exact HL.out _ (List.getElem_mem _)
   have g3 : decide ((256 : Int) < (n' : Int)) = false := by simp; omega
   clear h6 hx
   go_wp2
   go_round
   case rel => exact ⟨k + 1, by omega, by go_num⟩
   case measure => simp [intOf]; omega
  ·obtain rfl : k = n := by omega
   go_wp2
   go_still (by kernel_rfl)
   go_wp2
   go_ret
   exact ⟨rfl, rfl⟩
end
end Go.Proofs.YtcehkafddlfleaaGreatDoor

namespace Go.Proofs.YtcehkafddlfleaaGreatDoor
open Go.RowKit
section
variable {s : Sto} {cn nw : List Value} {q lim : Int} {gm : Nat} {po : Bool} {g : Nat} {w : World}
set_option maxRecDepth 100000 in
set_option maxHeartbeats 4000000 in
theorem mpart_there (hM : Blk w g 124 (mmL s cn nw q lim (some gm) po)) (hKy : s.hk.length = 16) (hcn : cn.length = 4) (hnw : nw.length = 4) {nm : Nat} {f : Int → Option Value} (hI : MapI w Tryz.prog 3 kvI okI gm nm f) (at' p : Nat) (hat : at' ≤ 1000000) (hf : f ((at' / 16 : Nat) : Int) = some (.pointer (some ⟨p, 0, none⟩))) :
  Calls Tryz.prog 97 #[.pointer (some ⟨g, 0, none⟩), .int .i64 (at' : Int)] w fun x w' => x = .returned (.pointer (some ⟨p, 0, none⟩)) ∧ w' = w := by
 have c29 : w.cell? ⟨g, 29, none⟩ = some (.map (some gm)) := by rw [hM.cell? 29]; exact mm_at hKy hcn hnw 2
 have HI : Kp _ := ⟨hI⟩
 obtain ⟨i, hi⟩ : ∃ i, i = at' / 16 := ⟨_, rfl⟩
 have hi9 : i ≤ 1000000 := by omega
 rw [← hi] at hf
 have ht : Int.tdiv (at' : Int) 16 = (i : Int) := by rw [hi]; rfl
 have HF : Kp _ := ⟨hf⟩
 have HO : Kp (okI (i : Int)) := ⟨WalkArith.wf_i64 (by omega)⟩
 have HG : Kp ((f (i : Int)).getD (.pointer none) = .pointer (some ⟨p, 0, none⟩)) := ⟨by rw [hf]; rfl⟩
 clear hM hKy hcn hnw hI hat hf hi
 go_enter Tryz.func97, Tryz.ntmps97
 go_wp2_with (first
  | ((with_reducible refine wpList_lookI (o := ⟨some 13, _, _, _, _, _⟩) HI.out keyI rfl (.tmp 11) (.tmp 12) rfl Tryz.underlying122 (z := .pointer none) (by kernel_rfl) rfl (i : Int) HO.out rfl ?_); rw [HG.out])
  | ((with_reducible refine wpList_lookI (o := ⟨some 35, _, _, _, _, _⟩) HI.out keyI rfl (.tmp 33) (.tmp 34) rfl Tryz.underlying122 (z := .pointer none) (by kernel_rfl) rfl (i : Int) HO.out rfl ?_); rw [HG.out]))
 go_ret
 exact ⟨rfl, rfl⟩
end
end Go.Proofs.YtcehkafddlfleaaGreatDoor

namespace Go.Proofs.YtcehkafddlfleaaGreatDoor
open Go.RowKit
theorem mem_built (b : Nat) (g : Nat → UInt8) (SA : Option Addr) (sc : Nat) (TA : Option Addr) (tc : Nat) : (Tryz.prog).built 124 [(0, .agg (stL ⟨b, (List.range 16).map g, SA, sc, TA, tc⟩).toArray), (4, .int .i64 1048576)] = some (mmL ⟨b, (List.range 16).map g, SA, sc, TA, tc⟩ rcZ rcZ 0 1048576 none false).toArray := by kernel_rfl
theorem mem_built' (s : Sto) (h : s.hk.length = 16) : (Tryz.prog).built 124 [(0, .agg (stL s).toArray), (4, .int .i64 1048576)] = some (mmL s rcZ rcZ 0 1048576 none false).toArray := by
 obtain ⟨b, hk, SA, sc, TA, tc⟩ := s
 have h1 := mem_built b (fun i => hk.getD i 0) SA sc TA tc
 rw [as_range hk 16 h] at h1
 exact h1
theorem mm_store {s : Sto} (h : s.hk.length = 16) {cn nw : List Value} {q lim : Int} {gm : Option Nat} {po : Bool} : ((mmL s cn nw q lim gm po).drop 0).take 19 = stL s := by
 unfold mmL
 rw [List.drop_zero, List.take_append_of_le_length (by rw [stL_length s h]; exact Nat.le_refl _), List.take_of_length_le (by rw [stL_length s h]; exact Nat.le_refl _)]
section
variable {w0 w : World} {k b : Nat} {t : Wd} {Om : Nat → Prop} {hs : List Held}
noncomputable def mntW (m : List UInt8) (r : Rc) (N : Nat) (t : Wd) : Wd := bumpW (sealedW (lookW (lookW t 0) 1) ((N % 2 : Nat) : Int) (encL (sealK m) ⟨N, r.blk, r.sl, r.su⟩))
set_option maxRecDepth 100000 in
set_option maxHeartbeats 4000000 in
theorem mmount_any (h : StM w0 w k b t Om hs) (hk : k + 4 ≤ 1000000) (A : Option Addr) (a c : Nat) (m : List UInt8) (ha : Bs w w.heap.size A a c m) (ha9 : a ≤ 524288) (hH : Hw t) (hc : t.ctr + 1 < 18446744073709551615) (r : Rc) (hr : chooseO (sealK m) t.ctr [t.s0, t.s1] = some r) (hnum : r.num = t.ctr) (hblk : r.blk = (t.n : Int)) (hRt : Rt r) (h0l : t.s0.length ≤ 1000000) (h1l : t.s1.length ≤ 1000000) :
  Calls Tryz.prog 16 #[.pointer (some ⟨b, 0, none⟩), .slice A a c] w fun x w' => ∃ g mp s A' n' c' D' m' e', x = .returned (.tuple #[.pointer (some ⟨g, 0, none⟩), .int .i64 0]) ∧ s.b = b ∧ s.hk = hideK m ∧ w.heap.size ≤ g ∧ g < mp ∧ Keep Om w w' ∧
   StM w0 w' (k + 4) b (mntW m r (t.ctr + 1) t) (fun j => (Om j ∨ j = g) ∨ j = mp) ((D', 32 * m', (if D' = none then 0 else 32 * m'), r.su.flatten) :: (A', n', c', r.sl) :: (s.TA, 32, s.tc, sealK m) :: (s.SA, 32, s.sc, sumK m) :: hs) ∧
   Blk w' g 124 (mmL s (rcL (t.ctr + 1) r.blk A' n' c' D' m' e') (rcL (t.ctr + 1) r.blk A' n' c' D' m' e') 0 1048576 (some mp) false) ∧ MapI w' Tryz.prog 3 kvI okI mp 0 (fun _ => none) ∧ Rs w' w'.heap.size A' n' c' D' m' e' ⟨t.ctr + 1, r.blk, r.sl, r.su⟩ := by
 have H : Kp _ := ⟨h⟩
 have HA : Kp (Bs w w.heap.size A a c m ∧ a ≤ 524288) := ⟨ha, ha9⟩
 have HC : Kp (Hw t ∧ t.ctr + 1 < 18446744073709551615 ∧ chooseO (sealK m) t.ctr [t.s0, t.s1] = some r ∧ r.num = t.ctr ∧ r.blk = (t.n : Int) ∧ Rt r ∧ t.s0.length ≤ 1000000 ∧ t.s1.length ≤ 1000000) := ⟨hH, hc, hr, hnum, hblk, hRt, h0l, h1l⟩
 clear h ha ha9 hH hc hr hnum hblk hRt h0l h1l
 go_enter Tryz.func16, Tryz.ntmps16
 go_wp2_with fail
 refine (storeOf_any b A a c m w HA.out.1 HA.out.2).mono ?_
 rintro x w2 ⟨s, rfl, hsk, rfl, hS, hT, hb2⟩
 have H2 : Kp _ := ⟨H.out.growHold2 hb2 hS (by omega) hT (by omega)⟩
 have HKe2 : Kp _ := ⟨H.out.keepBelow hb2⟩
 have HSk : Kp (s.hk = hideK m ∧ s.hk.length = 16 ∧ (stL s).length = 19) := ⟨hsk, by rw [hsk]; exact hideK_length m, stL_length s (by rw [hsk]; exact hideK_length m)⟩
 clear hS hT hb2 hsk HA
 go_wp2_with (first
  | (with_reducible refine wpList_build2 (o := ⟨some 14, _, _, _, _, _⟩) (v := .agg (stL s).toArray) (u := .int .i64 1048576) rfl 0 4 (.tmp 13) (.const (.int .i64 1048576)) rfl rfl rfl (mem_built' s HSk.out.2.1) ?_)
  | (with_reducible refine wpList_box (o := ⟨some 15, _, _, _, _, _⟩) (cs := mmL s rcZ rcZ 0 1048576 none false) rfl (.tmp 14) rfl rfl ?_))
 intro w3 hk3 hb3 hs3
 have H3 : Kp _ := ⟨H2.out.box hk3 hb3⟩
 have HM3 : Kp _ := ⟨hk3⟩
 have HKe3 : Kp _ := ⟨HKe2.out.trans (H2.out.keepBelow hb3)⟩
 have HGe : Kp (w.heap.size ≤ w2.heap.size ∧ ∀ j, Om j → j ≠ w2.heap.size) := ⟨HKe2.out.size, fun j hj e => by have := (H2.out.lt hj).2; omega⟩
 obtain ⟨g, hg⟩ : ∃ x, x = w2.heap.size := ⟨_, rfl⟩
 rw [← hg] at H3 HM3 HGe ⊢
 clear hk3 hb3 hs3 H2 HKe2 hg
 have HFt : Kp (0 + 19 ≤ (mmL s rcZ rcZ 0 1048576 none false).length) := ⟨by rw [mmL_length HSk.out.2.1 rfl rfl]; decide⟩
 go_wp2_with (with_reducible refine wpList_loadv (o := ⟨some 20, _, _, _, _, _⟩) (vs := stL s) rwSto rfl (.tmp 19) rfl rfl HM3.out HFt.out (mm_store HSk.out.2.1) ?_)
 refine (smount_any H3.out hk HSk.out.2.1 (sealK m) (by simp) HC.out.1 HC.out.2.1 r HC.out.2.2.1 HC.out.2.2.2.1 HC.out.2.2.2.2.1 HC.out.2.2.2.2.2.1 HC.out.2.2.2.2.2.2.1 HC.out.2.2.2.2.2.2.2 (t.ctr + 1) rfl).mono ?_
 rintro x w4 ⟨A', n', c', D', m', e', rfl, k4, hR4, h4⟩
 have H4 : Kp _ := ⟨h4⟩
 have HM4 : Kp _ := ⟨k4.blk HM3.out (.inr rfl)⟩
 have HR4 : Kp _ := ⟨hR4⟩
 have HKe4 : Kp (Keep Om w w4) := ⟨HKe3.out.trans (k4.less fun _ h => .inl h)⟩
 clear h4 hR4 k4 H3 HM3 HKe3 HFt
 go_wp2_with (with_reducible refine wpList_alloc (o := ⟨some 7, _, _, _, _, _⟩) tySeal rfl rfl ?_)
 intro w5 hk5 hb5 hs5
 have HK5 : Kp _ := ⟨And.intro hk5 hb5⟩
 clear hk5 hb5 hs5
 go_wp2_with (with_reducible refine wpList_storeAll (o := ⟨none, _, _, _, _, _⟩) (vs := rcL (t.ctr + 1) r.blk A' n' c' D' m' e') rwSeal rfl (.tmp 7) (.tmp 22) rfl rfl HK5.out.1 rfl rfl (rcL_one _ _ _ _ _ _ _ _) rfl ?_)
 intro w6 hk6 ho6
 have hb6 : Below w4.heap.size w4 w6 := HK5.out.2.trans (ho6.below (Nat.le_refl _))
 have H6 : Kp _ := ⟨H4.out.grow hb6⟩
 have HM6 : Kp _ := ⟨HM4.out.below hb6 HM4.out.lt⟩
 have HR6 : Kp _ := ⟨HR4.out.next hb6 (Nat.le_refl _)⟩
 have HKe6 : Kp (Keep Om w w6) := ⟨HKe4.out.trans ((H4.out.keepBelow hb6).less fun _ h => .inl h)⟩
 have HK7 : Kp _ := ⟨hk6⟩
 clear hb6 hk6 ho6 HK5 H4 HM4 HR4 HKe4
 go_upto_region 7 with fail
 go_wp2_with (with_reducible refine wpList_loadAll (o := ⟨some 29, _, _, _, _, _⟩) rwSeal rfl (.tmp 7) rfl rfl HK7.out rfl ?_)
 refine (begin_any H6.out g (.inr rfl) HSk.out.2.1 rcZ rcZ rfl rfl 0 1048576 none false HM6.out ⟨t.ctr + 1, r.blk, r.sl, r.su⟩ A' n' c' D' m' e').mono ?_
 rintro x w8 ⟨mp, rfl, hmp, h8, hM8, hI8, k8⟩
 have HE : Kp _ := ⟨And.intro h8 (And.intro hM8 hI8)⟩
 have HKe8 : Kp (Keep Om w w8) := ⟨HKe6.out.trans (k8.less fun j h => ⟨.inl h, HGe.out.2 j h⟩)⟩
 have HMp : Kp (g < mp) := ⟨Nat.lt_of_lt_of_le HM6.out.lt hmp⟩
 clear h8 hM8 hI8 k8 hmp H6 HM6 HKe6 HK7
 go_wp2
 go_ret2
 have h1 := HE.out.1.held (A := A') (n := n') (c := c') (l := r.sl) (by simp)
 have h2 := HE.out.1.held (A := D') (n := 32 * m') (c := if D' = none then 0 else 32 * m') (l := r.su.flatten) (by simp)
 have HRf : Kp (Rs w8 w8.heap.size A' n' c' D' m' e' ⟨t.ctr + 1, r.blk, r.sl, r.su⟩) := ⟨⟨HR6.out.num, HR6.out.blk, h1.1, Ds.unflat HR6.out.su h2.1⟩⟩
 exact ⟨g, mp, s, A', n', c', D', m', e', rfl, rfl, HSk.out.1, HGe.out.1, HMp.out, HKe8.out, HE.out.1.forget (fun x hx => by simp at hx ⊢; rcases hx with rfl | rfl | rfl | rfl | h <;> simp_all), HE.out.2.1, HE.out.2.2, HRf.out⟩
end
end Go.Proofs.YtcehkafddlfleaaGreatDoor
