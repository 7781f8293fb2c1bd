/- The contract of the document's Join. -/
import Derived.Test.YtaedlaeflliibaaDoorPtX
namespace Go.Proofs.YtaedlaeflliibaaDoor
open Go.RowKit Go.Shelf Go.Deep

section
set_option maxRecDepth 100000
set_option maxHeartbeats 4000000
theorem refjoin_any (b b2 : Bool) (A B : Option Addr) (n c m d : Nat) (xs ys : List Nm) (w : World) (L M : Nat) (ha : Ss w L A n c xs) (hb : Ss w M B m d ys) (hL : L ≤ w.heap.size) (hM : M ≤ w.heap.size) (hn : n + m ≤ 8796093022208) :
    Calls Tryd.prog 20 #[.agg #[.bool b, .slice A n c], .agg #[.bool b2, .slice B m d]] w fun e w' => ∃ A' n' c', e = .returned (.agg #[.bool (b2 || b), .slice A' n' c']) ∧ Ss w' w'.heap.size A' n' c' (joinL b2 xs ys) ∧ Below w.heap.size w w' := by
  have hx3 := box_three w [.bool b, .slice A n c] [.bool b2, .slice B m d] [.bool false, .slice none 0 0]
  have HA : Kp (∀ W, Below w.heap.size w W → Ss W L A n c xs) := ⟨fun W h => ha.below (h.mono hL)⟩
  have HB : Kp (∀ W, Below w.heap.size w W → Ss W M B m d ys) := ⟨fun W h => hb.below (h.mono hM)⟩
  have HOk : Kp (∀ x ∈ xs ++ ys, x.length ≤ 140737488351232) := ⟨fun x hx => by
    rcases List.mem_append.1 hx with h | h
    · exact ha.ok x h
    · exact hb.ok x h⟩
  have H3 : Kp _ := ⟨hx3⟩
  have HLw : Kp (L ≤ w.heap.size ∧ M ≤ w.heap.size) := ⟨hL, hM⟩
  clear ha hb hx3 hL hM
  cases b2 with
  | true =>
    go_enter Tryd.func20, Tryd.ntmps20
    go_wp2
    have hq := box_three w [.bool b, .slice A n c] [.bool true, .slice B m d] [.bool true, .slice B m d]
    refine bodyPost_ret (results_pt rfl Tryd.underlying25 rfl rfl hq.2.1 szPt) rfl ?_
    exact ⟨B, m, d, rfl, (HB.out _ hq.2.2).more (Nat.le_trans HLw.out.2 hq.2.2.size), hq.2.2⟩
  | false =>
    go_enter Tryd.func20, Tryd.ntmps20
    go_upto_region 4 with (refine wpList_build1 (o := ⟨some 11, _, _, _, _, _⟩) rfl 0 _ rfl rfl (cs := [.bool b, .slice none 0 0]) (built_pt b) ?_)
    obtain ⟨w0, hw0⟩ : ∃ w0, w0 = ((w.alloc (.cells #[.bool b, .slice A n c] 25)).alloc (.cells #[.bool false, .slice B m d] 25)).alloc (.cells #[.bool false, .slice none 0 0] 25) := ⟨_, rfl⟩
    have HQ : Kp _ := ⟨H3.out⟩
    rw [← hw0] at HQ ⊢
    have hs0 : w0.heap.size = w.heap.size + 1 + 1 + 1 := by rw [hw0]; simp
    obtain ⟨w1, hw1⟩ : ∃ w1, w1 = w0.alloc (.cells #[.bool b, .slice none 0 0] 25) := ⟨_, rfl⟩
    have HO : Kp (Blk w1 (w.heap.size + 1 + 1 + 1) 25 [.bool b, .slice none 0 0]) := ⟨by rw [hw1, ← hs0]; exact Blk.new w0 _ _⟩
    have HP : Kp (Blk w1 w.heap.size 25 [.bool b, .slice A n c]) := ⟨by rw [hw1]; exact HQ.out.1.1.alloc _⟩
    have HQ1 : Kp (Blk w1 (w.heap.size + 1) 25 [.bool false, .slice B m d]) := ⟨by rw [hw1]; exact HQ.out.1.2.alloc _⟩
    have HR : Kp (Blk w1 (w.heap.size + 1 + 1) 25 [.bool false, .slice none 0 0]) := ⟨by rw [hw1]; exact HQ.out.2.1.alloc _⟩
    have HW1 : Kp (Below w.heap.size w w1) := ⟨by rw [hw1]; exact HQ.out.2.2.alloc HQ.out.2.2.size _⟩
    rw [← hw1]
    clear hw0 hw1 H3 HQ hs0
    have a1 := HP.out.cell? 1
    have o1 := HO.out.cell? 1
    simp only [List.getElem?_cons_succ, List.getElem?_cons_zero] at a1 o1
    have HS1 : Kp (w.heap.size + 1 + 1 + 1 < w1.heap.size) := ⟨HO.out.lt⟩
    obtain ⟨S1, hS1⟩ : ∃ S1, S1 = w1.heap.size := ⟨_, rfl⟩
    rw [← hS1] at HS1
    go_upto_region 5 with (at_builtin
                           refine wpList_appSt rfl _ _ rfl S1 _ 0 [] rfl (ownSt_nil _ _ _) rfl (HA.out _ HW1.out) (by omega) (by omega) ?_
                           rw [Nat.zero_add, List.nil_append]
                           intro v2 w2 hown2 hb2 _
                           obtain ⟨A2, c2, rfl⟩ := own_sl hown2
                           have HO2 : Kp _ := ⟨hown2⟩
                           have HOb : Kp _ := ⟨HO.out.below hb2 HS1.out⟩
                           have HQb : Kp _ := ⟨HQ1.out.below hb2 (by have := HS1.out; omega)⟩
                           have HRb : Kp _ := ⟨HR.out.below hb2 (by have := HS1.out; omega)⟩
                           have HB2 : Kp (Below w.heap.size w w2) := ⟨HW1.out.trans (hb2.mono (by have := HS1.out; omega))⟩
                           have HZ2 : Kp (S1 ≤ w2.heap.size) := ⟨by have := hb2.size; omega⟩
                           have o2 := HOb.out.cell? 1
                           have f2 := HOb.out.frozen 1
                           simp only [List.getElem?_cons_succ, List.getElem?_cons_zero] at o2
                           clear hown2 hb2 a1 o1)
    obtain ⟨w3, hw3⟩ : ∃ w3, w3 = w2.setCell ⟨w.heap.size + 1 + 1 + 1, 1, none⟩ (.slice A2 n c2) := ⟨_, rfl⟩
    have ho3 : Only (w.heap.size + 1 + 1 + 1) w2 w3 := by rw [hw3]; exact Only.setCell w2 ⟨w.heap.size + 1 + 1 + 1, 1, none⟩ (.slice A2 n c2)
    have HO3 : Kp (Blk w3 (w.heap.size + 1 + 1 + 1) 25 [.bool b, .slice A2 n c2]) := ⟨by rw [hw3]; exact HOb.out.set 1 _⟩
    have HQ3 : Kp _ := ⟨HQb.out.only ho3 (by omega)⟩
    have HR3 : Kp _ := ⟨HRb.out.only ho3 (by omega)⟩
    have HB3 : Kp (Below w.heap.size w w3) := ⟨HB2.out.trans (ho3.below (by omega))⟩
    have HZ3 : Kp (S1 ≤ w3.heap.size) := ⟨by rw [ho3.size]; exact HZ2.out⟩
    have HOw3 : Kp _ := ⟨ownS_only HO2.out ho3 (fun e => by have := ownS_low HO2.out _ e; have := HS1.out; omega)⟩
    rw [← hw3]
    clear hw3 ho3 o2 f2 HO2 HOb HQb HRb HB2 HZ2 HO HQ1 HR HW1
    have a1 := HQ3.out.cell? 1
    have o1 := HO3.out.cell? 1
    simp only [List.getElem?_cons_succ, List.getElem?_cons_zero] at a1 o1
    go_upto_region 6 with (at_builtin
                           refine wpList_appSt rfl _ _ rfl S1 _ n xs rfl HOw3.out rfl (HB.out _ HB3.out) (by omega) HZ3.out ?_
                           intro v4 w4 hown4 hb4 _
                           obtain ⟨A4, c4, rfl⟩ := own_sl hown4
                           have HO4 : Kp _ := ⟨hown4⟩
                           have HOb : Kp _ := ⟨HO3.out.below hb4 HS1.out⟩
                           have HRb : Kp _ := ⟨HR3.out.below hb4 (by have := HS1.out; omega)⟩
                           have HB4 : Kp (Below w.heap.size w w4) := ⟨HB3.out.trans (hb4.mono (by have := HS1.out; omega))⟩
                           have o2 := HOb.out.cell? 1
                           have f2 := HOb.out.frozen 1
                           simp only [List.getElem?_cons_succ, List.getElem?_cons_zero] at o2
                           clear hown4 hb4 a1 o1)
    obtain ⟨w5, hw5⟩ : ∃ w5, w5 = w4.setCell ⟨w.heap.size + 1 + 1 + 1, 1, none⟩ (.slice A4 (n + m) c4) := ⟨_, rfl⟩
    have ho5 : Only (w.heap.size + 1 + 1 + 1) w4 w5 := by rw [hw5]; exact Only.setCell w4 ⟨w.heap.size + 1 + 1 + 1, 1, none⟩ (.slice A4 (n + m) c4)
    have HO5 : Kp (Blk w5 (w.heap.size + 1 + 1 + 1) 25 [.bool b, .slice A4 (n + m) c4]) := ⟨by rw [hw5]; exact HOb.out.set 1 _⟩
    have HR5 : Kp _ := ⟨HRb.out.only ho5 (by omega)⟩
    have HB5 : Kp (Below w.heap.size w w5) := ⟨HB4.out.trans (ho5.below (by omega))⟩
    have HOw5 : Kp _ := ⟨ownS_only HO4.out ho5 (fun e => by have := ownS_low HO4.out _ e; have := HS1.out; omega)⟩
    rw [← hw5]
    clear hw5 ho5 o2 f2 HO4 HOb HRb HB4 HO3 HQ3 HR3 HB3 HZ3 HOw3
    have o0 := HO5.out.cell? 0
    have o1 := HO5.out.cell? 1
    have r0 := HR5.out.cell? 0
    have r1 := HR5.out.cell? 1
    have f0 := HR5.out.frozen 0
    have f1 := HR5.out.frozen 1
    simp only [List.getElem?_cons_succ, List.getElem?_cons_zero] at o0 o1 r0 r1
    go_wp2
    obtain ⟨Z, hZ⟩ : ∃ Z, Z = (w5.setCell ⟨w.heap.size + 1 + 1, 0, none⟩ (.bool b)).setCell ⟨w.heap.size + 1 + 1, 1, none⟩ (.slice A4 (n + m) c4) := ⟨_, rfl⟩
    have hr : Blk Z (w.heap.size + 1 + 1) 25 [.bool b, .slice A4 (n + m) c4] := by rw [hZ]; exact (HR5.out.set 0 _).set 1 _
    have ho : Only (w.heap.size + 1 + 1) w5 Z := by rw [hZ]; exact Only.trans (Only.setCell w5 ⟨w.heap.size + 1 + 1, 0, none⟩ (.bool b)) (Only.setCell (w5.setCell ⟨w.heap.size + 1 + 1, 0, none⟩ (.bool b)) ⟨w.heap.size + 1 + 1, 1, none⟩ (.slice A4 (n + m) c4))
    rw [← hZ]
    have hown := ownS_only HOw5.out ho (fun e => by have := ownS_low HOw5.out _ e; have := HS1.out; omega)
    refine bodyPost_ret (results_pt rfl Tryd.underlying25 rfl rfl hr szPt) rfl ?_
    obtain ⟨A6, c6, e6, hsp⟩ := Ss.of_own hown HOk.out
    cases e6
    exact ⟨A4, n + m, c4, rfl, hsp, HB5.out.trans (ho.below (by omega))⟩
end
end Go.Proofs.YtaedlaeflliibaaDoor
