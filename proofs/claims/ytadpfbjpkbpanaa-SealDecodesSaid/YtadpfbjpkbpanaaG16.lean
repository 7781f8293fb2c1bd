/- The walk of SealLong. -/
import Derived.Test.YtadpfbjpkbpanaaG14
import Derived.Test.YtadpfbjpkbpanaaG15
namespace Go.Proofs.Ytadpfbjpkbpanaa
open Go.RowKit

theorem Bs.head {w : World} {B : Nat} {A : Option Addr} {n c k : Nat} {l : List UInt8} (h : Bs w B A n c l) (hk : k ≤ n) : Bs w B A k c (l.take k) := by
  have hl := h.len
  refine ⟨by simp; omega, Nat.le_trans hk h.cap, h.max, h.nil, fun h0 => ?_⟩
  obtain ⟨b, o, hA, hb, hc⟩ := h.cells (by omega)
  refine ⟨b, o, hA, hb, fun j hj => ?_⟩
  have hj2 : j < l.length := by simp at hj; omega
  rw [hc j hj2]
  simp
theorem enc_inj {key : List UInt8} {r q : Rc} (hr : Rg r) (hq : Rg q) (tr : Rt r) (tq : Rt q) : (encL key r == encL key q) = sameB r q := by
  rw [Bool.eq_iff_iff, beq_iff_eq, sameB_iff]
  constructor
  · intro h
    rw [← readL_enc key r hr tr, h, readL_enc key q hq tq]
  · rintro rfl; rfl
theorem p16b_any (b G : Nat) (w : World) (hb : b ≤ 4294967296) (hG : (b + 15) / 16 = G) :
    Calls Try.prog 27 #[.int .i64 b] w fun x w' => x = .returned (.int .i64 (G : Int)) ∧ Below w.heap.size w w' :=
  (p16_any b G w hb hG).mono fun _ _ ⟨h1, h2⟩ => ⟨h1, h2 ▸ Below.refl _ _⟩
theorem refright_as (t : Bool) (r : Rc) (A : Option Addr) (n c : Nat) (D : Option Addr) (m e : Nat) (w : World) (hR : Rs w w.heap.size A n c D m e r) (hn : n ≤ 1000000) (ht : decide (Rt r) = t) :
    Calls Try.prog 16 #[rcV r A n c D m e] w fun x w' => x = .returned (.bool t) ∧ Below w.heap.size w w' := by
  have h := refright_any r A n c D m e w hR hn
  rwa [ht] at h
theorem reflong_as (S : Nat) (r : Rc) (A : Option Addr) (n c : Nat) (D : Option Addr) (m e : Nat) (w : World) (hn : n ≤ 140737488351232) (hm : m * 32 ≤ 140737488351232) (hS : n + 32 * m = S) :
    Calls Try.prog 10 #[rcV r A n c D m e] w fun x w' => x = .returned (.int .i64 (S : Int)) ∧ Below w.heap.size w w' := by
  have h := reflong_any r A n c D m e w hn hm
  rwa [hS] at h
/-- Encode of what may be -/
theorem encode_yes (key : List UInt8) (KA : Option Addr) (kn kc : Nat) (r : Rc) (A : Option Addr) (n c : Nat) (D : Option Addr) (m e : Nat) (w : World) (hK : Bs w w.heap.size KA kn kc key) (hR : Rs w w.heap.size A n c D m e r) (hkn : kn ≤ 524288) (ht : Rt r) (N : Nat) (hN : (encL key r).length = N) :
    Calls Try.prog 12 #[.slice KA kn kc, rcV r A n c D m e] w fun x w' => ∃ A' c', x = .returned (.tuple #[.slice A' N c', .int .i64 0]) ∧ Bs w' w'.heap.size A' N c' (encL key r) ∧ Below w.heap.size w w' := by
  refine (encode_any key KA kn kc r A n c D m e w hK hR hkn).mono ?_
  rintro x w' ⟨hb, ⟨h, _⟩ | ⟨_, A', c', rfl, h2⟩⟩
  · exact absurd ht h
  · subst hN
    exact ⟨A', c', rfl, h2, hb⟩
theorem same00_any (t : Bool) (A B : Option Addr) (n c m d : Nat) (xs ys : List UInt8) (w : World) (ha : Bs w w.heap.size A n c xs) (hb : Bs w w.heap.size B m d ys) (ht : (xs == ys) = t) :
    Calls Try.prog 14 #[.slice A n c, .slice B m d] w fun e w' => e = .returned (.bool t) ∧ Below w.heap.size w w' := by
  refine (same_any A B n c m d xs ys w _ _ ha hb).mono ?_
  rintro e w' ⟨rfl, rfl⟩
  exact ⟨by rw [ht], Below.refl _ _⟩

set_option maxRecDepth 100000 in
set_option maxHeartbeats 8000000 in
theorem law_sealLong (KA : Option Addr) (kn kc : Nat) (key : List UInt8) (r : Rc) (A : Option Addr) (n c : Nat) (D : Option Addr) (m e : Nat) (q : Rc) (A2 : Option Addr) (n2 c2 : Nat) (D2 : Option Addr) (m2 e2 : Nat) (w : World) (hK0 : Bs w w.heap.size KA kn kc key ∧ kc ≤ 140737488351232)
    (hR : Rs w w.heap.size A n c D m e r) (hn : n ≤ 140737488351232) (hm : m * 32 ≤ 140737488351232) (hQ : Rs w w.heap.size A2 n2 c2 D2 m2 e2 q) (hn2 : n2 ≤ 140737488351232) (hm2 : m2 * 32 ≤ 140737488351232) :
    Calls Try.prog 8 #[.slice KA kn kc, rcV r A n c D m e, rcV q A2 n2 c2 D2 m2 e2] w fun x w' => x = .returned (.bool true) ∧ Below w.heap.size w w' := by
  have hK := hK0.1
  clear hK0
  obtain ⟨S1, hS1⟩ : ∃ S, n + 32 * m = S := ⟨_, rfl⟩
  obtain ⟨S2, hS2⟩ : ∃ S, n2 + 32 * m2 = S := ⟨_, rfl⟩
  have wS : IntKind.i64.wrap ((S1 : Int) + (S2 : Int)) = ((S1 + S2 : Nat) : Int) := by rw [IntKind.wrap_i64]; omega
  have HR : Kp _ := ⟨hR⟩
  have HQ : Kp _ := ⟨hQ⟩
  have HK : Kp _ := ⟨hK⟩
  have hk63 := hK.le
  have HS1 : Kp _ := ⟨hS1⟩
  have HS2 : Kp _ := ⟨hS2⟩
  have HN : Kp (n ≤ 140737488351232 ∧ m * 32 ≤ 140737488351232 ∧ n2 ≤ 140737488351232 ∧ m2 * 32 ≤ 140737488351232) := ⟨⟨hn, hm, hn2, hm2⟩⟩
  clear hR hQ hn hm hn2 hm2 hK hS1 hS2
  go_enter Try.func8, Try.ntmps8
  go_wp2_with (with_reducible refine wpList_box (o := ⟨some 4, _, _, _, _, _⟩) (cs := rcL r.num r.blk A n c D m e) rfl (.tmp 1) rfl rfl ?_)
  intro w1 hk1 hb1 hs1
  have HK1 : Kp _ := ⟨hk1⟩
  have HB1 : Kp _ := ⟨hb1⟩
  clear hk1 hb1 hs1
  go_wp2_with (with_reducible refine wpList_box (o := ⟨some 5, _, _, _, _, _⟩) (cs := rcL q.num q.blk A2 n2 c2 D2 m2 e2) rfl (.tmp 2) rfl rfl ?_)
  intro w2 hk2 hb2 hs2
  have HX : Kp _ := ⟨HK1.out.below hb2 HK1.out.lt⟩
  have HY : Kp _ := ⟨hk2⟩
  have HB2 : Kp (Below w.heap.size w w2) := ⟨HB1.out.trans (hb2.mono HB1.out.size)⟩
  have HRv : Kp (∀ W, Below w2.heap.size w2 W → Rs W W.heap.size A n c D m e r) := ⟨fun W h => HR.out.next (HB2.out.trans (h.mono HB2.out.size)) (Nat.le_refl _)⟩
  have HQv : Kp (∀ W, Below w2.heap.size w2 W → Rs W W.heap.size A2 n2 c2 D2 m2 e2 q) := ⟨fun W h => HQ.out.next (HB2.out.trans (h.mono HB2.out.size)) (Nat.le_refl _)⟩
  have HKv : Kp (∀ W, Below w2.heap.size w2 W → Bs W W.heap.size KA kn kc key) := ⟨fun W h => HK.out.next (HB2.out.trans (h.mono HB2.out.size)) (Nat.le_refl _)⟩
  have HRx : Kp _ := ⟨Blk.range (off := 0) (n := 4) HX.out rfl⟩
  have HRy : Kp _ := ⟨Blk.range (off := 0) (n := 4) HY.out rfl⟩
  have HLx : Kp _ := ⟨HX.out.lt⟩
  have HLy : Kp _ := ⟨HY.out.lt⟩
  clear hk2 hb2 hs2 HK1 HB1 HR HQ HK
  go_upto_region 1 with fail
  go_cut [31] from 11 to 30 (fun v31 wx => ∃ b : Bool, v31 = .bool b ∧ Kp (b = false → kn ≤ 100 ∧ S1 + S2 ≤ 1500 ∧ Rt r ∧ Rt q) ∧ Kp (Below w2.heap.size w2 wx))
  case first =>
    by_cases hk : 100 < kn
    · have dk : decide ((100 : Int) < (kn : Int)) = true := decide_eq_true (by omega)
      clear hk
      go_wp2_with fail
      refine wp_region_held_drew (S := fun W => Below w2.heap.size w2 W) (by kernel_rfl) ((Below.refl _ _).drew) (fun hHeld => ?_)
      generalize w2.drew = wS at *
      refine wpAnyH_take (i := 0) (oi := ⟨some 11, _, _, _, _, _⟩) (v := ?_) rfl (by kernel_rfl) (by kernel_rfl) (by kernel_rfl) (fun _ _ _ h => h) (Or.inl ⟨by rfl, by intro w hSw; go_simp; try rfl⟩) (by assumption) ?_
      try simp only [Act.put, List.setIfInBounds_toArray, List.set_cons_zero, List.set_cons_succ]
      refine wpAnyH_take (i := 1) (oi := ⟨some 12, _, _, _, _, _⟩) (v := ?_) rfl (by kernel_rfl) (by kernel_rfl) (by kernel_rfl) (fun _ _ _ h => h) (Or.inl ⟨by rfl, by intro w hSw; go_simp; try rfl⟩) (by assumption) ?_
      try simp only [Act.put, List.setIfInBounds_toArray, List.set_cons_zero, List.set_cons_succ]
      refine wpAnyH_take (i := 2) (oi := ⟨some 13, _, _, _, _, _⟩) (v := ?_) rfl (by kernel_rfl) (by kernel_rfl) (by kernel_rfl) (fun _ _ _ h => h) (Or.inl ⟨by rfl, by intro w hSw; go_simp; try rfl⟩) (by assumption) ?_
      try simp only [Act.put, List.setIfInBounds_toArray, List.set_cons_zero, List.set_cons_succ]
      refine wpAnyH_take (i := 3) (oi := ⟨some 14, _, _, _, _, _⟩) (v := ?_) rfl (by kernel_rfl) (by kernel_rfl) (by kernel_rfl) (fun _ _ _ h => h) (Or.inl ⟨by rfl, by intro w hSw; go_simp; try rfl⟩) (by assumption) ?_
      try simp only [Act.put, List.setIfInBounds_toArray, List.set_cons_zero, List.set_cons_succ]
      refine wpAnyH_take (i := 4) (oi := ⟨some 15, _, _, _, _, _⟩) (v := undef) rfl (by kernel_rfl) (by kernel_rfl) (by kernel_rfl) (fun _ _ _ h => h) (Or.inr ⟨by rfl, rfl⟩) (by assumption) ?_
      try simp only [Act.put, List.setIfInBounds_toArray, List.set_cons_zero, List.set_cons_succ]
      refine wpAnyH_take (i := 5) (oi := ⟨some 16, _, _, _, _, _⟩) (v := undef) rfl (by kernel_rfl) (by kernel_rfl) (by kernel_rfl) (fun _ _ _ h => h) (Or.inr ⟨by rfl, rfl⟩) (by assumption) ?_
      try simp only [Act.put, List.setIfInBounds_toArray, List.set_cons_zero, List.set_cons_succ]
      refine wpAnyH_take (i := 6) (oi := ⟨some 17, _, _, _, _, _⟩) (v := undef) rfl (by kernel_rfl) (by kernel_rfl) (by kernel_rfl) (fun _ _ _ h => h) (Or.inr ⟨by rfl, rfl⟩) (by assumption) ?_
      try simp only [Act.put, List.setIfInBounds_toArray, List.set_cons_zero, List.set_cons_succ]
      refine wpAnyH_take (i := 7) (oi := ⟨some 18, _, _, _, _, _⟩) (v := undef) rfl (by kernel_rfl) (by kernel_rfl) (by kernel_rfl) (fun _ _ _ h => h) (Or.inr ⟨by rfl, rfl⟩) (by assumption) ?_
      try simp only [Act.put, List.setIfInBounds_toArray, List.set_cons_zero, List.set_cons_succ]
      refine wpAnyH_take (i := 8) (oi := ⟨some 19, _, _, _, _, _⟩) (v := undef) rfl (by kernel_rfl) (by kernel_rfl) (by kernel_rfl) (fun _ _ _ h => h) (Or.inr ⟨by rfl, rfl⟩) (by assumption) ?_
      try simp only [Act.put, List.setIfInBounds_toArray, List.set_cons_zero, List.set_cons_succ]
      refine wpAnyH_take (i := 9) (oi := ⟨some 20, _, _, _, _, _⟩) (v := undef) rfl (by kernel_rfl) (by kernel_rfl) (by kernel_rfl) (fun _ _ _ h => h) (Or.inr ⟨by rfl, rfl⟩) (by assumption) ?_
      try simp only [Act.put, List.setIfInBounds_toArray, List.set_cons_zero, List.set_cons_succ]
      refine wpAnyH_take (i := 10) (oi := ⟨some 21, _, _, _, _, _⟩) (v := ?_) rfl (by kernel_rfl) (by kernel_rfl) (by kernel_rfl) (fun _ _ _ h => h) (Or.inl ⟨by rfl, by intro w hSw; go_simp; try rfl⟩) (by assumption) ?_
      try simp only [Act.put, List.setIfInBounds_toArray, List.set_cons_zero, List.set_cons_succ]
      refine wpAnyH_take (i := 11) (oi := ⟨some 22, _, _, _, _, _⟩) (v := ?_) rfl (by kernel_rfl) (by kernel_rfl) (by kernel_rfl) (fun _ _ _ h => h) (Or.inl ⟨by rfl, by intro w hSw; go_simp; try rfl⟩) (by assumption) ?_
      try simp only [Act.put, List.setIfInBounds_toArray, List.set_cons_zero, List.set_cons_succ]
      refine wpAnyH_take (i := 12) (oi := ⟨some 23, _, _, _, _, _⟩) (v := undef) rfl (by kernel_rfl) (by kernel_rfl) (by kernel_rfl) (fun _ _ _ h => h) (Or.inr ⟨by rfl, rfl⟩) (by assumption) ?_
      try simp only [Act.put, List.setIfInBounds_toArray, List.set_cons_zero, List.set_cons_succ]
      refine wpAnyH_take (i := 13) (oi := ⟨some 24, _, _, _, _, _⟩) (v := undef) rfl (by kernel_rfl) (by kernel_rfl) (by kernel_rfl) (fun _ _ _ h => h) (Or.inr ⟨by rfl, rfl⟩) (by assumption) ?_
      try simp only [Act.put, List.setIfInBounds_toArray, List.set_cons_zero, List.set_cons_succ]
      refine wpAnyH_take (i := 14) (oi := ⟨some 25, _, _, _, _, _⟩) (v := undef) rfl (by kernel_rfl) (by kernel_rfl) (by kernel_rfl) (fun _ _ _ h => h) (Or.inr ⟨by rfl, rfl⟩) (by assumption) ?_
      try simp only [Act.put, List.setIfInBounds_toArray, List.set_cons_zero, List.set_cons_succ]
      refine wpAnyH_take (i := 15) (oi := ⟨some 26, _, _, _, _, _⟩) (v := ?_) rfl (by kernel_rfl) (by kernel_rfl) (by kernel_rfl) (fun _ _ _ h => h) (Or.inl ⟨by rfl, by intro w hSw; go_simp; try rfl⟩) (by assumption) ?_
      try simp only [Act.put, List.setIfInBounds_toArray, List.set_cons_zero, List.set_cons_succ]
      refine wpAnyH_take (i := 16) (oi := ⟨some 27, _, _, _, _, _⟩) (v := ?_) rfl (by kernel_rfl) (by kernel_rfl) (by kernel_rfl) (fun _ _ _ h => h) (Or.inl ⟨by rfl, by intro w hSw; go_simp; try rfl⟩) (by assumption) ?_
      try simp only [Act.put, List.setIfInBounds_toArray, List.set_cons_zero, List.set_cons_succ]
      refine wpAnyH_take (i := 17) (oi := ⟨some 28, _, _, _, _, _⟩) (v := undef) rfl (by kernel_rfl) (by kernel_rfl) (by kernel_rfl) (fun _ _ _ h => h) (Or.inr ⟨by rfl, rfl⟩) (by assumption) ?_
      try simp only [Act.put, List.setIfInBounds_toArray, List.set_cons_zero, List.set_cons_succ]
      refine wpAnyH_take (i := 18) (oi := ⟨some 29, _, _, _, _, _⟩) (v := undef) rfl (by kernel_rfl) (by kernel_rfl) (by kernel_rfl) (fun _ _ _ h => h) (Or.inr ⟨by rfl, rfl⟩) (by assumption) ?_
      try simp only [Act.put, List.setIfInBounds_toArray, List.set_cons_zero, List.set_cons_succ]
      refine wpAnyH_take (i := 19) (oi := ⟨some 30, _, _, _, _, _⟩) (v := undef) rfl (by kernel_rfl) (by kernel_rfl) (by kernel_rfl) (fun _ _ _ h => h) (Or.inr ⟨by rfl, rfl⟩) (by assumption) ?_
      try simp only [Act.put, List.setIfInBounds_toArray, List.set_cons_zero, List.set_cons_succ]
      refine wpAnyH_take (i := 20) (oi := ⟨some 31, _, _, _, _, _⟩) (v := ?_) rfl (by kernel_rfl) (by kernel_rfl) (by kernel_rfl) (fun _ _ _ h => h) (Or.inl ⟨by rfl, by intro w hSw; go_simp; try rfl⟩) (by assumption) ?_
      try simp only [Act.put, List.setIfInBounds_toArray, List.set_cons_zero, List.set_cons_succ]
      refine wpAnyH_done (by kernel_rfl) ?_ _
      have HWe : Kp _ := ⟨hHeld⟩
      clear hHeld
      go_wp2_with fail
      go_meet
      case rel => exact ⟨true, rfl, ⟨fun h => by cases h⟩, HWe⟩
    · have dk : decide ((100 : Int) < (kn : Int)) = false := decide_eq_false (by omega)
      have HK100 : Kp (kn ≤ 100) := ⟨by omega⟩
      clear hk
      by_cases hs : 1500 < S1 + S2
      · have ds : decide ((1500 : Int) < ((S1 + S2 : Nat) : Int)) = true := decide_eq_true (by omega)
        have ds' : decide ((1500 : Int) < (S1 : Int) + (S2 : Int)) = true := decide_eq_true (by omega)
        clear hs
        go_wp2_with fail
        refine wp_region_held_drew (S := fun W => Below w2.heap.size w2 W) (by kernel_rfl) ((Below.refl _ _).drew) (fun hHeld => ?_)
        generalize w2.drew = wS at *
        refine wpAnyH_take (i := 0) (oi := ⟨some 11, _, _, _, _, _⟩) (v := ?_) rfl (by kernel_rfl) (by kernel_rfl) (by kernel_rfl) (fun _ _ _ h => h) (Or.inl ⟨by rfl, by intro w hSw; go_simp; try rfl⟩) (by assumption) ?_
        try simp only [Act.put, List.setIfInBounds_toArray, List.set_cons_zero, List.set_cons_succ]
        refine wpAnyH_take (i := 1) (oi := ⟨some 12, _, _, _, _, _⟩) (v := ?_) rfl (by kernel_rfl) (by kernel_rfl) (by kernel_rfl) (fun _ _ _ h => h) (Or.inl ⟨by rfl, by intro w hSw; go_simp; try rfl⟩) (by assumption) ?_
        try simp only [Act.put, List.setIfInBounds_toArray, List.set_cons_zero, List.set_cons_succ]
        refine wpAnyH_take (i := 2) (oi := ⟨some 13, _, _, _, _, _⟩) (v := ?_) rfl (by kernel_rfl) (by kernel_rfl) (by kernel_rfl) (fun _ _ _ h => h) (Or.inl ⟨by rfl, by intro w hSw; go_simp; try rfl⟩) (by assumption) ?_
        try simp only [Act.put, List.setIfInBounds_toArray, List.set_cons_zero, List.set_cons_succ]
        refine wpAnyH_take (i := 3) (oi := ⟨some 14, _, _, _, _, _⟩) (v := ?_) rfl (by kernel_rfl) (by kernel_rfl) (by kernel_rfl) (fun _ _ _ h => h) (Or.inl ⟨by rfl, by intro w hSw; go_simp; try rfl⟩) (by assumption) ?_
        try simp only [Act.put, List.setIfInBounds_toArray, List.set_cons_zero, List.set_cons_succ]
        refine wpAnyH_take (i := 4) (oi := ⟨some 15, _, _, _, _, _⟩) (v := _) rfl (by kernel_rfl) (by kernel_rfl) (by kernel_rfl) (fun _ _ _ h => h) (yieldsIf_load_mid (by rfl) _ (.tmp 4) rfl _ _ rfl (rcL r.num r.blk A n c D m e) _ (fun W hW => range_below HRx.out hW (HLx.out)) rwSeal.ty rwSeal.row rwSeal.size) (by assumption) ?_
        try simp only [Act.put, List.setIfInBounds_toArray, List.set_cons_zero, List.set_cons_succ]
        refine wpAnyH_take (i := 6) (oi := ⟨some 17, _, _, _, _, _⟩) (v := _) rfl (by kernel_rfl) (by kernel_rfl) (by kernel_rfl) (fun _ _ _ h => h) (yieldsIf_load_mid (by rfl) _ (.tmp 5) rfl _ _ rfl (rcL q.num q.blk A2 n2 c2 D2 m2 e2) _ (fun W hW => range_below HRy.out hW (HLy.out)) rwSeal.ty rwSeal.row rwSeal.size) (by assumption) ?_
        try simp only [Act.put, List.setIfInBounds_toArray, List.set_cons_zero, List.set_cons_succ]
        refine wpAnyH_ready (rs := [5]) (by kernel_rfl) (by simp) ?_
        refine AllReadyH.cons (o := ⟨some 16, _, _, _, _, _⟩) rfl (fun K hK => ?_) AllReadyH.nil
        go_simp
        refine (reflong_as S1 r A n c D m e wS HN.out.1 HN.out.2.1 HS1.out).mono ?_
        rintro e w51 ⟨rfl, hb'⟩
        refine hK.out _ _ (hHeld.trans (hb'.mono hHeld.size)) (fun hHeld2 => ?_)
        clear hb'
        clear hK K hHeld
        have hHeld := hHeld2
        clear hHeld2
        try simp only [Act.put, List.setIfInBounds_toArray, List.set_cons_zero, List.set_cons_succ]
        refine wpAnyH_ready (rs := [7]) (by kernel_rfl) (by simp) ?_
        refine AllReadyH.cons (o := ⟨some 18, _, _, _, _, _⟩) rfl (fun K hK => ?_) AllReadyH.nil
        go_simp
        refine (reflong_as S2 q A2 n2 c2 D2 m2 e2 w51 HN.out.2.2.1 HN.out.2.2.2 HS2.out).mono ?_
        rintro e w52 ⟨rfl, hb'⟩
        refine hK.out _ _ (hHeld.trans (hb'.mono hHeld.size)) (fun hHeld2 => ?_)
        clear hb'
        clear hK K hHeld
        have hHeld := hHeld2
        clear hHeld2
        try simp only [Act.put, List.setIfInBounds_toArray, List.set_cons_zero, List.set_cons_succ]
        refine wpAnyH_take (i := 8) (oi := ⟨some 19, _, _, _, _, _⟩) (v := ?_) rfl (by kernel_rfl) (by kernel_rfl) (by kernel_rfl) (fun _ _ _ h => h) (Or.inl ⟨by rfl, by intro w hSw; go_simp; try rfl⟩) (by assumption) ?_
        try simp only [Act.put, List.setIfInBounds_toArray, List.set_cons_zero, List.set_cons_succ]
        refine wpAnyH_take (i := 9) (oi := ⟨some 20, _, _, _, _, _⟩) (v := ?_) rfl (by kernel_rfl) (by kernel_rfl) (by kernel_rfl) (fun _ _ _ h => h) (Or.inl ⟨by rfl, by intro w hSw; go_simp; try rfl⟩) (by assumption) ?_
        try simp only [Act.put, List.setIfInBounds_toArray, List.set_cons_zero, List.set_cons_succ]
        refine wpAnyH_take (i := 10) (oi := ⟨some 21, _, _, _, _, _⟩) (v := ?_) rfl (by kernel_rfl) (by kernel_rfl) (by kernel_rfl) (fun _ _ _ h => h) (Or.inl ⟨by rfl, by intro w hSw; go_simp; try rfl⟩) (by assumption) ?_
        try simp only [Act.put, List.setIfInBounds_toArray, List.set_cons_zero, List.set_cons_succ]
        refine wpAnyH_take (i := 11) (oi := ⟨some 22, _, _, _, _, _⟩) (v := ?_) rfl (by kernel_rfl) (by kernel_rfl) (by kernel_rfl) (fun _ _ _ h => h) (Or.inl ⟨by rfl, by intro w hSw; go_simp; try rfl⟩) (by assumption) ?_
        try simp only [Act.put, List.setIfInBounds_toArray, List.set_cons_zero, List.set_cons_succ]
        refine wpAnyH_take (i := 12) (oi := ⟨some 23, _, _, _, _, _⟩) (v := undef) rfl (by kernel_rfl) (by kernel_rfl) (by kernel_rfl) (fun _ _ _ h => h) (Or.inr ⟨by rfl, rfl⟩) (by assumption) ?_
        try simp only [Act.put, List.setIfInBounds_toArray, List.set_cons_zero, List.set_cons_succ]
        refine wpAnyH_take (i := 13) (oi := ⟨some 24, _, _, _, _, _⟩) (v := undef) rfl (by kernel_rfl) (by kernel_rfl) (by kernel_rfl) (fun _ _ _ h => h) (Or.inr ⟨by rfl, rfl⟩) (by assumption) ?_
        try simp only [Act.put, List.setIfInBounds_toArray, List.set_cons_zero, List.set_cons_succ]
        refine wpAnyH_take (i := 14) (oi := ⟨some 25, _, _, _, _, _⟩) (v := undef) rfl (by kernel_rfl) (by kernel_rfl) (by kernel_rfl) (fun _ _ _ h => h) (Or.inr ⟨by rfl, rfl⟩) (by assumption) ?_
        try simp only [Act.put, List.setIfInBounds_toArray, List.set_cons_zero, List.set_cons_succ]
        refine wpAnyH_take (i := 15) (oi := ⟨some 26, _, _, _, _, _⟩) (v := ?_) rfl (by kernel_rfl) (by kernel_rfl) (by kernel_rfl) (fun _ _ _ h => h) (Or.inl ⟨by rfl, by intro w hSw; go_simp; try rfl⟩) (by assumption) ?_
        try simp only [Act.put, List.setIfInBounds_toArray, List.set_cons_zero, List.set_cons_succ]
        refine wpAnyH_take (i := 16) (oi := ⟨some 27, _, _, _, _, _⟩) (v := ?_) rfl (by kernel_rfl) (by kernel_rfl) (by kernel_rfl) (fun _ _ _ h => h) (Or.inl ⟨by rfl, by intro w hSw; go_simp; try rfl⟩) (by assumption) ?_
        try simp only [Act.put, List.setIfInBounds_toArray, List.set_cons_zero, List.set_cons_succ]
        refine wpAnyH_take (i := 17) (oi := ⟨some 28, _, _, _, _, _⟩) (v := undef) rfl (by kernel_rfl) (by kernel_rfl) (by kernel_rfl) (fun _ _ _ h => h) (Or.inr ⟨by rfl, rfl⟩) (by assumption) ?_
        try simp only [Act.put, List.setIfInBounds_toArray, List.set_cons_zero, List.set_cons_succ]
        refine wpAnyH_take (i := 18) (oi := ⟨some 29, _, _, _, _, _⟩) (v := undef) rfl (by kernel_rfl) (by kernel_rfl) (by kernel_rfl) (fun _ _ _ h => h) (Or.inr ⟨by rfl, rfl⟩) (by assumption) ?_
        try simp only [Act.put, List.setIfInBounds_toArray, List.set_cons_zero, List.set_cons_succ]
        refine wpAnyH_take (i := 19) (oi := ⟨some 30, _, _, _, _, _⟩) (v := undef) rfl (by kernel_rfl) (by kernel_rfl) (by kernel_rfl) (fun _ _ _ h => h) (Or.inr ⟨by rfl, rfl⟩) (by assumption) ?_
        try simp only [Act.put, List.setIfInBounds_toArray, List.set_cons_zero, List.set_cons_succ]
        refine wpAnyH_take (i := 20) (oi := ⟨some 31, _, _, _, _, _⟩) (v := ?_) rfl (by kernel_rfl) (by kernel_rfl) (by kernel_rfl) (fun _ _ _ h => h) (Or.inl ⟨by rfl, by intro w hSw; go_simp; try rfl⟩) (by assumption) ?_
        try simp only [Act.put, List.setIfInBounds_toArray, List.set_cons_zero, List.set_cons_succ]
        refine wpAnyH_done (by kernel_rfl) ?_ _
        have HWe : Kp _ := ⟨hHeld⟩
        clear hHeld
        go_wp2_with fail
        go_meet
        case rel => exact ⟨true, rfl, ⟨fun h => by cases h⟩, HWe⟩
      · have ds : decide ((1500 : Int) < ((S1 + S2 : Nat) : Int)) = false := decide_eq_false (by omega)
        have ds' : decide ((1500 : Int) < (S1 : Int) + (S2 : Int)) = false := decide_eq_false (by omega)
        have HS15 : Kp (S1 + S2 ≤ 1500) := ⟨by omega⟩
        have HNs : Kp (n ≤ 1000000 ∧ n2 ≤ 1000000) := ⟨by have := HS1.out; have := HS2.out; omega⟩
        clear hs
        by_cases hr : Rt r
        · have HTr : Kp (decide (Rt r) = true) := ⟨decide_eq_true hr⟩
          have HTr' : Kp _ := ⟨hr⟩
          clear hr
          obtain ⟨tq, htq⟩ : ∃ t, decide (Rt q) = t := ⟨_, rfl⟩
          have HTq : Kp _ := ⟨htq⟩
          clear htq
          go_wp2_with fail
          refine wp_region_held_drew (S := fun W => Below w2.heap.size w2 W) (by kernel_rfl) ((Below.refl _ _).drew) (fun hHeld => ?_)
          generalize w2.drew = wS at *
          refine wpAnyH_take (i := 0) (oi := ⟨some 11, _, _, _, _, _⟩) (v := ?_) rfl (by kernel_rfl) (by kernel_rfl) (by kernel_rfl) (fun _ _ _ h => h) (Or.inl ⟨by rfl, by intro w hSw; go_simp; try rfl⟩) (by assumption) ?_
          try simp only [Act.put, List.setIfInBounds_toArray, List.set_cons_zero, List.set_cons_succ]
          refine wpAnyH_take (i := 1) (oi := ⟨some 12, _, _, _, _, _⟩) (v := ?_) rfl (by kernel_rfl) (by kernel_rfl) (by kernel_rfl) (fun _ _ _ h => h) (Or.inl ⟨by rfl, by intro w hSw; go_simp; try rfl⟩) (by assumption) ?_
          try simp only [Act.put, List.setIfInBounds_toArray, List.set_cons_zero, List.set_cons_succ]
          refine wpAnyH_take (i := 2) (oi := ⟨some 13, _, _, _, _, _⟩) (v := ?_) rfl (by kernel_rfl) (by kernel_rfl) (by kernel_rfl) (fun _ _ _ h => h) (Or.inl ⟨by rfl, by intro w hSw; go_simp; try rfl⟩) (by assumption) ?_
          try simp only [Act.put, List.setIfInBounds_toArray, List.set_cons_zero, List.set_cons_succ]
          refine wpAnyH_take (i := 3) (oi := ⟨some 14, _, _, _, _, _⟩) (v := ?_) rfl (by kernel_rfl) (by kernel_rfl) (by kernel_rfl) (fun _ _ _ h => h) (Or.inl ⟨by rfl, by intro w hSw; go_simp; try rfl⟩) (by assumption) ?_
          try simp only [Act.put, List.setIfInBounds_toArray, List.set_cons_zero, List.set_cons_succ]
          refine wpAnyH_take (i := 4) (oi := ⟨some 15, _, _, _, _, _⟩) (v := _) rfl (by kernel_rfl) (by kernel_rfl) (by kernel_rfl) (fun _ _ _ h => h) (yieldsIf_load_mid (by rfl) _ (.tmp 4) rfl _ _ rfl (rcL r.num r.blk A n c D m e) _ (fun W hW => range_below HRx.out hW (HLx.out)) rwSeal.ty rwSeal.row rwSeal.size) (by assumption) ?_
          try simp only [Act.put, List.setIfInBounds_toArray, List.set_cons_zero, List.set_cons_succ]
          refine wpAnyH_take (i := 6) (oi := ⟨some 17, _, _, _, _, _⟩) (v := _) rfl (by kernel_rfl) (by kernel_rfl) (by kernel_rfl) (fun _ _ _ h => h) (yieldsIf_load_mid (by rfl) _ (.tmp 5) rfl _ _ rfl (rcL q.num q.blk A2 n2 c2 D2 m2 e2) _ (fun W hW => range_below HRy.out hW (HLy.out)) rwSeal.ty rwSeal.row rwSeal.size) (by assumption) ?_
          try simp only [Act.put, List.setIfInBounds_toArray, List.set_cons_zero, List.set_cons_succ]
          refine wpAnyH_ready (rs := [5]) (by kernel_rfl) (by simp) ?_
          refine AllReadyH.cons (o := ⟨some 16, _, _, _, _, _⟩) rfl (fun K hK => ?_) AllReadyH.nil
          go_simp
          refine (reflong_as S1 r A n c D m e wS HN.out.1 HN.out.2.1 HS1.out).mono ?_
          rintro e w51 ⟨rfl, hb'⟩
          refine hK.out _ _ (hHeld.trans (hb'.mono hHeld.size)) (fun hHeld2 => ?_)
          clear hb'
          clear hK K hHeld
          have hHeld := hHeld2
          clear hHeld2
          try simp only [Act.put, List.setIfInBounds_toArray, List.set_cons_zero, List.set_cons_succ]
          refine wpAnyH_ready (rs := [7]) (by kernel_rfl) (by simp) ?_
          refine AllReadyH.cons (o := ⟨some 18, _, _, _, _, _⟩) rfl (fun K hK => ?_) AllReadyH.nil
          go_simp
          refine (reflong_as S2 q A2 n2 c2 D2 m2 e2 w51 HN.out.2.2.1 HN.out.2.2.2 HS2.out).mono ?_
          rintro e w52 ⟨rfl, hb'⟩
          refine hK.out _ _ (hHeld.trans (hb'.mono hHeld.size)) (fun hHeld2 => ?_)
          clear hb'
          clear hK K hHeld
          have hHeld := hHeld2
          clear hHeld2
          try simp only [Act.put, List.setIfInBounds_toArray, List.set_cons_zero, List.set_cons_succ]
          refine wpAnyH_take (i := 8) (oi := ⟨some 19, _, _, _, _, _⟩) (v := ?_) rfl (by kernel_rfl) (by kernel_rfl) (by kernel_rfl) (fun _ _ _ h => h) (Or.inl ⟨by rfl, by intro w hSw; go_simp; try rfl⟩) (by assumption) ?_
          try simp only [Act.put, List.setIfInBounds_toArray, List.set_cons_zero, List.set_cons_succ]
          refine wpAnyH_take (i := 9) (oi := ⟨some 20, _, _, _, _, _⟩) (v := ?_) rfl (by kernel_rfl) (by kernel_rfl) (by kernel_rfl) (fun _ _ _ h => h) (Or.inl ⟨by rfl, by intro w hSw; go_simp; try rfl⟩) (by assumption) ?_
          try simp only [Act.put, List.setIfInBounds_toArray, List.set_cons_zero, List.set_cons_succ]
          refine wpAnyH_take (i := 10) (oi := ⟨some 21, _, _, _, _, _⟩) (v := ?_) rfl (by kernel_rfl) (by kernel_rfl) (by kernel_rfl) (fun _ _ _ h => h) (Or.inl ⟨by rfl, by intro w hSw; go_simp; try rfl⟩) (by assumption) ?_
          try simp only [Act.put, List.setIfInBounds_toArray, List.set_cons_zero, List.set_cons_succ]
          refine wpAnyH_take (i := 11) (oi := ⟨some 22, _, _, _, _, _⟩) (v := ?_) rfl (by kernel_rfl) (by kernel_rfl) (by kernel_rfl) (fun _ _ _ h => h) (Or.inl ⟨by rfl, by intro w hSw; go_simp; try rfl⟩) (by assumption) ?_
          try simp only [Act.put, List.setIfInBounds_toArray, List.set_cons_zero, List.set_cons_succ]
          refine wpAnyH_take (i := 12) (oi := ⟨some 23, _, _, _, _, _⟩) (v := _) rfl (by kernel_rfl) (by kernel_rfl) (by kernel_rfl) (fun _ _ _ h => h) (yieldsIf_load_mid (by rfl) _ (.tmp 4) rfl _ _ rfl (rcL r.num r.blk A n c D m e) _ (fun W hW => range_below HRx.out hW (HLx.out)) rwSeal.ty rwSeal.row rwSeal.size) (by assumption) ?_
          try simp only [Act.put, List.setIfInBounds_toArray, List.set_cons_zero, List.set_cons_succ]
          refine wpAnyH_ready (rs := [13]) (by kernel_rfl) (by simp) ?_
          refine AllReadyH.cons (o := ⟨some 24, _, _, _, _, _⟩) rfl (fun K hK => ?_) AllReadyH.nil
          go_simp
          refine (refright_as true r A n c D m e w52 (HRv.out w52 hHeld) HNs.out.1 HTr.out).mono ?_
          rintro e w53 ⟨rfl, hb'⟩
          refine hK.out _ _ (hHeld.trans (hb'.mono hHeld.size)) (fun hHeld2 => ?_)
          clear hb'
          clear hK K hHeld
          have hHeld := hHeld2
          clear hHeld2
          try simp only [Act.put, List.setIfInBounds_toArray, List.set_cons_zero, List.set_cons_succ]
          refine wpAnyH_take (i := 14) (oi := ⟨some 25, _, _, _, _, _⟩) (v := ?_) rfl (by kernel_rfl) (by kernel_rfl) (by kernel_rfl) (fun _ _ _ h => h) (Or.inl ⟨by rfl, by intro w hSw; go_simp; try rfl⟩) (by assumption) ?_
          try simp only [Act.put, List.setIfInBounds_toArray, List.set_cons_zero, List.set_cons_succ]
          refine wpAnyH_take (i := 15) (oi := ⟨some 26, _, _, _, _, _⟩) (v := ?_) rfl (by kernel_rfl) (by kernel_rfl) (by kernel_rfl) (fun _ _ _ h => h) (Or.inl ⟨by rfl, by intro w hSw; go_simp; try rfl⟩) (by assumption) ?_
          try simp only [Act.put, List.setIfInBounds_toArray, List.set_cons_zero, List.set_cons_succ]
          refine wpAnyH_take (i := 16) (oi := ⟨some 27, _, _, _, _, _⟩) (v := ?_) rfl (by kernel_rfl) (by kernel_rfl) (by kernel_rfl) (fun _ _ _ h => h) (Or.inl ⟨by rfl, by intro w hSw; go_simp; try rfl⟩) (by assumption) ?_
          try simp only [Act.put, List.setIfInBounds_toArray, List.set_cons_zero, List.set_cons_succ]
          refine wpAnyH_take (i := 17) (oi := ⟨some 28, _, _, _, _, _⟩) (v := _) rfl (by kernel_rfl) (by kernel_rfl) (by kernel_rfl) (fun _ _ _ h => h) (yieldsIf_load_mid (by rfl) _ (.tmp 5) rfl _ _ rfl (rcL q.num q.blk A2 n2 c2 D2 m2 e2) _ (fun W hW => range_below HRy.out hW (HLy.out)) rwSeal.ty rwSeal.row rwSeal.size) (by assumption) ?_
          try simp only [Act.put, List.setIfInBounds_toArray, List.set_cons_zero, List.set_cons_succ]
          refine wpAnyH_ready (rs := [18]) (by kernel_rfl) (by simp) ?_
          refine AllReadyH.cons (o := ⟨some 29, _, _, _, _, _⟩) rfl (fun K hK => ?_) AllReadyH.nil
          go_simp
          refine (refright_as tq q A2 n2 c2 D2 m2 e2 w53 (HQv.out w53 hHeld) HNs.out.2 HTq.out).mono ?_
          rintro e w54 ⟨rfl, hb'⟩
          refine hK.out _ _ (hHeld.trans (hb'.mono hHeld.size)) (fun hHeld2 => ?_)
          clear hb'
          clear hK K hHeld
          have hHeld := hHeld2
          clear hHeld2
          try simp only [Act.put, List.setIfInBounds_toArray, List.set_cons_zero, List.set_cons_succ]
          refine wpAnyH_take (i := 19) (oi := ⟨some 30, _, _, _, _, _⟩) (v := ?_) rfl (by kernel_rfl) (by kernel_rfl) (by kernel_rfl) (fun _ _ _ h => h) (Or.inl ⟨by rfl, by intro w hSw; go_simp; try rfl⟩) (by assumption) ?_
          try simp only [Act.put, List.setIfInBounds_toArray, List.set_cons_zero, List.set_cons_succ]
          refine wpAnyH_take (i := 20) (oi := ⟨some 31, _, _, _, _, _⟩) (v := ?_) rfl (by kernel_rfl) (by kernel_rfl) (by kernel_rfl) (fun _ _ _ h => h) (Or.inl ⟨by rfl, by intro w hSw; go_simp; try rfl⟩) (by assumption) ?_
          try simp only [Act.put, List.setIfInBounds_toArray, List.set_cons_zero, List.set_cons_succ]
          refine wpAnyH_done (by kernel_rfl) ?_ _
          have HWe : Kp _ := ⟨hHeld⟩
          clear hHeld
          go_wp2_with fail
          go_meet
          case rel => exact ⟨_, rfl, ⟨fun h => ⟨HK100.out, HS15.out, HTr'.out, by have h2 := HTq.out; cases tq with | true => exact of_decide_eq_true h2 | false => cases h⟩⟩, HWe⟩
        · have HTr : Kp (decide (Rt r) = false) := ⟨decide_eq_false hr⟩
          clear hr
          go_wp2_with fail
          refine wp_region_held_drew (S := fun W => Below w2.heap.size w2 W) (by kernel_rfl) ((Below.refl _ _).drew) (fun hHeld => ?_)
          generalize w2.drew = wS at *
          refine wpAnyH_take (i := 0) (oi := ⟨some 11, _, _, _, _, _⟩) (v := ?_) rfl (by kernel_rfl) (by kernel_rfl) (by kernel_rfl) (fun _ _ _ h => h) (Or.inl ⟨by rfl, by intro w hSw; go_simp; try rfl⟩) (by assumption) ?_
          try simp only [Act.put, List.setIfInBounds_toArray, List.set_cons_zero, List.set_cons_succ]
          refine wpAnyH_take (i := 1) (oi := ⟨some 12, _, _, _, _, _⟩) (v := ?_) rfl (by kernel_rfl) (by kernel_rfl) (by kernel_rfl) (fun _ _ _ h => h) (Or.inl ⟨by rfl, by intro w hSw; go_simp; try rfl⟩) (by assumption) ?_
          try simp only [Act.put, List.setIfInBounds_toArray, List.set_cons_zero, List.set_cons_succ]
          refine wpAnyH_take (i := 2) (oi := ⟨some 13, _, _, _, _, _⟩) (v := ?_) rfl (by kernel_rfl) (by kernel_rfl) (by kernel_rfl) (fun _ _ _ h => h) (Or.inl ⟨by rfl, by intro w hSw; go_simp; try rfl⟩) (by assumption) ?_
          try simp only [Act.put, List.setIfInBounds_toArray, List.set_cons_zero, List.set_cons_succ]
          refine wpAnyH_take (i := 3) (oi := ⟨some 14, _, _, _, _, _⟩) (v := ?_) rfl (by kernel_rfl) (by kernel_rfl) (by kernel_rfl) (fun _ _ _ h => h) (Or.inl ⟨by rfl, by intro w hSw; go_simp; try rfl⟩) (by assumption) ?_
          try simp only [Act.put, List.setIfInBounds_toArray, List.set_cons_zero, List.set_cons_succ]
          refine wpAnyH_take (i := 4) (oi := ⟨some 15, _, _, _, _, _⟩) (v := _) rfl (by kernel_rfl) (by kernel_rfl) (by kernel_rfl) (fun _ _ _ h => h) (yieldsIf_load_mid (by rfl) _ (.tmp 4) rfl _ _ rfl (rcL r.num r.blk A n c D m e) _ (fun W hW => range_below HRx.out hW (HLx.out)) rwSeal.ty rwSeal.row rwSeal.size) (by assumption) ?_
          try simp only [Act.put, List.setIfInBounds_toArray, List.set_cons_zero, List.set_cons_succ]
          refine wpAnyH_take (i := 6) (oi := ⟨some 17, _, _, _, _, _⟩) (v := _) rfl (by kernel_rfl) (by kernel_rfl) (by kernel_rfl) (fun _ _ _ h => h) (yieldsIf_load_mid (by rfl) _ (.tmp 5) rfl _ _ rfl (rcL q.num q.blk A2 n2 c2 D2 m2 e2) _ (fun W hW => range_below HRy.out hW (HLy.out)) rwSeal.ty rwSeal.row rwSeal.size) (by assumption) ?_
          try simp only [Act.put, List.setIfInBounds_toArray, List.set_cons_zero, List.set_cons_succ]
          refine wpAnyH_ready (rs := [5]) (by kernel_rfl) (by simp) ?_
          refine AllReadyH.cons (o := ⟨some 16, _, _, _, _, _⟩) rfl (fun K hK => ?_) AllReadyH.nil
          go_simp
          refine (reflong_as S1 r A n c D m e wS HN.out.1 HN.out.2.1 HS1.out).mono ?_
          rintro e w51 ⟨rfl, hb'⟩
          refine hK.out _ _ (hHeld.trans (hb'.mono hHeld.size)) (fun hHeld2 => ?_)
          clear hb'
          clear hK K hHeld
          have hHeld := hHeld2
          clear hHeld2
          try simp only [Act.put, List.setIfInBounds_toArray, List.set_cons_zero, List.set_cons_succ]
          refine wpAnyH_ready (rs := [7]) (by kernel_rfl) (by simp) ?_
          refine AllReadyH.cons (o := ⟨some 18, _, _, _, _, _⟩) rfl (fun K hK => ?_) AllReadyH.nil
          go_simp
          refine (reflong_as S2 q A2 n2 c2 D2 m2 e2 w51 HN.out.2.2.1 HN.out.2.2.2 HS2.out).mono ?_
          rintro e w52 ⟨rfl, hb'⟩
          refine hK.out _ _ (hHeld.trans (hb'.mono hHeld.size)) (fun hHeld2 => ?_)
          clear hb'
          clear hK K hHeld
          have hHeld := hHeld2
          clear hHeld2
          try simp only [Act.put, List.setIfInBounds_toArray, List.set_cons_zero, List.set_cons_succ]
          refine wpAnyH_take (i := 8) (oi := ⟨some 19, _, _, _, _, _⟩) (v := ?_) rfl (by kernel_rfl) (by kernel_rfl) (by kernel_rfl) (fun _ _ _ h => h) (Or.inl ⟨by rfl, by intro w hSw; go_simp; try rfl⟩) (by assumption) ?_
          try simp only [Act.put, List.setIfInBounds_toArray, List.set_cons_zero, List.set_cons_succ]
          refine wpAnyH_take (i := 9) (oi := ⟨some 20, _, _, _, _, _⟩) (v := ?_) rfl (by kernel_rfl) (by kernel_rfl) (by kernel_rfl) (fun _ _ _ h => h) (Or.inl ⟨by rfl, by intro w hSw; go_simp; try rfl⟩) (by assumption) ?_
          try simp only [Act.put, List.setIfInBounds_toArray, List.set_cons_zero, List.set_cons_succ]
          refine wpAnyH_take (i := 10) (oi := ⟨some 21, _, _, _, _, _⟩) (v := ?_) rfl (by kernel_rfl) (by kernel_rfl) (by kernel_rfl) (fun _ _ _ h => h) (Or.inl ⟨by rfl, by intro w hSw; go_simp; try rfl⟩) (by assumption) ?_
          try simp only [Act.put, List.setIfInBounds_toArray, List.set_cons_zero, List.set_cons_succ]
          refine wpAnyH_take (i := 11) (oi := ⟨some 22, _, _, _, _, _⟩) (v := ?_) rfl (by kernel_rfl) (by kernel_rfl) (by kernel_rfl) (fun _ _ _ h => h) (Or.inl ⟨by rfl, by intro w hSw; go_simp; try rfl⟩) (by assumption) ?_
          try simp only [Act.put, List.setIfInBounds_toArray, List.set_cons_zero, List.set_cons_succ]
          refine wpAnyH_take (i := 12) (oi := ⟨some 23, _, _, _, _, _⟩) (v := _) rfl (by kernel_rfl) (by kernel_rfl) (by kernel_rfl) (fun _ _ _ h => h) (yieldsIf_load_mid (by rfl) _ (.tmp 4) rfl _ _ rfl (rcL r.num r.blk A n c D m e) _ (fun W hW => range_below HRx.out hW (HLx.out)) rwSeal.ty rwSeal.row rwSeal.size) (by assumption) ?_
          try simp only [Act.put, List.setIfInBounds_toArray, List.set_cons_zero, List.set_cons_succ]
          refine wpAnyH_ready (rs := [13]) (by kernel_rfl) (by simp) ?_
          refine AllReadyH.cons (o := ⟨some 24, _, _, _, _, _⟩) rfl (fun K hK => ?_) AllReadyH.nil
          go_simp
          refine (refright_as false r A n c D m e w52 (HRv.out w52 hHeld) HNs.out.1 HTr.out).mono ?_
          rintro e w53 ⟨rfl, hb'⟩
          refine hK.out _ _ (hHeld.trans (hb'.mono hHeld.size)) (fun hHeld2 => ?_)
          clear hb'
          clear hK K hHeld
          have hHeld := hHeld2
          clear hHeld2
          try simp only [Act.put, List.setIfInBounds_toArray, List.set_cons_zero, List.set_cons_succ]
          refine wpAnyH_take (i := 14) (oi := ⟨some 25, _, _, _, _, _⟩) (v := ?_) rfl (by kernel_rfl) (by kernel_rfl) (by kernel_rfl) (fun _ _ _ h => h) (Or.inl ⟨by rfl, by intro w hSw; go_simp; try rfl⟩) (by assumption) ?_
          try simp only [Act.put, List.setIfInBounds_toArray, List.set_cons_zero, List.set_cons_succ]
          refine wpAnyH_take (i := 15) (oi := ⟨some 26, _, _, _, _, _⟩) (v := ?_) rfl (by kernel_rfl) (by kernel_rfl) (by kernel_rfl) (fun _ _ _ h => h) (Or.inl ⟨by rfl, by intro w hSw; go_simp; try rfl⟩) (by assumption) ?_
          try simp only [Act.put, List.setIfInBounds_toArray, List.set_cons_zero, List.set_cons_succ]
          refine wpAnyH_take (i := 16) (oi := ⟨some 27, _, _, _, _, _⟩) (v := ?_) rfl (by kernel_rfl) (by kernel_rfl) (by kernel_rfl) (fun _ _ _ h => h) (Or.inl ⟨by rfl, by intro w hSw; go_simp; try rfl⟩) (by assumption) ?_
          try simp only [Act.put, List.setIfInBounds_toArray, List.set_cons_zero, List.set_cons_succ]
          refine wpAnyH_take (i := 17) (oi := ⟨some 28, _, _, _, _, _⟩) (v := undef) rfl (by kernel_rfl) (by kernel_rfl) (by kernel_rfl) (fun _ _ _ h => h) (Or.inr ⟨by rfl, rfl⟩) (by assumption) ?_
          try simp only [Act.put, List.setIfInBounds_toArray, List.set_cons_zero, List.set_cons_succ]
          refine wpAnyH_take (i := 18) (oi := ⟨some 29, _, _, _, _, _⟩) (v := undef) rfl (by kernel_rfl) (by kernel_rfl) (by kernel_rfl) (fun _ _ _ h => h) (Or.inr ⟨by rfl, rfl⟩) (by assumption) ?_
          try simp only [Act.put, List.setIfInBounds_toArray, List.set_cons_zero, List.set_cons_succ]
          refine wpAnyH_take (i := 19) (oi := ⟨some 30, _, _, _, _, _⟩) (v := undef) rfl (by kernel_rfl) (by kernel_rfl) (by kernel_rfl) (fun _ _ _ h => h) (Or.inr ⟨by rfl, rfl⟩) (by assumption) ?_
          try simp only [Act.put, List.setIfInBounds_toArray, List.set_cons_zero, List.set_cons_succ]
          refine wpAnyH_take (i := 20) (oi := ⟨some 31, _, _, _, _, _⟩) (v := ?_) rfl (by kernel_rfl) (by kernel_rfl) (by kernel_rfl) (fun _ _ _ h => h) (Or.inl ⟨by rfl, by intro w hSw; go_simp; try rfl⟩) (by assumption) ?_
          try simp only [Act.put, List.setIfInBounds_toArray, List.set_cons_zero, List.set_cons_succ]
          refine wpAnyH_done (by kernel_rfl) ?_ _
          have HWe : Kp _ := ⟨hHeld⟩
          clear hHeld
          go_wp2_with fail
          go_meet
          case rel => exact ⟨true, rfl, ⟨fun h => by cases h⟩, HWe⟩
  case rest =>
    obtain ⟨bb, rfl, HC, HW⟩ := hcut
    have HB3 : Kp (Below w.heap.size w wc) := ⟨HB2.out.trans (HW.out.mono HB2.out.size)⟩
    cases bb
    · obtain ⟨hk100, hs15, ht, htq⟩ := HC.out rfl
      have HT : Kp _ := ⟨ht⟩
      have HTq : Kp _ := ⟨htq⟩
      have HK100 : Kp _ := ⟨hk100⟩
      have HSm : Kp (n ≤ 1500 ∧ m ≤ 50 ∧ n2 ≤ 1500 ∧ m2 ≤ 50) := ⟨by have := HS1.out; have := HS2.out; omega⟩
      have HX3 : Kp _ := ⟨HX.out.below HW.out HLx.out⟩
      have HY3 : Kp _ := ⟨HY.out.below HW.out HLy.out⟩
      have HR3 : Kp _ := ⟨HRv.out wc HW.out⟩
      have HQ3 : Kp _ := ⟨HQv.out wc HW.out⟩
      have HKy3 : Kp _ := ⟨HKv.out wc HW.out⟩
      have HLn : Kp (r.sl.length = n ∧ r.su.length = m) := ⟨HR3.out.sl.len, HR3.out.su.len⟩
      obtain ⟨b, hb⟩ : ∃ b : Nat, r.blk = (b : Int) := ⟨r.blk.toNat, by have := ht.lo; omega⟩
      have HBk4 : Kp (b ≤ 4096 ∧ n = (b + 7) / 8 ∧ m = (b + 15) / 16) := ⟨by have h1 := ht.hi; have h2 := ht.sl; have h3 := ht.su; have h4 := HLn.out; rw [hb] at h2 h3; simp only [Int.toNat_natCast] at h2 h3; omega⟩
      obtain ⟨N1, hN1⟩ : ∃ N, (encL key r).length = N := ⟨_, rfl⟩
      obtain ⟨N2, hN2⟩ : ∃ N, (encL key q).length = N := ⟨_, rfl⟩
      have HN1 : Kp (N1 = 48 + n + 32 * m) := ⟨by rw [← hN1, encL_len key r (rg_of HR3.out), HLn.out.1, HLn.out.2]⟩
      have HE1 : Kp _ := ⟨hN1⟩
      have HE2 : Kp _ := ⟨hN2⟩
      have HBk : Kp _ := ⟨hb⟩
      clear ht htq hk100 hs15 hN1 hN2 hb HC HX HY HRv HQv HKv HRx HRy HLx HLy wS
      go_wp2_with (with_reducible refine wpList_loadAll (o := ⟨some 35, _, _, _, _, _⟩) rwSeal rfl (.tmp 4) rfl rfl HX3.out rfl ?_)
      refine (encode_yes key KA kn kc r A n c D m e wc HKy3.out HR3.out (by have := HK100.out; omega) HT.out N1 HE1.out).mono ?_
      rintro x w4 ⟨Aa, ca, rfl, hba, hb4⟩
      have HX4 : Kp _ := ⟨HX3.out.below hb4 HX3.out.lt⟩
      have HY4 : Kp _ := ⟨HY3.out.below hb4 HY3.out.lt⟩
      have HR4 : Kp _ := ⟨HR3.out.next hb4 (Nat.le_refl _)⟩
      have HQ4 : Kp _ := ⟨HQ3.out.next hb4 (Nat.le_refl _)⟩
      have HKy4 : Kp _ := ⟨HKy3.out.next hb4 (Nat.le_refl _)⟩
      have HA4 : Kp _ := ⟨hba⟩
      have HB4 : Kp (Below w.heap.size w w4) := ⟨HB3.out.trans (hb4.mono HB3.out.size)⟩
      clear hba hb4 HX3 HY3 HR3 HQ3 HKy3 HB3 HW
      go_wp2_with (with_reducible refine wpList_loadAll (o := ⟨some 41, _, _, _, _, _⟩) rwSeal rfl (.tmp 5) rfl rfl HY4.out rfl ?_)
      refine (encode_yes key KA kn kc q A2 n2 c2 D2 m2 e2 w4 HKy4.out HQ4.out (by have := HK100.out; omega) HTq.out N2 HE2.out).mono ?_
      rintro x w5 ⟨Ab, cb, rfl, hbb, hb5⟩
      have HX5 : Kp _ := ⟨HX4.out.below hb5 HX4.out.lt⟩
      have HY5 : Kp _ := ⟨HY4.out.below hb5 HY4.out.lt⟩
      have HB5 : Kp (Below w.heap.size w w5) := ⟨HB4.out.trans (hb5.mono HB4.out.size)⟩
      have HRv : Kp (∀ W, Below w5.heap.size w5 W → Rs W W.heap.size A n c D m e r) := ⟨fun W h => HR4.out.next (hb5.trans (h.mono hb5.size)) (Nat.le_refl _)⟩
      have HQv : Kp (∀ W, Below w5.heap.size w5 W → Rs W W.heap.size A2 n2 c2 D2 m2 e2 q) := ⟨fun W h => HQ4.out.next (hb5.trans (h.mono hb5.size)) (Nat.le_refl _)⟩
      have HAv : Kp (∀ W, Below w5.heap.size w5 W → Bs W W.heap.size Aa N1 ca (encL key r)) := ⟨fun W h => HA4.out.next (hb5.trans (h.mono hb5.size)) (Nat.le_refl _)⟩
      have HBv : Kp (∀ W, Below w5.heap.size w5 W → Bs W W.heap.size Ab N2 cb (encL key q)) := ⟨fun W h => (⟨hbb⟩ : Kp _).out.next h (Nat.le_refl _)⟩
      have HRx : Kp _ := ⟨Blk.range (off := 0) (n := 4) HX5.out rfl⟩
      have HRy : Kp _ := ⟨Blk.range (off := 0) (n := 4) HY5.out rfl⟩
      have HLx : Kp _ := ⟨HX5.out.lt⟩
      have HLy : Kp _ := ⟨HY5.out.lt⟩
      have HXb : Kp (Blk w5 w.heap.size 26 (rcL r.num (b : Int) A n c D m e)) := ⟨by rw [← HBk.out]; exact HX5.out⟩
      have HTk : Kp ((encL key r).take 4 = [83, 69, 65, 76]) := ⟨by simp [encL, bodyL, markL]⟩
      have HEq : Kp ((encL key r == encL key q) = sameB r q) := ⟨enc_inj (rg_of HR4.out) (rg_of HQ4.out) HT.out HTq.out⟩
      have HN14 : Kp (4 ≤ N1 ∧ N1 ≤ ca) := ⟨by have := HN1.out; omega, HA4.out.cap⟩
      obtain ⟨M, hM⟩ : ∃ M, (b + 15) / 16 = M := ⟨_, rfl⟩
      have HMM : Kp _ := ⟨hM⟩
      have hb4 : b ≤ 4096 := HBk4.out.1
      have hn1 : N1 = 48 + (b + 7) / 8 + 32 * M := by have := HN1.out; have := HBk4.out; omega
      obtain ⟨G, hG⟩ : ∃ G, (b + 7) / 8 = G := ⟨_, rfl⟩
      rw [hG] at hn1
      have hGb : G ≤ 512 ∧ M ≤ 256 := by omega
      obtain ⟨H, hH⟩ : ∃ H, H = 48 + G := ⟨_, rfl⟩
      obtain ⟨b7, hb7⟩ : ∃ x, x = b + 7 := ⟨_, rfl⟩
      obtain ⟨M5, hM5⟩ : ∃ x, x = 32 * M := ⟨_, rfl⟩
      have g0 : IntKind.i64.wrap ((b : Int) + 7) = (b7 : Int) := by rw [IntKind.wrap_i64]; omega
      have g1 : ((b7 : Int)).tdiv 8 = (G : Int) := by rw [Int.tdiv_eq_ediv_of_nonneg (by omega)]; omega
      have g1' : (b7 : Int) / 8 = (G : Int) := by omega
      have g2 : IntKind.i64.wrap (G : Int) = (G : Int) := by rw [IntKind.wrap_i64]; omega
      have g3 : IntKind.i64.wrap (48 + (G : Int)) = (H : Int) := by rw [IntKind.wrap_i64]; omega
      have g5 : IntKind.i64.wrap (32 * (M : Int)) = (M5 : Int) := by rw [IntKind.wrap_i64]; omega
      have g4 : IntKind.i64.wrap ((H : Int) + (M5 : Int)) = (N1 : Int) := by rw [IntKind.wrap_i64]; omega
      clear hbb hb5 HX4 HY4 HR4 HQ4 HKy4 HA4 HB4 HN1 hM hG hn1 hGb hb4 hH hb7 hM5
      go_wp2_with fail
      go_cut [71] from 45 to 70 (fun v71 wx => v71 = .bool false ∧ Kp (Below w5.heap.size w5 wx))
      case first =>
        go_wp2_with fail
        refine wp_region_held_drew (S := fun W => Below w5.heap.size w5 W) (by kernel_rfl) ((Below.refl _ _).drew) (fun hHeld => ?_)
        generalize w5.drew = wS at *
        refine wpAnyH_take (i := 0) (oi := ⟨some 45, _, _, _, _, _⟩) (v := ?_) rfl (by kernel_rfl) (by kernel_rfl) (by kernel_rfl) (fun _ _ _ h => h) (Or.inl ⟨by rfl, by intro w hSw; go_simp; try rfl⟩) (by assumption) ?_
        try simp only [Act.put, List.setIfInBounds_toArray, List.set_cons_zero, List.set_cons_succ]
        refine wpAnyH_take (i := 1) (oi := ⟨some 46, _, _, _, _, _⟩) (v := ?_) rfl (by kernel_rfl) (by kernel_rfl) (by kernel_rfl) (fun _ _ _ h => h) (Or.inl ⟨by rfl, by intro w hSw; go_simp; try rfl⟩) (by assumption) ?_
        try simp only [Act.put, List.setIfInBounds_toArray, List.set_cons_zero, List.set_cons_succ]
        refine wpAnyH_take (i := 2) (oi := ⟨some 47, _, _, _, _, _⟩) (v := ?_) rfl (by kernel_rfl) (by kernel_rfl) (by kernel_rfl) (fun _ _ _ h => h) (Or.inl ⟨by rfl, by intro w hSw; go_simp; try rfl⟩) (by assumption) ?_
        try simp only [Act.put, List.setIfInBounds_toArray, List.set_cons_zero, List.set_cons_succ]
        refine wpAnyH_take (i := 3) (oi := ⟨some 48, _, _, _, _, _⟩) (v := ?_) rfl (by kernel_rfl) (by kernel_rfl) (by kernel_rfl) (fun _ _ _ h => h) (Or.inl ⟨by rfl, by intro w hSw; go_simp; try rfl⟩) (by assumption) ?_
        try simp only [Act.put, List.setIfInBounds_toArray, List.set_cons_zero, List.set_cons_succ]
        refine wpAnyH_take (i := 4) (oi := ⟨some 49, _, _, _, _, _⟩) (v := ?_) rfl (by kernel_rfl) (by kernel_rfl) (by kernel_rfl) (fun _ _ _ h => h) (Or.inl ⟨by rfl, by intro w hSw; go_simp; try rfl⟩) (by assumption) ?_
        try simp only [Act.put, List.setIfInBounds_toArray, List.set_cons_zero, List.set_cons_succ]
        refine wpAnyH_take (i := 5) (oi := ⟨some 50, _, _, _, _, _⟩) (v := ?_) rfl (by kernel_rfl) (by kernel_rfl) (by kernel_rfl) (fun _ _ _ h => h) (Or.inl ⟨by rfl, by intro w hSw; go_simp; try rfl⟩) (by assumption) ?_
        try simp only [Act.put, List.setIfInBounds_toArray, List.set_cons_zero, List.set_cons_succ]
        refine wpAnyH_take (i := 6) (oi := ⟨some 51, _, _, _, _, _⟩) (v := ?_) rfl (by kernel_rfl) (by kernel_rfl) (by kernel_rfl) (fun _ _ _ h => h) (Or.inl ⟨by rfl, by intro w hSw; go_simp; try rfl⟩) (by assumption) ?_
        try simp only [Act.put, List.setIfInBounds_toArray, List.set_cons_zero, List.set_cons_succ]
        refine wpAnyH_take (i := 7) (oi := ⟨some 52, _, _, _, _, _⟩) (v := ?_) rfl (by kernel_rfl) (by kernel_rfl) (by kernel_rfl) (fun _ _ _ h => h) (Or.inl ⟨by rfl, by intro w hSw; go_simp; try rfl⟩) (by assumption) ?_
        try simp only [Act.put, List.setIfInBounds_toArray, List.set_cons_zero, List.set_cons_succ]
        refine wpAnyH_take (i := 8) (oi := ⟨some 53, _, _, _, _, _⟩) (v := ?_) rfl (by kernel_rfl) (by kernel_rfl) (by kernel_rfl) (fun _ _ _ h => h) (Or.inl ⟨by rfl, by intro w hSw; go_simp; try rfl⟩) (by assumption) ?_
        try simp only [Act.put, List.setIfInBounds_toArray, List.set_cons_zero, List.set_cons_succ]
        refine wpAnyH_take (i := 9) (oi := ⟨some 54, _, _, _, _, _⟩) (v := ?_) rfl (by kernel_rfl) (by kernel_rfl) (by kernel_rfl) (fun _ _ _ h => h) (Or.inl ⟨by rfl, by intro w hSw; go_simp; try rfl⟩) (by assumption) ?_
        try simp only [Act.put, List.setIfInBounds_toArray, List.set_cons_zero, List.set_cons_succ]
        refine wpAnyH_take (i := 10) (oi := ⟨some 55, _, _, _, _, _⟩) (v := _) rfl (by kernel_rfl) (by kernel_rfl) (by kernel_rfl) (fun _ _ _ h => h) (Or.inl ⟨by rfl, fun W hW => by have ce : W.cell? ⟨w.heap.size, 1, none⟩ = some (.int .i64 b) := (hW.cell (p := ⟨w.heap.size, 1, none⟩) (HLx.out)).trans (HXb.out.cell? 1); go_simp; try rfl⟩) (by assumption) ?_
        try simp only [Act.put, List.setIfInBounds_toArray, List.set_cons_zero, List.set_cons_succ]
        refine wpAnyH_take (i := 11) (oi := ⟨some 56, _, _, _, _, _⟩) (v := ?_) rfl (by kernel_rfl) (by kernel_rfl) (by kernel_rfl) (fun _ _ _ h => h) (Or.inl ⟨by rfl, by intro w hSw; go_simp; try rfl⟩) (by assumption) ?_
        try simp only [Act.put, List.setIfInBounds_toArray, List.set_cons_zero, List.set_cons_succ]
        refine wpAnyH_take (i := 12) (oi := ⟨some 57, _, _, _, _, _⟩) (v := ?_) rfl (by kernel_rfl) (by kernel_rfl) (by kernel_rfl) (fun _ _ _ h => h) (Or.inl ⟨by rfl, by intro w hSw; go_simp; try rfl⟩) (by assumption) ?_
        try simp only [Act.put, List.setIfInBounds_toArray, List.set_cons_zero, List.set_cons_succ]
        refine wpAnyH_take (i := 13) (oi := ⟨some 58, _, _, _, _, _⟩) (v := ?_) rfl (by kernel_rfl) (by kernel_rfl) (by kernel_rfl) (fun _ _ _ h => h) (Or.inl ⟨by rfl, by intro w hSw; go_simp; try rfl⟩) (by assumption) ?_
        try simp only [Act.put, List.setIfInBounds_toArray, List.set_cons_zero, List.set_cons_succ]
        refine wpAnyH_take (i := 14) (oi := ⟨some 59, _, _, _, _, _⟩) (v := ?_) rfl (by kernel_rfl) (by kernel_rfl) (by kernel_rfl) (fun _ _ _ h => h) (Or.inl ⟨by rfl, by intro w hSw; go_simp; try rfl⟩) (by assumption) ?_
        try simp only [Act.put, List.setIfInBounds_toArray, List.set_cons_zero, List.set_cons_succ]
        refine wpAnyH_take (i := 15) (oi := ⟨some 60, _, _, _, _, _⟩) (v := _) rfl (by kernel_rfl) (by kernel_rfl) (by kernel_rfl) (fun _ _ _ h => h) (Or.inl ⟨by rfl, fun W hW => by have ce : W.cell? ⟨w.heap.size, 1, none⟩ = some (.int .i64 b) := (hW.cell (p := ⟨w.heap.size, 1, none⟩) (HLx.out)).trans (HXb.out.cell? 1); go_simp; try rfl⟩) (by assumption) ?_
        try simp only [Act.put, List.setIfInBounds_toArray, List.set_cons_zero, List.set_cons_succ]
        refine wpAnyH_ready (rs := [16]) (by kernel_rfl) (by simp) ?_
        refine AllReadyH.cons (o := ⟨some 61, _, _, _, _, _⟩) rfl (fun K hK => ?_) AllReadyH.nil
        go_simp
        refine (p16b_any b M wS (by have := HBk4.out.1; omega) HMM.out).mono ?_
        rintro e w51 ⟨rfl, hb'⟩
        refine hK.out _ _ (hHeld.trans (hb'.mono hHeld.size)) (fun hHeld2 => ?_)
        clear hb'
        clear hK K hHeld
        have hHeld := hHeld2
        clear hHeld2
        try simp only [Act.put, List.setIfInBounds_toArray, List.set_cons_zero, List.set_cons_succ]
        refine wpAnyH_take (i := 17) (oi := ⟨some 62, _, _, _, _, _⟩) (v := ?_) rfl (by kernel_rfl) (by kernel_rfl) (by kernel_rfl) (fun _ _ _ h => h) (Or.inl ⟨by rfl, by intro w hSw; go_simp; try rfl⟩) (by assumption) ?_
        try simp only [Act.put, List.setIfInBounds_toArray, List.set_cons_zero, List.set_cons_succ]
        refine wpAnyH_take (i := 18) (oi := ⟨some 63, _, _, _, _, _⟩) (v := ?_) rfl (by kernel_rfl) (by kernel_rfl) (by kernel_rfl) (fun _ _ _ h => h) (Or.inl ⟨by rfl, by intro w hSw; go_simp; try rfl⟩) (by assumption) ?_
        try simp only [Act.put, List.setIfInBounds_toArray, List.set_cons_zero, List.set_cons_succ]
        refine wpAnyH_take (i := 19) (oi := ⟨some 64, _, _, _, _, _⟩) (v := ?_) rfl (by kernel_rfl) (by kernel_rfl) (by kernel_rfl) (fun _ _ _ h => h) (Or.inl ⟨by rfl, by intro w hSw; go_simp; try rfl⟩) (by assumption) ?_
        try simp only [Act.put, List.setIfInBounds_toArray, List.set_cons_zero, List.set_cons_succ]
        refine wpAnyH_take (i := 20) (oi := ⟨some 65, _, _, _, _, _⟩) (v := ?_) rfl (by kernel_rfl) (by kernel_rfl) (by kernel_rfl) (fun _ _ _ h => h) (Or.inl ⟨by rfl, by intro w hSw; go_simp; try rfl⟩) (by assumption) ?_
        try simp only [Act.put, List.setIfInBounds_toArray, List.set_cons_zero, List.set_cons_succ]
        refine wpAnyH_take (i := 21) (oi := ⟨some 66, _, _, _, _, _⟩) (v := ?_) rfl (by kernel_rfl) (by kernel_rfl) (by kernel_rfl) (fun _ _ _ h => h) (Or.inl ⟨by rfl, by intro w hSw; go_simp; try rfl⟩) (by assumption) ?_
        try simp only [Act.put, List.setIfInBounds_toArray, List.set_cons_zero, List.set_cons_succ]
        refine wpAnyH_take (i := 22) (oi := ⟨some 67, _, _, _, _, _⟩) (v := ?_) rfl (by kernel_rfl) (by kernel_rfl) (by kernel_rfl) (fun _ _ _ h => h) (Or.inl ⟨by rfl, by intro w hSw; go_simp; try rfl⟩) (by assumption) ?_
        try simp only [Act.put, List.setIfInBounds_toArray, List.set_cons_zero, List.set_cons_succ]
        refine wpAnyH_take (i := 23) (oi := ⟨some 68, _, _, _, _, _⟩) (v := _) rfl (by kernel_rfl) (by kernel_rfl) (by kernel_rfl) (fun _ _ _ h => h) (yieldsIf_cut_h (by rfl) el8 (.tmp 67) _ rfl rfl rfl 4 rfl (Nat.le_trans HN14.out.1 HN14.out.2)) (by assumption) ?_
        try simp only [Act.put, List.setIfInBounds_toArray, List.set_cons_zero, List.set_cons_succ]
        refine wpAnyH_take (i := 24) (oi := ⟨some 69, _, _, _, _, _⟩) (v := _) rfl (by kernel_rfl) (by kernel_rfl) (by kernel_rfl) (fun _ _ _ h => h) (Or.inl ⟨by rfl, fun W hW => by have te := ((HAv.out W hW).head HN14.out.1).text Try.underlying22 Try.underlying5 Try.underlying9; rw [HTk.out] at te; go_simp; try rfl⟩) (by assumption) ?_
        try simp only [Act.put, List.setIfInBounds_toArray, List.set_cons_zero, List.set_cons_succ]
        refine wpAnyH_take (i := 25) (oi := ⟨some 70, _, _, _, _, _⟩) (v := ?_) rfl (by kernel_rfl) (by kernel_rfl) (by kernel_rfl) (fun _ _ _ h => h) (Or.inl ⟨by rfl, by intro w hSw; go_simp; try rfl⟩) (by assumption) ?_
        try simp only [Act.put, List.setIfInBounds_toArray, List.set_cons_zero, List.set_cons_succ]
        refine wpAnyH_take (i := 26) (oi := ⟨some 71, _, _, _, _, _⟩) (v := ?_) rfl (by kernel_rfl) (by kernel_rfl) (by kernel_rfl) (fun _ _ _ h => h) (Or.inl ⟨by rfl, by intro w hSw; go_simp; try rfl⟩) (by assumption) ?_
        try simp only [Act.put, List.setIfInBounds_toArray, List.set_cons_zero, List.set_cons_succ]
        refine wpAnyH_done (by kernel_rfl) ?_ _
        have HWe : Kp _ := ⟨hHeld⟩
        clear hHeld
        go_wp2_with fail
        go_meet
        case rel => exact ⟨rfl, HWe⟩
      case rest =>
        obtain ⟨rfl, HW⟩ := hcut
        clear g0 g1 g1' g2 g3 g4 g5
        have HXc : Kp _ := ⟨HX5.out.below HW.out HLx.out⟩
        have HYc : Kp _ := ⟨HY5.out.below HW.out HLy.out⟩
        have HRxc : Kp _ := ⟨Blk.range (off := 0) (n := 4) HXc.out rfl⟩
        have HRyc : Kp _ := ⟨Blk.range (off := 0) (n := 4) HYc.out rfl⟩
        have HLxc : Kp _ := ⟨HXc.out.lt⟩
        have HLyc : Kp _ := ⟨HYc.out.lt⟩
        have HBc : Kp (Below w.heap.size w wc) := ⟨HB5.out.trans (HW.out.mono HB5.out.size)⟩
        obtain ⟨sb, hsb⟩ : ∃ s, sameB r q = s := ⟨_, rfl⟩
        rw [hsb] at HEq
        have HSb : Kp _ := ⟨hsb⟩
        clear hsb
        go_wp2_with fail
        refine wp_region_held_drew (S := fun W => Below wc.heap.size wc W) (by kernel_rfl) ((Below.refl _ _).drew) (fun hHeld => ?_)
        generalize wc.drew = wS at *
        refine wpAnyH_take (i := 0) (oi := ⟨some 72, _, _, _, _, _⟩) (v := ?_) rfl (by kernel_rfl) (by kernel_rfl) (by kernel_rfl) (fun _ _ _ h => h) (Or.inl ⟨by rfl, by intro w hSw; go_simp; try rfl⟩) (by assumption) ?_
        try simp only [Act.put, List.setIfInBounds_toArray, List.set_cons_zero, List.set_cons_succ]
        refine wpAnyH_take (i := 1) (oi := ⟨some 73, _, _, _, _, _⟩) (v := ?_) rfl (by kernel_rfl) (by kernel_rfl) (by kernel_rfl) (fun _ _ _ h => h) (Or.inl ⟨by rfl, by intro w hSw; go_simp; try rfl⟩) (by assumption) ?_
        try simp only [Act.put, List.setIfInBounds_toArray, List.set_cons_zero, List.set_cons_succ]
        refine wpAnyH_take (i := 3) (oi := ⟨some 75, _, _, _, _, _⟩) (v := _) rfl (by kernel_rfl) (by kernel_rfl) (by kernel_rfl) (fun _ _ _ h => h) (yieldsIf_load_mid (by rfl) _ (.tmp 4) rfl _ _ rfl (rcL r.num r.blk A n c D m e) _ (fun W hW => range_below HRxc.out hW (HLxc.out)) rwSeal.ty rwSeal.row rwSeal.size) (by assumption) ?_
        try simp only [Act.put, List.setIfInBounds_toArray, List.set_cons_zero, List.set_cons_succ]
        refine wpAnyH_take (i := 4) (oi := ⟨some 76, _, _, _, _, _⟩) (v := _) rfl (by kernel_rfl) (by kernel_rfl) (by kernel_rfl) (fun _ _ _ h => h) (yieldsIf_load_mid (by rfl) _ (.tmp 5) rfl _ _ rfl (rcL q.num q.blk A2 n2 c2 D2 m2 e2) _ (fun W hW => range_below HRyc.out hW (HLyc.out)) rwSeal.ty rwSeal.row rwSeal.size) (by assumption) ?_
        try simp only [Act.put, List.setIfInBounds_toArray, List.set_cons_zero, List.set_cons_succ]
        refine wpAnyH_ready (rs := [2]) (by kernel_rfl) (by simp) ?_
        refine AllReadyH.cons (o := ⟨some 74, _, _, _, _, _⟩) rfl (fun K hK => ?_) AllReadyH.nil
        go_simp
        refine (same00_any sb Aa Ab N1 ca N2 cb _ _ wS (HAv.out wS (HW.out.trans (hHeld.mono HW.out.size))) (HBv.out wS (HW.out.trans (hHeld.mono HW.out.size))) HEq.out).mono ?_
        rintro e w51 ⟨rfl, hb'⟩
        refine hK.out _ _ (hHeld.trans (hb'.mono hHeld.size)) (fun hHeld2 => ?_)
        clear hb'
        clear hK K hHeld
        have hHeld := hHeld2
        clear hHeld2
        try simp only [Act.put, List.setIfInBounds_toArray, List.set_cons_zero, List.set_cons_succ]
        refine wpAnyH_ready (rs := [5]) (by kernel_rfl) (by simp) ?_
        refine AllReadyH.cons (o := ⟨some 77, _, _, _, _, _⟩) rfl (fun K hK => ?_) AllReadyH.nil
        go_simp
        refine (refsame_as sb r q A n c D m e A2 n2 c2 D2 m2 e2 w51 (HRv.out w51 (HW.out.trans (hHeld.mono HW.out.size))) (HQv.out w51 (HW.out.trans (hHeld.mono HW.out.size))) HSb.out).mono ?_
        rintro e w52 ⟨rfl, hb'⟩
        refine hK.out _ _ (hHeld.trans (hb'.mono hHeld.size)) (fun hHeld2 => ?_)
        clear hb'
        clear hK K hHeld
        have hHeld := hHeld2
        clear hHeld2
        try simp only [Act.put, List.setIfInBounds_toArray, List.set_cons_zero, List.set_cons_succ]
        refine wpAnyH_take (i := 6) (oi := ⟨some 78, _, _, _, _, _⟩) (v := ?_) rfl (by kernel_rfl) (by kernel_rfl) (by kernel_rfl) (fun _ _ _ h => h) (Or.inl ⟨by rfl, by intro w hSw; go_simp; try rfl⟩) (by assumption) ?_
        try simp only [Act.put, List.setIfInBounds_toArray, List.set_cons_zero, List.set_cons_succ]
        refine wpAnyH_take (i := 7) (oi := ⟨some 79, _, _, _, _, _⟩) (v := ?_) rfl (by kernel_rfl) (by kernel_rfl) (by kernel_rfl) (fun _ _ _ h => h) (Or.inl ⟨by rfl, by intro w hSw; go_simp; try rfl⟩) (by assumption) ?_
        try simp only [Act.put, List.setIfInBounds_toArray, List.set_cons_zero, List.set_cons_succ]
        refine wpAnyH_ready (rs := [8]) (by kernel_rfl) (by simp) ?_
        refine AllReadyH.cons (o := ⟨some 80, _, _, _, _, _⟩) rfl (fun K hK => ?_) AllReadyH.nil
        go_simp
        refine (known8_any w52).mono ?_
        rintro e w53 ⟨rfl, hb'⟩
        refine hK.out _ _ (hHeld.trans (hb'.mono hHeld.size)) (fun hHeld2 => ?_)
        clear hb'
        clear hK K hHeld
        have hHeld := hHeld2
        clear hHeld2
        try simp only [Act.put, List.setIfInBounds_toArray, List.set_cons_zero, List.set_cons_succ]
        refine wpAnyH_take (i := 9) (oi := ⟨some 81, _, _, _, _, _⟩) (v := ?_) rfl (by kernel_rfl) (by kernel_rfl) (by kernel_rfl) (fun _ _ _ h => h) (Or.inl ⟨by rfl, by intro w hSw; go_simp; try rfl⟩) (by assumption) ?_
        try simp only [Act.put, List.setIfInBounds_toArray, List.set_cons_zero, List.set_cons_succ]
        refine wpAnyH_take (i := 10) (oi := ⟨some 6, _, _, _, _, _⟩) (v := ?_) rfl (by kernel_rfl) (by kernel_rfl) (by kernel_rfl) (fun _ _ _ h => h) (Or.inl ⟨by rfl, by intro w hSw; go_simp; try rfl⟩) (by assumption) ?_
        try simp only [Act.put, List.setIfInBounds_toArray, List.set_cons_zero, List.set_cons_succ]
        refine wpAnyH_done (by kernel_rfl) ?_ _
        have HBe : Kp (Below w.heap.size w w53) := ⟨HBc.out.trans (hHeld.mono HBc.out.size)⟩
        clear hHeld
        go_wp2
        go_ret
        exact ⟨rfl, HBe.out⟩
    · go_wp2_with fail
      refine (known8_any wc).mono ?_
      rintro xk wk ⟨rfl, hbk⟩
      have HBk : Kp (Below w.heap.size w wk) := ⟨HB3.out.trans (hbk.mono HB3.out.size)⟩
      clear hbk
      go_wp2
      go_ret
      exact ⟨rfl, HBk.out⟩
end Go.Proofs.Ytadpfbjpkbpanaa
