/- The walk of SealFlips. -/
import Derived.Test.YtadpfbjpkbpanaaG13
import Derived.OpenShut
namespace Go.Proofs.Ytadpfbjpkbpanaa
open Go.RowKit

theorem u16_nat {z : Int} (h : (Lit.int .u16 z).wf = true) : ∃ k : Nat, z = (k : Int) ∧ k < 65536 := by
  have := bounds_u16 h
  exact ⟨z.toNat, by omega, by omega⟩
theorem slot_nat (r : Rc) (A : Option Addr) (n c : Nat) (D : Option Addr) (m e k S : Nat) (w : World) (hR : Rs w w.heap.size A n c D m e r) (hk : k < 65536) (hS : slotN r.sl k = S) :
    Calls Try.prog 17 #[rcV r A n c D m e, .int .i64 k] w fun x w' => x = .returned (.int .i64 (S : Nat)) ∧ Below w.heap.size w w' := by
  have h := slot_any r A n c D m e (k : Int) w hR (by omega)
  rwa [slotI_nat, hS] at h
theorem right_yes (r : Rc) (A : Option Addr) (n c : Nat) (D : Option Addr) (m e : Nat) (w : World) (hR : Rs w w.heap.size A n c D m e r) (ht : Rt r) :
    Calls Try.prog 15 #[rcV r A n c D m e] w fun x w' => x = .returned (.bool true) ∧ Below w.heap.size w w' := by
  have h := right_any r A n c D m e w hR
  rwa [decide_eq_true ht] at h
theorem same_as (b : Bool) (r q : Rc) (A : Option Addr) (n c : Nat) (D : Option Addr) (m e : Nat) (A' : Option Addr) (n' c' : Nat) (D' : Option Addr) (m' e' : Nat) (w : World) (hR : Rs w w.heap.size A n c D m e r) (hQ : Rs w w.heap.size A' n' c' D' m' e' q) (hb : sameB r q = b) :
    Calls Try.prog 22 #[rcV r A n c D m e, rcV q A' n' c' D' m' e'] w fun x w' => x = .returned (.bool b) ∧ Below w.heap.size w w' := by
  have h := samev_any r q A n c D m e A' n' c' D' m' e' w hR hQ
  rwa [hb] at h
theorem refsame_as (b : Bool) (r q : Rc) (A : Option Addr) (n c : Nat) (D : Option Addr) (m e : Nat) (A' : Option Addr) (n' c' : Nat) (D' : Option Addr) (m' e' : Nat) (w : World) (hR : Rs w w.heap.size A n c D m e r) (hQ : Rs w w.heap.size A' n' c' D' m' e' q) (hb : sameB r q = b) :
    Calls Try.prog 19 #[rcV r A n c D m e, rcV q A' n' c' D' m' e'] w fun x w' => x = .returned (.bool b) ∧ Below w.heap.size w w' := by
  have h := refsamev_any r q A n c D m e A' n' c' D' m' e' w hR hQ
  rwa [hb] at h

set_option maxRecDepth 100000 in
set_option maxHeartbeats 8000000 in
theorem law_sealFlips (r : Rc) (A : Option Addr) (n c : Nat) (D : Option Addr) (m e : Nat) (z1 z2 : Int) (w : World) (hR : Rs w w.heap.size A n c D m e r) (hn : n ≤ 140737488351232) (hm : m * 32 ≤ 140737488351232) (hz1 : (Lit.int .u16 z1).wf = true) (hz2 : (Lit.int .u16 z2).wf = true) :
    Calls Try.prog 7 #[rcV r A n c D m e, .int .u16 z1, .int .u16 z2] w fun x w' => x = .returned (.bool true) ∧ Below w.heap.size w w' := by
  obtain ⟨p1, rfl, hp1⟩ := u16_nat hz1
  obtain ⟨p2, rfl, hp2⟩ := u16_nat hz2
  have HR : Kp _ := ⟨hR⟩
  have HN : Kp _ := ⟨hn⟩
  have HM : Kp _ := ⟨hm⟩
  have HP1 : Kp _ := ⟨hp1⟩
  have HP2 : Kp _ := ⟨hp2⟩
  clear hR hn hm hz1 hz2 hp1 hp2
  go_enter Try.func7, Try.ntmps7
  go_wp2_with (with_reducible refine wpList_box (o := ⟨some 3, _, _, _, _, _⟩) (cs := rcL r.num r.blk A n c D m e) rfl (.tmp 0) rfl rfl ?_)
  intro w1 hk1 hb1 hs1
  have HK1 : Kp _ := ⟨hk1⟩
  have HB1 : Kp _ := ⟨hb1⟩
  have HR1 : Kp _ := ⟨HR.out.next hb1 (Nat.le_refl _)⟩
  clear hk1 hb1 hs1 HR
  go_wp2_with (with_reducible refine wpList_loadAll (o := ⟨some 11, _, _, _, _, _⟩) rwSeal rfl (.tmp 3) rfl rfl HK1.out rfl ?_)
  refine (reflong_any r A n c D m e w1 HN.out HM.out).mono ?_
  rintro x w2 ⟨rfl, hb2⟩
  have HK2 : Kp _ := ⟨HK1.out.below hb2 HK1.out.lt⟩
  have HR2 : Kp _ := ⟨HR1.out.next hb2 (Nat.le_refl _)⟩
  have HB2 : Kp (Below w.heap.size w w2) := ⟨HB1.out.trans (hb2.mono HB1.out.size)⟩
  clear hb2 HK1 HR1 HB1
  obtain ⟨S, hS⟩ : ∃ S, S = n + 32 * m := ⟨_, rfl⟩
  rw [← hS]
  by_cases hL : 1000 < S
  · have dL : decide ((1000 : Int) < (S : Int)) = true := decide_eq_true (by omega)
    clear hS
    go_wp2_with fail
    refine (known8_any w2).mono ?_
    rintro xk wk ⟨rfl, hbk⟩
    have HBk : Kp (Below w.heap.size w wk) := ⟨HB2.out.trans (hbk.mono HB2.out.size)⟩
    clear hbk
    go_wp2
    go_ret
    exact ⟨rfl, HBk.out⟩
  · have dL : decide ((1000 : Int) < (S : Int)) = false := decide_eq_false (by omega)
    have HS : Kp (n ≤ 1000 ∧ m ≤ 31) := ⟨by omega⟩
    clear hS
    go_wp2_with (with_reducible refine wpList_loadAll_g (o := ⟨some 15, _, _, _, _, _⟩) rwSeal (by kernel_rfl) (.tmp 3) rfl rfl HK2.out rfl ?_)
    refine (refright_any r A n c D m e w2 HR2.out (by have := HS.out; omega)).mono ?_
    rintro x w3 ⟨rfl, hb3⟩
    have HK3 : Kp _ := ⟨HK2.out.below hb3 HK2.out.lt⟩
    have HR3 : Kp _ := ⟨HR2.out.next hb3 (Nat.le_refl _)⟩
    have HB3 : Kp (Below w.heap.size w w3) := ⟨HB2.out.trans (hb3.mono HB2.out.size)⟩
    clear hb3 HK2 HR2 HB2
    by_cases ht : Rt r
    · have hd : decide (Rt r) = true := decide_eq_true ht
      rw [hd]
      have HT : Kp _ := ⟨ht⟩
      obtain ⟨b, hb⟩ : ∃ b : Nat, r.blk = (b : Int) := ⟨r.blk.toNat, by have := ht.lo; omega⟩
      have HBk4 : Kp (b ≤ 4096) := ⟨by have := ht.hi; omega⟩
      clear hd ht
      have c1 : w3.cell? ⟨w.heap.size, 1, none⟩ = some (.int .i64 b) := by rw [← hb]; exact HK3.out.cell? 1
      have HBk : Kp _ := ⟨hb⟩
      clear hb
      by_cases h0 : b = 0
      · have hb0 : ((b : Int) == 0) = true := by simp; omega
        clear h0
        go_wp2_with fail
        refine (known8_any w3).mono ?_
        rintro xk wk ⟨rfl, hbk⟩
        have HBk : Kp (Below w.heap.size w wk) := ⟨HB3.out.trans (hbk.mono HB3.out.size)⟩
        clear hbk
        go_wp2
        go_ret
        exact ⟨rfl, HBk.out⟩
      · have hb0 : ((b : Int) == 0) = false := by simp; omega
        obtain ⟨kx, hkx⟩ : ∃ kx, kx = p1 % b := ⟨_, rfl⟩
        obtain ⟨ox, hox⟩ : ∃ ox, ox = p2 % b := ⟨_, rfl⟩
        have hKb : kx < b := by rw [hkx]; exact Nat.mod_lt _ (by omega)
        have hOb : ox < b := by rw [hox]; exact Nat.mod_lt _ (by omega)
        have k1 : ((p1 : Int)).tmod (b : Int) = (kx : Int) := by rw [Int.tmod_eq_emod_of_nonneg (by omega), hkx]; omega
        have k2 : ((p2 : Int)).tmod (b : Int) = (ox : Int) := by rw [Int.tmod_eq_emod_of_nonneg (by omega), hox]; omega
        have k1' : (p1 : Int) % (b : Int) = (kx : Int) := by rw [hkx]; omega
        have k2' : (p2 : Int) % (b : Int) = (ox : Int) := by rw [hox]; omega
        have wp1 : IntKind.i64.wrap (p1 : Int) = (p1 : Int) := by rw [IntKind.wrap_i64]; have := HP1.out; omega
        have wp2 : IntKind.i64.wrap (p2 : Int) = (p2 : Int) := by rw [IntKind.wrap_i64]; have := HP2.out; omega
        have wK : IntKind.i64.wrap (kx : Int) = (kx : Int) := by rw [IntKind.wrap_i64]; have := HBk4.out; omega
        have wO : IntKind.i64.wrap (ox : Int) = (ox : Int) := by rw [IntKind.wrap_i64]; have := HBk4.out; omega
        have hbne : ¬ (b : Int) = 0 := by omega
        have HKb : Kp (kx < b ∧ (kx : Int) < r.blk ∧ kx < 65536) := ⟨hKb, by rw [HBk.out]; omega, by have := HBk4.out; omega⟩
        have HOb : Kp (ox < b ∧ ox < 65536) := ⟨hOb, by have := HBk4.out; omega⟩
        clear hkx hox hKb hOb h0
        go_wp2_with (with_reducible refine wpList_loadAll (o := ⟨some 35, _, _, _, _, _⟩) rwSeal rfl (.tmp 3) rfl rfl HK3.out rfl ?_)
        clear k1 k2 k1' k2' wp1 wp2 wK wO hbne hb0 c1
        refine (refflip_any r A n c D m e (-1) w3 HR3.out (by omega) (by have := HS.out; omega)).mono ?_
        rintro x w4 ⟨A4, c4, rfl, hr4, hb4⟩
        have hf : flipR r (-1) = r := by unfold flipR; rw [if_neg (by omega)]
        rw [hf] at hr4 ⊢
        have HK4 : Kp _ := ⟨HK3.out.below hb4 HK3.out.lt⟩
        have HR4 : Kp _ := ⟨HR3.out.next hb4 (Nat.le_refl _)⟩
        have HW4 : Kp _ := ⟨hr4⟩
        have HB4 : Kp (Below w.heap.size w w4) := ⟨HB3.out.trans (hb4.mono HB3.out.size)⟩
        clear hb4 hr4 hf HK3 HR3 HB3
        go_wp2_with (with_reducible refine wpList_alloc (o := ⟨some 9, _, _, _, _, _⟩) tySeal rfl rfl ?_)
        intro w5 hk5 hb5 hs5
        have HK5 : Kp _ := ⟨hk5⟩
        have HB5 : Kp _ := ⟨hb5⟩
        clear hk5 hb5 hs5
        go_wp2_with (with_reducible refine wpList_storeAll (o := ⟨none, _, _, _, _, _⟩) (vs := rcL r.num r.blk A4 n c4 D m e) rwSeal rfl (.tmp 9) (.tmp 36) rfl rfl HK5.out rfl rfl (rcL_one _ _ _ _ _ _ _ _) rfl ?_)
        intro w6 hk6 ho6
        have hb46 : Below w4.heap.size w4 w6 := HB5.out.trans (ho6.below (Nat.le_refl _))
        have HX6 : Kp _ := ⟨HK4.out.below hb46 HK4.out.lt⟩
        have HWas : Kp _ := ⟨hk6⟩
        have HR6 : Kp _ := ⟨HR4.out.next hb46 (Nat.le_refl _)⟩
        have HW6 : Kp _ := ⟨HW4.out.next hb46 (Nat.le_refl _)⟩
        have HB6 : Kp (Below w.heap.size w w6) := ⟨HB4.out.trans (hb46.mono HB4.out.size)⟩
        clear hk6 ho6 hb46 HK5 HB5 HK4 HR4 HW4 HB4
        go_wp2_with (with_reducible refine wpList_loadAll (o := ⟨some 37, _, _, _, _, _⟩) rwSeal rfl (.tmp 3) rfl rfl HX6.out rfl ?_)
        refine (flip_any r A n c D m e (kx : Int) w6 HR6.out (by have := HKb.out; omega) (by have := HS.out; omega) (by have := HS.out; omega)).mono ?_
        rintro x w7 ⟨A7, c7, D7, e7, rfl, hr7, hb7⟩
        obtain ⟨y, hy⟩ : ∃ y, y = flipR r (kx : Int) := ⟨_, rfl⟩
        have HY : Kp (y = ⟨r.num, r.blk, flipL r.sl kx, r.su⟩) := ⟨by rw [hy]; exact flipR_nat r kx HKb.out.2.1⟩
        have HYt : Kp (Rt y) := ⟨by rw [hy]; exact rt_flip HT.out HKb.out.2.1⟩
        have HYs : Kp (sameB r y = false) := ⟨by rw [hy]; exact same_flip HT.out HKb.out.2.1⟩
        have HYk : Kp (slotN y.sl kx = 1 - slotN r.sl kx) := ⟨by rw [HY.out]; exact flip_slot_eq (rt_byte HT.out HKb.out.2.1)⟩
        have HYo : Kp (ox ≠ kx → slotN y.sl ox = slotN r.sl ox) := ⟨fun h => by rw [HY.out]; exact flip_slot_ne (rt_byte HT.out HKb.out.2.1) h⟩
        have HYn : Kp (y.num = r.num) := ⟨by rw [HY.out]⟩
        rw [← hy] at hr7 ⊢
        have HX7 : Kp _ := ⟨HX6.out.below hb7 HX6.out.lt⟩
        have HWas7 : Kp _ := ⟨HWas.out.below hb7 HWas.out.lt⟩
        have HR7 : Kp _ := ⟨HR6.out.next hb7 (Nat.le_refl _)⟩
        have HW7 : Kp _ := ⟨HW6.out.next hb7 (Nat.le_refl _)⟩
        have HY7 : Kp _ := ⟨hr7⟩
        have HB7 : Kp (Below w.heap.size w w7) := ⟨HB6.out.trans (hb7.mono HB6.out.size)⟩
        clear hy hr7 hb7 HX6 HWas HR6 HW6 HB6 HY
        go_wp2_with (with_reducible refine wpList_alloc (o := ⟨some 10, _, _, _, _, _⟩) tySeal rfl rfl ?_)
        intro w8 hk8 hb8 hs8
        have HK8 : Kp _ := ⟨hk8⟩
        have HB8 : Kp _ := ⟨hb8⟩
        clear hk8 hb8 hs8
        go_wp2_with (with_reducible refine wpList_storeAll (o := ⟨none, _, _, _, _, _⟩) (vs := rcL y.num y.blk A7 n c7 D7 m e7) rwSeal rfl (.tmp 10) (.tmp 39) rfl rfl HK8.out rfl rfl (rcL_one _ _ _ _ _ _ _ _) rfl ?_)
        intro w9 hk9 ho9
        have hb79 : Below w7.heap.size w7 w9 := HB8.out.trans (ho9.below (Nat.le_refl _))
        have HX9 : Kp _ := ⟨HX7.out.below hb79 HX7.out.lt⟩
        have HWas9 : Kp _ := ⟨HWas7.out.below hb79 HWas7.out.lt⟩
        have HYx9 : Kp _ := ⟨hk9⟩
        have HR9 : Kp _ := ⟨HR7.out.next hb79 (Nat.le_refl _)⟩
        have HW9 : Kp _ := ⟨HW7.out.next hb79 (Nat.le_refl _)⟩
        have HY9 : Kp _ := ⟨HY7.out.next hb79 (Nat.le_refl _)⟩
        have HB9 : Kp (Below w.heap.size w w9) := ⟨HB7.out.trans (hb79.mono HB7.out.size)⟩
        have hss : sameB r r = true := sameB_rfl r
        have HRx : Kp _ := ⟨Blk.range (off := 0) (n := 4) HX9.out rfl⟩
        have HRw : Kp _ := ⟨Blk.range (off := 0) (n := 4) HWas9.out rfl⟩
        have HRy : Kp _ := ⟨Blk.range (off := 0) (n := 4) HYx9.out rfl⟩
        have HLx : Kp _ := ⟨HX9.out.lt⟩
        have HLw : Kp _ := ⟨HWas9.out.lt⟩
        have HLy : Kp _ := ⟨HYx9.out.lt⟩
        have HSv : Kp (∀ W, Below w9.heap.size w9 W → Rs W W.heap.size A n c D m e r) := ⟨fun W h => HR9.out.next h (Nat.le_refl _)⟩
        have HWv : Kp (∀ W, Below w9.heap.size w9 W → Rs W W.heap.size A4 n c4 D m e r) := ⟨fun W h => HW9.out.next h (Nat.le_refl _)⟩
        have HYv : Kp (∀ W, Below w9.heap.size w9 W → Rs W W.heap.size A7 n c7 D7 m e7 y) := ⟨fun W h => HY9.out.next h (Nat.le_refl _)⟩
        clear hk9 ho9 hb79 HK8 HB8 HX7 HWas7 HR7 HW7 HY7 HB7 HR9 HW9 HY9
        obtain ⟨s1, hs1⟩ : ∃ s, s = slotN r.sl kx := ⟨_, rfl⟩
        have hs12 : s1 < 2 := by rw [hs1]; exact slotN_lt _ _
        obtain ⟨s2, hs2⟩ : ∃ s, s = slotN r.sl ox := ⟨_, rfl⟩
        have HS1 : Kp (slotN r.sl kx = s1 ∧ slotN y.sl kx = 1 - s1 ∧ slotN r.sl ox = s2) := ⟨hs1.symm, by rw [hs1]; exact HYk.out, hs2.symm⟩
        have w1s : IntKind.i64.wrap (1 - (s1 : Int)) = ((1 - s1 : Nat) : Int) := by rw [IntKind.wrap_i64]; omega
        have HYo2 : Kp (ox ≠ kx → slotN y.sl ox = s2) := ⟨fun h => by rw [hs2]; exact HYo.out h⟩
        clear hs1 hs2 HYk HYo
        obtain ⟨t1, ht1⟩ : ∃ t, t = 1 - s1 := ⟨_, rfl⟩
        rw [← ht1] at HS1 w1s
        clear ht1 hs12
        by_cases hOK : ox = kx
        · have hok : ((ox : Int) == (kx : Int)) = true := by rw [hOK]; simp
          clear hOK HYo2
          go_wp2_with fail
          have HYx9' : Kp (Blk w9 w7.heap.size 26 (rcL r.num y.blk A7 n c7 D7 m e7)) := ⟨by rw [← HYn.out]; exact HYx9.out⟩
          refine wp_region_held_drew (S := fun W => Below w9.heap.size w9 W) (by kernel_rfl) ((Below.refl _ _).drew) (fun hHeld => ?_)
          generalize w9.drew = wS at *
          refine wpAnyH_take (i := 0) (oi := ⟨some 40, _, _, _, _, _⟩) (v := _) rfl (by kernel_rfl) (by kernel_rfl) (by kernel_rfl) (fun _ _ _ h => h) (yieldsIf_load_mid (by rfl) _ (.tmp 3) rfl _ _ rfl (rcL r.num r.blk A n c D m e) _ (fun W hW => range_below HRx.out hW (Nat.lt_of_lt_of_le HLx.out (Nat.le_refl _))) rwSeal.ty rwSeal.row rwSeal.size) (by assumption) ?_
          try simp only [Act.put, List.setIfInBounds_toArray, List.set_cons_zero, List.set_cons_succ]
          refine wpAnyH_take (i := 1) (oi := ⟨some 41, _, _, _, _, _⟩) (v := _) rfl (by kernel_rfl) (by kernel_rfl) (by kernel_rfl) (fun _ _ _ h => h) (yieldsIf_load_mid (by rfl) _ (.tmp 9) rfl _ _ rfl (rcL r.num r.blk A4 n c4 D m e) _ (fun W hW => range_below HRw.out hW (HLw.out)) rwSeal.ty rwSeal.row rwSeal.size) (by assumption) ?_
          try simp only [Act.put, List.setIfInBounds_toArray, List.set_cons_zero, List.set_cons_succ]
          refine wpAnyH_ready (rs := [2]) (by kernel_rfl) (by simp) ?_
          refine AllReadyH.cons (o := ⟨some 42, _, _, _, _, _⟩) rfl (fun K hK => ?_) AllReadyH.nil
          go_simp
          refine (refsame_as true r r A n c D m e A4 n c4 D m e wS (HSv.out wS hHeld) (HWv.out wS hHeld) (sameB_rfl r)).mono ?_
          rintro e w51 ⟨rfl, hb'⟩
          refine hK.out _ _ (hHeld.trans (hb'.mono hHeld.size)) (fun hHeld2 => ?_)
          clear hb'
          clear hK K hHeld
          have hHeld := hHeld2
          clear hHeld2
          try simp only [Act.put, List.setIfInBounds_toArray, List.set_cons_zero, List.set_cons_succ]
          refine wpAnyH_take (i := 3) (oi := ⟨some 43, _, _, _, _, _⟩) (v := ?_) rfl (by kernel_rfl) (by kernel_rfl) (by kernel_rfl) (fun _ _ _ h => h) (Or.inl ⟨by rfl, by intro w hSw; go_simp; try rfl⟩) (by assumption) ?_
          try simp only [Act.put, List.setIfInBounds_toArray, List.set_cons_zero, List.set_cons_succ]
          refine wpAnyH_take (i := 4) (oi := ⟨some 44, _, _, _, _, _⟩) (v := _) rfl (by kernel_rfl) (by kernel_rfl) (by kernel_rfl) (fun _ _ _ h => h) (yieldsIf_load_mid (by rfl) _ (.tmp 10) rfl _ _ rfl (rcL y.num y.blk A7 n c7 D7 m e7) _ (fun W hW => range_below HRy.out hW (HLy.out)) rwSeal.ty rwSeal.row rwSeal.size) (by assumption) ?_
          try simp only [Act.put, List.setIfInBounds_toArray, List.set_cons_zero, List.set_cons_succ]
          refine wpAnyH_ready (rs := [5]) (by kernel_rfl) (by simp) ?_
          refine AllReadyH.cons (o := ⟨some 45, _, _, _, _, _⟩) rfl (fun K hK => ?_) AllReadyH.nil
          go_simp
          refine (right_yes y A7 n c7 D7 m e7 w51 (HYv.out w51 hHeld) HYt.out).mono ?_
          rintro e w52 ⟨rfl, hb'⟩
          refine hK.out _ _ (hHeld.trans (hb'.mono hHeld.size)) (fun hHeld2 => ?_)
          clear hb'
          clear hK K hHeld
          have hHeld := hHeld2
          clear hHeld2
          try simp only [Act.put, List.setIfInBounds_toArray, List.set_cons_zero, List.set_cons_succ]
          refine wpAnyH_take (i := 6) (oi := ⟨some 46, _, _, _, _, _⟩) (v := ?_) rfl (by kernel_rfl) (by kernel_rfl) (by kernel_rfl) (fun _ _ _ h => h) (Or.inl ⟨by rfl, by intro w hSw; go_simp; try rfl⟩) (by assumption) ?_
          try simp only [Act.put, List.setIfInBounds_toArray, List.set_cons_zero, List.set_cons_succ]
          refine wpAnyH_take (i := 7) (oi := ⟨some 47, _, _, _, _, _⟩) (v := ?_) rfl (by kernel_rfl) (by kernel_rfl) (by kernel_rfl) (fun _ _ _ h => h) (Or.inl ⟨by rfl, by intro w hSw; go_simp; try rfl⟩) (by assumption) ?_
          try simp only [Act.put, List.setIfInBounds_toArray, List.set_cons_zero, List.set_cons_succ]
          refine wpAnyH_take (i := 8) (oi := ⟨some 48, _, _, _, _, _⟩) (v := _) rfl (by kernel_rfl) (by kernel_rfl) (by kernel_rfl) (fun _ _ _ h => h) (yieldsIf_load_mid (by rfl) _ (.tmp 10) rfl _ _ rfl (rcL y.num y.blk A7 n c7 D7 m e7) _ (fun W hW => range_below HRy.out hW (HLy.out)) rwSeal.ty rwSeal.row rwSeal.size) (by assumption) ?_
          try simp only [Act.put, List.setIfInBounds_toArray, List.set_cons_zero, List.set_cons_succ]
          refine wpAnyH_take (i := 9) (oi := ⟨some 49, _, _, _, _, _⟩) (v := ?_) rfl (by kernel_rfl) (by kernel_rfl) (by kernel_rfl) (fun _ _ _ h => h) (Or.inl ⟨by rfl, by intro w hSw; go_simp; try rfl⟩) (by assumption) ?_
          try simp only [Act.put, List.setIfInBounds_toArray, List.set_cons_zero, List.set_cons_succ]
          refine wpAnyH_take (i := 11) (oi := ⟨some 51, _, _, _, _, _⟩) (v := _) rfl (by kernel_rfl) (by kernel_rfl) (by kernel_rfl) (fun _ _ _ h => h) (yieldsIf_load_mid (by rfl) _ (.tmp 3) rfl _ _ rfl (rcL r.num r.blk A n c D m e) _ (fun W hW => range_below HRx.out hW (Nat.lt_of_lt_of_le HLx.out (Nat.le_refl _))) rwSeal.ty rwSeal.row rwSeal.size) (by assumption) ?_
          try simp only [Act.put, List.setIfInBounds_toArray, List.set_cons_zero, List.set_cons_succ]
          refine wpAnyH_take (i := 12) (oi := ⟨some 52, _, _, _, _, _⟩) (v := ?_) rfl (by kernel_rfl) (by kernel_rfl) (by kernel_rfl) (fun _ _ _ h => h) (Or.inl ⟨by rfl, by intro w hSw; go_simp; try rfl⟩) (by assumption) ?_
          try simp only [Act.put, List.setIfInBounds_toArray, List.set_cons_zero, List.set_cons_succ]
          refine wpAnyH_ready (rs := [10]) (by kernel_rfl) (by simp) ?_
          refine AllReadyH.cons (o := ⟨some 50, _, _, _, _, _⟩) rfl (fun K hK => ?_) AllReadyH.nil
          go_simp
          refine (slot_nat y A7 n c7 D7 m e7 kx t1 w52 (HYv.out w52 hHeld) HKb.out.2.2 HS1.out.2.1).mono ?_
          rintro e w53 ⟨rfl, hb'⟩
          refine hK.out _ _ (hHeld.trans (hb'.mono hHeld.size)) (fun hHeld2 => ?_)
          clear hb'
          clear hK K hHeld
          have hHeld := hHeld2
          clear hHeld2
          try simp only [Act.put, List.setIfInBounds_toArray, List.set_cons_zero, List.set_cons_succ]
          refine wpAnyH_ready (rs := [13]) (by kernel_rfl) (by simp) ?_
          refine AllReadyH.cons (o := ⟨some 53, _, _, _, _, _⟩) rfl (fun K hK => ?_) AllReadyH.nil
          go_simp
          refine (slot_nat r A n c D m e kx s1 w53 (HSv.out w53 hHeld) HKb.out.2.2 HS1.out.1).mono ?_
          rintro e w54 ⟨rfl, hb'⟩
          refine hK.out _ _ (hHeld.trans (hb'.mono hHeld.size)) (fun hHeld2 => ?_)
          clear hb'
          clear hK K hHeld
          have hHeld := hHeld2
          clear hHeld2
          try simp only [Act.put, List.setIfInBounds_toArray, List.set_cons_zero, List.set_cons_succ]
          refine wpAnyH_take (i := 14) (oi := ⟨some 54, _, _, _, _, _⟩) (v := ?_) rfl (by kernel_rfl) (by kernel_rfl) (by kernel_rfl) (fun _ _ _ h => h) (Or.inl ⟨by rfl, by intro w hSw; go_simp; try rfl⟩) (by assumption) ?_
          try simp only [Act.put, List.setIfInBounds_toArray, List.set_cons_zero, List.set_cons_succ]
          refine wpAnyH_take (i := 15) (oi := ⟨some 55, _, _, _, _, _⟩) (v := ?_) rfl (by kernel_rfl) (by kernel_rfl) (by kernel_rfl) (fun _ _ _ h => h) (Or.inl ⟨by rfl, by intro w hSw; go_simp; try rfl⟩) (by assumption) ?_
          try simp only [Act.put, List.setIfInBounds_toArray, List.set_cons_zero, List.set_cons_succ]
          refine wpAnyH_take (i := 16) (oi := ⟨some 56, _, _, _, _, _⟩) (v := ?_) rfl (by kernel_rfl) (by kernel_rfl) (by kernel_rfl) (fun _ _ _ h => h) (Or.inl ⟨by rfl, by intro w hSw; go_simp; try rfl⟩) (by assumption) ?_
          try simp only [Act.put, List.setIfInBounds_toArray, List.set_cons_zero, List.set_cons_succ]
          refine wpAnyH_take (i := 17) (oi := ⟨some 57, _, _, _, _, _⟩) (v := ?_) rfl (by kernel_rfl) (by kernel_rfl) (by kernel_rfl) (fun _ _ _ h => h) (Or.inl ⟨by rfl, by intro w hSw; go_simp; try rfl⟩) (by assumption) ?_
          try simp only [Act.put, List.setIfInBounds_toArray, List.set_cons_zero, List.set_cons_succ]
          refine wpAnyH_take (i := 18) (oi := ⟨some 58, _, _, _, _, _⟩) (v := ?_) rfl (by kernel_rfl) (by kernel_rfl) (by kernel_rfl) (fun _ _ _ h => h) (Or.inl ⟨by rfl, by intro w hSw; go_simp; try rfl⟩) (by assumption) ?_
          try simp only [Act.put, List.setIfInBounds_toArray, List.set_cons_zero, List.set_cons_succ]
          refine wpAnyH_take (i := 19) (oi := ⟨some 59, _, _, _, _, _⟩) (v := ?_) rfl (by kernel_rfl) (by kernel_rfl) (by kernel_rfl) (fun _ _ _ h => h) (Or.inl ⟨by rfl, by intro w hSw; go_simp; try rfl⟩) (by assumption) ?_
          try simp only [Act.put, List.setIfInBounds_toArray, List.set_cons_zero, List.set_cons_succ]
          refine wpAnyH_take (i := 20) (oi := ⟨some 60, _, _, _, _, _⟩) (v := ?_) rfl (by kernel_rfl) (by kernel_rfl) (by kernel_rfl) (fun _ _ _ h => h) (Or.inl ⟨by rfl, by intro w hSw; go_simp; try rfl⟩) (by assumption) ?_
          try simp only [Act.put, List.setIfInBounds_toArray, List.set_cons_zero, List.set_cons_succ]
          refine wpAnyH_take (i := 21) (oi := ⟨some 61, _, _, _, _, _⟩) (v := ?_) rfl (by kernel_rfl) (by kernel_rfl) (by kernel_rfl) (fun _ _ _ h => h) (Or.inl ⟨by rfl, by intro w hSw; go_simp; try rfl⟩) (by assumption) ?_
          try simp only [Act.put, List.setIfInBounds_toArray, List.set_cons_zero, List.set_cons_succ]
          refine wpAnyH_take (i := 22) (oi := ⟨some 62, _, _, _, _, _⟩) (v := undef) rfl (by kernel_rfl) (by kernel_rfl) (by kernel_rfl) (fun _ _ _ h => h) (Or.inr ⟨by rfl, rfl⟩) (by assumption) ?_
          try simp only [Act.put, List.setIfInBounds_toArray, List.set_cons_zero, List.set_cons_succ]
          refine wpAnyH_take (i := 23) (oi := ⟨some 63, _, _, _, _, _⟩) (v := undef) rfl (by kernel_rfl) (by kernel_rfl) (by kernel_rfl) (fun _ _ _ h => h) (Or.inr ⟨by rfl, rfl⟩) (by assumption) ?_
          try simp only [Act.put, List.setIfInBounds_toArray, List.set_cons_zero, List.set_cons_succ]
          refine wpAnyH_take (i := 24) (oi := ⟨some 64, _, _, _, _, _⟩) (v := undef) rfl (by kernel_rfl) (by kernel_rfl) (by kernel_rfl) (fun _ _ _ h => h) (Or.inr ⟨by rfl, rfl⟩) (by assumption) ?_
          try simp only [Act.put, List.setIfInBounds_toArray, List.set_cons_zero, List.set_cons_succ]
          refine wpAnyH_take (i := 25) (oi := ⟨some 65, _, _, _, _, _⟩) (v := undef) rfl (by kernel_rfl) (by kernel_rfl) (by kernel_rfl) (fun _ _ _ h => h) (Or.inr ⟨by rfl, rfl⟩) (by assumption) ?_
          try simp only [Act.put, List.setIfInBounds_toArray, List.set_cons_zero, List.set_cons_succ]
          refine wpAnyH_take (i := 26) (oi := ⟨some 66, _, _, _, _, _⟩) (v := undef) rfl (by kernel_rfl) (by kernel_rfl) (by kernel_rfl) (fun _ _ _ h => h) (Or.inr ⟨by rfl, rfl⟩) (by assumption) ?_
          try simp only [Act.put, List.setIfInBounds_toArray, List.set_cons_zero, List.set_cons_succ]
          refine wpAnyH_take (i := 27) (oi := ⟨some 67, _, _, _, _, _⟩) (v := undef) rfl (by kernel_rfl) (by kernel_rfl) (by kernel_rfl) (fun _ _ _ h => h) (Or.inr ⟨by rfl, rfl⟩) (by assumption) ?_
          try simp only [Act.put, List.setIfInBounds_toArray, List.set_cons_zero, List.set_cons_succ]
          refine wpAnyH_take (i := 28) (oi := ⟨some 68, _, _, _, _, _⟩) (v := undef) rfl (by kernel_rfl) (by kernel_rfl) (by kernel_rfl) (fun _ _ _ h => h) (Or.inr ⟨by rfl, rfl⟩) (by assumption) ?_
          try simp only [Act.put, List.setIfInBounds_toArray, List.set_cons_zero, List.set_cons_succ]
          refine wpAnyH_take (i := 29) (oi := ⟨some 69, _, _, _, _, _⟩) (v := ?_) rfl (by kernel_rfl) (by kernel_rfl) (by kernel_rfl) (fun _ _ _ h => h) (Or.inl ⟨by rfl, by intro w hSw; go_simp; try rfl⟩) (by assumption) ?_
          try simp only [Act.put, List.setIfInBounds_toArray, List.set_cons_zero, List.set_cons_succ]
          refine wpAnyH_take (i := 30) (oi := ⟨some 70, _, _, _, _, _⟩) (v := ?_) rfl (by kernel_rfl) (by kernel_rfl) (by kernel_rfl) (fun _ _ _ h => h) (Or.inl ⟨by rfl, by intro w hSw; go_simp; try rfl⟩) (by assumption) ?_
          try simp only [Act.put, List.setIfInBounds_toArray, List.set_cons_zero, List.set_cons_succ]
          refine wpAnyH_take (i := 31) (oi := ⟨some 71, _, _, _, _, _⟩) (v := ?_) rfl (by kernel_rfl) (by kernel_rfl) (by kernel_rfl) (fun _ _ _ h => h) (Or.inl ⟨by rfl, by intro w hSw; go_simp; try rfl⟩) (by assumption) ?_
          try simp only [Act.put, List.setIfInBounds_toArray, List.set_cons_zero, List.set_cons_succ]
          refine wpAnyH_take (i := 32) (oi := ⟨some 72, _, _, _, _, _⟩) (v := ?_) rfl (by kernel_rfl) (by kernel_rfl) (by kernel_rfl) (fun _ _ _ h => h) (Or.inl ⟨by rfl, by intro w hSw; go_simp; try rfl⟩) (by assumption) ?_
          try simp only [Act.put, List.setIfInBounds_toArray, List.set_cons_zero, List.set_cons_succ]
          refine wpAnyH_take (i := 33) (oi := ⟨some 73, _, _, _, _, _⟩) (v := _) rfl (by kernel_rfl) (by kernel_rfl) (by kernel_rfl) (fun _ _ _ h => h) (Or.inl ⟨by rfl, fun W hW => by have ce : W.cell? ⟨w7.heap.size, 0, none⟩ = some (.int .u64 r.num) := (hW.cell (p := ⟨w7.heap.size, 0, none⟩) (HLy.out)).trans (HYx9'.out.cell? 0); go_simp; try rfl⟩) (by assumption) ?_
          try simp only [Act.put, List.setIfInBounds_toArray, List.set_cons_zero, List.set_cons_succ]
          refine wpAnyH_take (i := 34) (oi := ⟨some 74, _, _, _, _, _⟩) (v := ?_) rfl (by kernel_rfl) (by kernel_rfl) (by kernel_rfl) (fun _ _ _ h => h) (Or.inl ⟨by rfl, by intro w hSw; go_simp; try rfl⟩) (by assumption) ?_
          try simp only [Act.put, List.setIfInBounds_toArray, List.set_cons_zero, List.set_cons_succ]
          refine wpAnyH_take (i := 35) (oi := ⟨some 75, _, _, _, _, _⟩) (v := _) rfl (by kernel_rfl) (by kernel_rfl) (by kernel_rfl) (fun _ _ _ h => h) (Or.inl ⟨by rfl, fun W hW => by have ce : W.cell? ⟨w.heap.size, 0, none⟩ = some (.int .u64 r.num) := (hW.cell (p := ⟨w.heap.size, 0, none⟩) (Nat.lt_of_lt_of_le HLx.out (Nat.le_refl _))).trans (HX9.out.cell? 0); go_simp; try rfl⟩) (by assumption) ?_
          try simp only [Act.put, List.setIfInBounds_toArray, List.set_cons_zero, List.set_cons_succ]
          refine wpAnyH_take (i := 36) (oi := ⟨some 76, _, _, _, _, _⟩) (v := ?_) rfl (by kernel_rfl) (by kernel_rfl) (by kernel_rfl) (fun _ _ _ h => h) (Or.inl ⟨by rfl, by intro w hSw; go_simp; try rfl⟩) (by assumption) ?_
          try simp only [Act.put, List.setIfInBounds_toArray, List.set_cons_zero, List.set_cons_succ]
          refine wpAnyH_take (i := 37) (oi := ⟨some 77, _, _, _, _, _⟩) (v := ?_) rfl (by kernel_rfl) (by kernel_rfl) (by kernel_rfl) (fun _ _ _ h => h) (Or.inl ⟨by rfl, by intro w hSw; go_simp; try rfl⟩) (by assumption) ?_
          try simp only [Act.put, List.setIfInBounds_toArray, List.set_cons_zero, List.set_cons_succ]
          refine wpAnyH_take (i := 38) (oi := ⟨some 78, _, _, _, _, _⟩) (v := ?_) rfl (by kernel_rfl) (by kernel_rfl) (by kernel_rfl) (fun _ _ _ h => h) (Or.inl ⟨by rfl, by intro w hSw; go_simp; try rfl⟩) (by assumption) ?_
          try simp only [Act.put, List.setIfInBounds_toArray, List.set_cons_zero, List.set_cons_succ]
          refine wpAnyH_take (i := 39) (oi := ⟨some 79, _, _, _, _, _⟩) (v := _) rfl (by kernel_rfl) (by kernel_rfl) (by kernel_rfl) (fun _ _ _ h => h) (yieldsIf_load_mid (by rfl) _ (.tmp 3) rfl _ _ rfl (rcL r.num r.blk A n c D m e) _ (fun W hW => range_below HRx.out hW (Nat.lt_of_lt_of_le HLx.out (Nat.le_refl _))) rwSeal.ty rwSeal.row rwSeal.size) (by assumption) ?_
          try simp only [Act.put, List.setIfInBounds_toArray, List.set_cons_zero, List.set_cons_succ]
          refine wpAnyH_take (i := 40) (oi := ⟨some 80, _, _, _, _, _⟩) (v := _) rfl (by kernel_rfl) (by kernel_rfl) (by kernel_rfl) (fun _ _ _ h => h) (yieldsIf_load_mid (by rfl) _ (.tmp 10) rfl _ _ rfl (rcL y.num y.blk A7 n c7 D7 m e7) _ (fun W hW => range_below HRy.out hW (HLy.out)) rwSeal.ty rwSeal.row rwSeal.size) (by assumption) ?_
          try simp only [Act.put, List.setIfInBounds_toArray, List.set_cons_zero, List.set_cons_succ]
          refine wpAnyH_ready (rs := [41]) (by kernel_rfl) (by simp) ?_
          refine AllReadyH.cons (o := ⟨some 81, _, _, _, _, _⟩) rfl (fun K hK => ?_) AllReadyH.nil
          go_simp
          refine (same_as false r y A n c D m e A7 n c7 D7 m e7 w54 (HSv.out w54 hHeld) (HYv.out w54 hHeld) HYs.out).mono ?_
          rintro e w55 ⟨rfl, hb'⟩
          refine hK.out _ _ (hHeld.trans (hb'.mono hHeld.size)) (fun hHeld2 => ?_)
          clear hb'
          clear hK K hHeld
          have hHeld := hHeld2
          clear hHeld2
          try simp only [Act.put, List.setIfInBounds_toArray, List.set_cons_zero, List.set_cons_succ]
          refine wpAnyH_take (i := 42) (oi := ⟨some 82, _, _, _, _, _⟩) (v := ?_) rfl (by kernel_rfl) (by kernel_rfl) (by kernel_rfl) (fun _ _ _ h => h) (Or.inl ⟨by rfl, by intro w hSw; go_simp; try rfl⟩) (by assumption) ?_
          try simp only [Act.put, List.setIfInBounds_toArray, List.set_cons_zero, List.set_cons_succ]
          refine wpAnyH_take (i := 43) (oi := ⟨some 83, _, _, _, _, _⟩) (v := ?_) rfl (by kernel_rfl) (by kernel_rfl) (by kernel_rfl) (fun _ _ _ h => h) (Or.inl ⟨by rfl, by intro w hSw; go_simp; try rfl⟩) (by assumption) ?_
          try simp only [Act.put, List.setIfInBounds_toArray, List.set_cons_zero, List.set_cons_succ]
          refine wpAnyH_take (i := 44) (oi := ⟨some 84, _, _, _, _, _⟩) (v := ?_) rfl (by kernel_rfl) (by kernel_rfl) (by kernel_rfl) (fun _ _ _ h => h) (Or.inl ⟨by rfl, by intro w hSw; go_simp; try rfl⟩) (by assumption) ?_
          try simp only [Act.put, List.setIfInBounds_toArray, List.set_cons_zero, List.set_cons_succ]
          refine wpAnyH_ready (rs := [45]) (by kernel_rfl) (by simp) ?_
          refine AllReadyH.cons (o := ⟨some 85, _, _, _, _, _⟩) rfl (fun K hK => ?_) AllReadyH.nil
          go_simp
          refine (known8_any w55).mono ?_
          rintro e w56 ⟨rfl, hb'⟩
          refine hK.out _ _ (hHeld.trans (hb'.mono hHeld.size)) (fun hHeld2 => ?_)
          clear hb'
          clear hK K hHeld
          have hHeld := hHeld2
          clear hHeld2
          try simp only [Act.put, List.setIfInBounds_toArray, List.set_cons_zero, List.set_cons_succ]
          refine wpAnyH_take (i := 46) (oi := ⟨some 86, _, _, _, _, _⟩) (v := ?_) rfl (by kernel_rfl) (by kernel_rfl) (by kernel_rfl) (fun _ _ _ h => h) (Or.inl ⟨by rfl, by intro w hSw; go_simp; try rfl⟩) (by assumption) ?_
          try simp only [Act.put, List.setIfInBounds_toArray, List.set_cons_zero, List.set_cons_succ]
          refine wpAnyH_take (i := 47) (oi := ⟨some 6, _, _, _, _, _⟩) (v := ?_) rfl (by kernel_rfl) (by kernel_rfl) (by kernel_rfl) (fun _ _ _ h => h) (Or.inl ⟨by rfl, by intro w hSw; go_simp; try rfl⟩) (by assumption) ?_
          try simp only [Act.put, List.setIfInBounds_toArray, List.set_cons_zero, List.set_cons_succ]
          refine wpAnyH_done (by kernel_rfl) ?_ _
          have HBe : Kp (Below w.heap.size w w56) := ⟨HB9.out.trans (hHeld.mono HB9.out.size)⟩
          clear hHeld
          go_wp2
          go_ret
          exact ⟨rfl, HBe.out⟩
        · have hok : ((ox : Int) == (kx : Int)) = false := by simp; omega
          have HSO : Kp (slotN y.sl ox = s2) := ⟨HYo2.out hOK⟩
          clear hOK HYo2
          go_wp2_with fail
          have HYx9' : Kp (Blk w9 w7.heap.size 26 (rcL r.num y.blk A7 n c7 D7 m e7)) := ⟨by rw [← HYn.out]; exact HYx9.out⟩
          refine wp_region_held_drew (S := fun W => Below w9.heap.size w9 W) (by kernel_rfl) ((Below.refl _ _).drew) (fun hHeld => ?_)
          generalize w9.drew = wS at *
          refine wpAnyH_take (i := 0) (oi := ⟨some 40, _, _, _, _, _⟩) (v := _) rfl (by kernel_rfl) (by kernel_rfl) (by kernel_rfl) (fun _ _ _ h => h) (yieldsIf_load_mid (by rfl) _ (.tmp 3) rfl _ _ rfl (rcL r.num r.blk A n c D m e) _ (fun W hW => range_below HRx.out hW (Nat.lt_of_lt_of_le HLx.out (Nat.le_refl _))) rwSeal.ty rwSeal.row rwSeal.size) (by assumption) ?_
          try simp only [Act.put, List.setIfInBounds_toArray, List.set_cons_zero, List.set_cons_succ]
          refine wpAnyH_take (i := 1) (oi := ⟨some 41, _, _, _, _, _⟩) (v := _) rfl (by kernel_rfl) (by kernel_rfl) (by kernel_rfl) (fun _ _ _ h => h) (yieldsIf_load_mid (by rfl) _ (.tmp 9) rfl _ _ rfl (rcL r.num r.blk A4 n c4 D m e) _ (fun W hW => range_below HRw.out hW (HLw.out)) rwSeal.ty rwSeal.row rwSeal.size) (by assumption) ?_
          try simp only [Act.put, List.setIfInBounds_toArray, List.set_cons_zero, List.set_cons_succ]
          refine wpAnyH_ready (rs := [2]) (by kernel_rfl) (by simp) ?_
          refine AllReadyH.cons (o := ⟨some 42, _, _, _, _, _⟩) rfl (fun K hK => ?_) AllReadyH.nil
          go_simp
          refine (refsame_as true r r A n c D m e A4 n c4 D m e wS (HSv.out wS hHeld) (HWv.out wS hHeld) (sameB_rfl r)).mono ?_
          rintro e w51 ⟨rfl, hb'⟩
          refine hK.out _ _ (hHeld.trans (hb'.mono hHeld.size)) (fun hHeld2 => ?_)
          clear hb'
          clear hK K hHeld
          have hHeld := hHeld2
          clear hHeld2
          try simp only [Act.put, List.setIfInBounds_toArray, List.set_cons_zero, List.set_cons_succ]
          refine wpAnyH_take (i := 3) (oi := ⟨some 43, _, _, _, _, _⟩) (v := ?_) rfl (by kernel_rfl) (by kernel_rfl) (by kernel_rfl) (fun _ _ _ h => h) (Or.inl ⟨by rfl, by intro w hSw; go_simp; try rfl⟩) (by assumption) ?_
          try simp only [Act.put, List.setIfInBounds_toArray, List.set_cons_zero, List.set_cons_succ]
          refine wpAnyH_take (i := 4) (oi := ⟨some 44, _, _, _, _, _⟩) (v := _) rfl (by kernel_rfl) (by kernel_rfl) (by kernel_rfl) (fun _ _ _ h => h) (yieldsIf_load_mid (by rfl) _ (.tmp 10) rfl _ _ rfl (rcL y.num y.blk A7 n c7 D7 m e7) _ (fun W hW => range_below HRy.out hW (HLy.out)) rwSeal.ty rwSeal.row rwSeal.size) (by assumption) ?_
          try simp only [Act.put, List.setIfInBounds_toArray, List.set_cons_zero, List.set_cons_succ]
          refine wpAnyH_ready (rs := [5]) (by kernel_rfl) (by simp) ?_
          refine AllReadyH.cons (o := ⟨some 45, _, _, _, _, _⟩) rfl (fun K hK => ?_) AllReadyH.nil
          go_simp
          refine (right_yes y A7 n c7 D7 m e7 w51 (HYv.out w51 hHeld) HYt.out).mono ?_
          rintro e w52 ⟨rfl, hb'⟩
          refine hK.out _ _ (hHeld.trans (hb'.mono hHeld.size)) (fun hHeld2 => ?_)
          clear hb'
          clear hK K hHeld
          have hHeld := hHeld2
          clear hHeld2
          try simp only [Act.put, List.setIfInBounds_toArray, List.set_cons_zero, List.set_cons_succ]
          refine wpAnyH_take (i := 6) (oi := ⟨some 46, _, _, _, _, _⟩) (v := ?_) rfl (by kernel_rfl) (by kernel_rfl) (by kernel_rfl) (fun _ _ _ h => h) (Or.inl ⟨by rfl, by intro w hSw; go_simp; try rfl⟩) (by assumption) ?_
          try simp only [Act.put, List.setIfInBounds_toArray, List.set_cons_zero, List.set_cons_succ]
          refine wpAnyH_take (i := 7) (oi := ⟨some 47, _, _, _, _, _⟩) (v := ?_) rfl (by kernel_rfl) (by kernel_rfl) (by kernel_rfl) (fun _ _ _ h => h) (Or.inl ⟨by rfl, by intro w hSw; go_simp; try rfl⟩) (by assumption) ?_
          try simp only [Act.put, List.setIfInBounds_toArray, List.set_cons_zero, List.set_cons_succ]
          refine wpAnyH_take (i := 8) (oi := ⟨some 48, _, _, _, _, _⟩) (v := _) rfl (by kernel_rfl) (by kernel_rfl) (by kernel_rfl) (fun _ _ _ h => h) (yieldsIf_load_mid (by rfl) _ (.tmp 10) rfl _ _ rfl (rcL y.num y.blk A7 n c7 D7 m e7) _ (fun W hW => range_below HRy.out hW (HLy.out)) rwSeal.ty rwSeal.row rwSeal.size) (by assumption) ?_
          try simp only [Act.put, List.setIfInBounds_toArray, List.set_cons_zero, List.set_cons_succ]
          refine wpAnyH_take (i := 9) (oi := ⟨some 49, _, _, _, _, _⟩) (v := ?_) rfl (by kernel_rfl) (by kernel_rfl) (by kernel_rfl) (fun _ _ _ h => h) (Or.inl ⟨by rfl, by intro w hSw; go_simp; try rfl⟩) (by assumption) ?_
          try simp only [Act.put, List.setIfInBounds_toArray, List.set_cons_zero, List.set_cons_succ]
          refine wpAnyH_take (i := 11) (oi := ⟨some 51, _, _, _, _, _⟩) (v := _) rfl (by kernel_rfl) (by kernel_rfl) (by kernel_rfl) (fun _ _ _ h => h) (yieldsIf_load_mid (by rfl) _ (.tmp 3) rfl _ _ rfl (rcL r.num r.blk A n c D m e) _ (fun W hW => range_below HRx.out hW (Nat.lt_of_lt_of_le HLx.out (Nat.le_refl _))) rwSeal.ty rwSeal.row rwSeal.size) (by assumption) ?_
          try simp only [Act.put, List.setIfInBounds_toArray, List.set_cons_zero, List.set_cons_succ]
          refine wpAnyH_take (i := 12) (oi := ⟨some 52, _, _, _, _, _⟩) (v := ?_) rfl (by kernel_rfl) (by kernel_rfl) (by kernel_rfl) (fun _ _ _ h => h) (Or.inl ⟨by rfl, by intro w hSw; go_simp; try rfl⟩) (by assumption) ?_
          try simp only [Act.put, List.setIfInBounds_toArray, List.set_cons_zero, List.set_cons_succ]
          refine wpAnyH_ready (rs := [10]) (by kernel_rfl) (by simp) ?_
          refine AllReadyH.cons (o := ⟨some 50, _, _, _, _, _⟩) rfl (fun K hK => ?_) AllReadyH.nil
          go_simp
          refine (slot_nat y A7 n c7 D7 m e7 kx t1 w52 (HYv.out w52 hHeld) HKb.out.2.2 HS1.out.2.1).mono ?_
          rintro e w53 ⟨rfl, hb'⟩
          refine hK.out _ _ (hHeld.trans (hb'.mono hHeld.size)) (fun hHeld2 => ?_)
          clear hb'
          clear hK K hHeld
          have hHeld := hHeld2
          clear hHeld2
          try simp only [Act.put, List.setIfInBounds_toArray, List.set_cons_zero, List.set_cons_succ]
          refine wpAnyH_ready (rs := [13]) (by kernel_rfl) (by simp) ?_
          refine AllReadyH.cons (o := ⟨some 53, _, _, _, _, _⟩) rfl (fun K hK => ?_) AllReadyH.nil
          go_simp
          refine (slot_nat r A n c D m e kx s1 w53 (HSv.out w53 hHeld) HKb.out.2.2 HS1.out.1).mono ?_
          rintro e w54 ⟨rfl, hb'⟩
          refine hK.out _ _ (hHeld.trans (hb'.mono hHeld.size)) (fun hHeld2 => ?_)
          clear hb'
          clear hK K hHeld
          have hHeld := hHeld2
          clear hHeld2
          try simp only [Act.put, List.setIfInBounds_toArray, List.set_cons_zero, List.set_cons_succ]
          refine wpAnyH_take (i := 14) (oi := ⟨some 54, _, _, _, _, _⟩) (v := ?_) rfl (by kernel_rfl) (by kernel_rfl) (by kernel_rfl) (fun _ _ _ h => h) (Or.inl ⟨by rfl, by intro w hSw; go_simp; try rfl⟩) (by assumption) ?_
          try simp only [Act.put, List.setIfInBounds_toArray, List.set_cons_zero, List.set_cons_succ]
          refine wpAnyH_take (i := 15) (oi := ⟨some 55, _, _, _, _, _⟩) (v := ?_) rfl (by kernel_rfl) (by kernel_rfl) (by kernel_rfl) (fun _ _ _ h => h) (Or.inl ⟨by rfl, by intro w hSw; go_simp; try rfl⟩) (by assumption) ?_
          try simp only [Act.put, List.setIfInBounds_toArray, List.set_cons_zero, List.set_cons_succ]
          refine wpAnyH_take (i := 16) (oi := ⟨some 56, _, _, _, _, _⟩) (v := ?_) rfl (by kernel_rfl) (by kernel_rfl) (by kernel_rfl) (fun _ _ _ h => h) (Or.inl ⟨by rfl, by intro w hSw; go_simp; try rfl⟩) (by assumption) ?_
          try simp only [Act.put, List.setIfInBounds_toArray, List.set_cons_zero, List.set_cons_succ]
          refine wpAnyH_take (i := 17) (oi := ⟨some 57, _, _, _, _, _⟩) (v := ?_) rfl (by kernel_rfl) (by kernel_rfl) (by kernel_rfl) (fun _ _ _ h => h) (Or.inl ⟨by rfl, by intro w hSw; go_simp; try rfl⟩) (by assumption) ?_
          try simp only [Act.put, List.setIfInBounds_toArray, List.set_cons_zero, List.set_cons_succ]
          refine wpAnyH_take (i := 18) (oi := ⟨some 58, _, _, _, _, _⟩) (v := ?_) rfl (by kernel_rfl) (by kernel_rfl) (by kernel_rfl) (fun _ _ _ h => h) (Or.inl ⟨by rfl, by intro w hSw; go_simp; try rfl⟩) (by assumption) ?_
          try simp only [Act.put, List.setIfInBounds_toArray, List.set_cons_zero, List.set_cons_succ]
          refine wpAnyH_take (i := 19) (oi := ⟨some 59, _, _, _, _, _⟩) (v := ?_) rfl (by kernel_rfl) (by kernel_rfl) (by kernel_rfl) (fun _ _ _ h => h) (Or.inl ⟨by rfl, by intro w hSw; go_simp; try rfl⟩) (by assumption) ?_
          try simp only [Act.put, List.setIfInBounds_toArray, List.set_cons_zero, List.set_cons_succ]
          refine wpAnyH_take (i := 20) (oi := ⟨some 60, _, _, _, _, _⟩) (v := ?_) rfl (by kernel_rfl) (by kernel_rfl) (by kernel_rfl) (fun _ _ _ h => h) (Or.inl ⟨by rfl, by intro w hSw; go_simp; try rfl⟩) (by assumption) ?_
          try simp only [Act.put, List.setIfInBounds_toArray, List.set_cons_zero, List.set_cons_succ]
          refine wpAnyH_take (i := 21) (oi := ⟨some 61, _, _, _, _, _⟩) (v := ?_) rfl (by kernel_rfl) (by kernel_rfl) (by kernel_rfl) (fun _ _ _ h => h) (Or.inl ⟨by rfl, by intro w hSw; go_simp; try rfl⟩) (by assumption) ?_
          try simp only [Act.put, List.setIfInBounds_toArray, List.set_cons_zero, List.set_cons_succ]
          refine wpAnyH_take (i := 22) (oi := ⟨some 62, _, _, _, _, _⟩) (v := _) rfl (by kernel_rfl) (by kernel_rfl) (by kernel_rfl) (fun _ _ _ h => h) (yieldsIf_load_mid (by rfl) _ (.tmp 10) rfl _ _ rfl (rcL y.num y.blk A7 n c7 D7 m e7) _ (fun W hW => range_below HRy.out hW (HLy.out)) rwSeal.ty rwSeal.row rwSeal.size) (by assumption) ?_
          try simp only [Act.put, List.setIfInBounds_toArray, List.set_cons_zero, List.set_cons_succ]
          refine wpAnyH_take (i := 23) (oi := ⟨some 63, _, _, _, _, _⟩) (v := ?_) rfl (by kernel_rfl) (by kernel_rfl) (by kernel_rfl) (fun _ _ _ h => h) (Or.inl ⟨by rfl, by intro w hSw; go_simp; try rfl⟩) (by assumption) ?_
          try simp only [Act.put, List.setIfInBounds_toArray, List.set_cons_zero, List.set_cons_succ]
          refine wpAnyH_take (i := 25) (oi := ⟨some 65, _, _, _, _, _⟩) (v := _) rfl (by kernel_rfl) (by kernel_rfl) (by kernel_rfl) (fun _ _ _ h => h) (yieldsIf_load_mid (by rfl) _ (.tmp 3) rfl _ _ rfl (rcL r.num r.blk A n c D m e) _ (fun W hW => range_below HRx.out hW (Nat.lt_of_lt_of_le HLx.out (Nat.le_refl _))) rwSeal.ty rwSeal.row rwSeal.size) (by assumption) ?_
          try simp only [Act.put, List.setIfInBounds_toArray, List.set_cons_zero, List.set_cons_succ]
          refine wpAnyH_take (i := 26) (oi := ⟨some 66, _, _, _, _, _⟩) (v := ?_) rfl (by kernel_rfl) (by kernel_rfl) (by kernel_rfl) (fun _ _ _ h => h) (Or.inl ⟨by rfl, by intro w hSw; go_simp; try rfl⟩) (by assumption) ?_
          try simp only [Act.put, List.setIfInBounds_toArray, List.set_cons_zero, List.set_cons_succ]
          refine wpAnyH_ready (rs := [24]) (by kernel_rfl) (by simp) ?_
          refine AllReadyH.cons (o := ⟨some 64, _, _, _, _, _⟩) rfl (fun K hK => ?_) AllReadyH.nil
          go_simp
          refine (slot_nat y A7 n c7 D7 m e7 ox s2 w54 (HYv.out w54 hHeld) HOb.out.2 HSO.out).mono ?_
          rintro e w55 ⟨rfl, hb'⟩
          refine hK.out _ _ (hHeld.trans (hb'.mono hHeld.size)) (fun hHeld2 => ?_)
          clear hb'
          clear hK K hHeld
          have hHeld := hHeld2
          clear hHeld2
          try simp only [Act.put, List.setIfInBounds_toArray, List.set_cons_zero, List.set_cons_succ]
          refine wpAnyH_ready (rs := [27]) (by kernel_rfl) (by simp) ?_
          refine AllReadyH.cons (o := ⟨some 67, _, _, _, _, _⟩) rfl (fun K hK => ?_) AllReadyH.nil
          go_simp
          refine (slot_nat r A n c D m e ox s2 w55 (HSv.out w55 hHeld) HOb.out.2 HS1.out.2.2).mono ?_
          rintro e w56 ⟨rfl, hb'⟩
          refine hK.out _ _ (hHeld.trans (hb'.mono hHeld.size)) (fun hHeld2 => ?_)
          clear hb'
          clear hK K hHeld
          have hHeld := hHeld2
          clear hHeld2
          try simp only [Act.put, List.setIfInBounds_toArray, List.set_cons_zero, List.set_cons_succ]
          refine wpAnyH_take (i := 28) (oi := ⟨some 68, _, _, _, _, _⟩) (v := ?_) rfl (by kernel_rfl) (by kernel_rfl) (by kernel_rfl) (fun _ _ _ h => h) (Or.inl ⟨by rfl, by intro w hSw; go_simp; try rfl⟩) (by assumption) ?_
          try simp only [Act.put, List.setIfInBounds_toArray, List.set_cons_zero, List.set_cons_succ]
          refine wpAnyH_take (i := 29) (oi := ⟨some 69, _, _, _, _, _⟩) (v := ?_) rfl (by kernel_rfl) (by kernel_rfl) (by kernel_rfl) (fun _ _ _ h => h) (Or.inl ⟨by rfl, by intro w hSw; go_simp; try rfl⟩) (by assumption) ?_
          try simp only [Act.put, List.setIfInBounds_toArray, List.set_cons_zero, List.set_cons_succ]
          refine wpAnyH_take (i := 30) (oi := ⟨some 70, _, _, _, _, _⟩) (v := ?_) rfl (by kernel_rfl) (by kernel_rfl) (by kernel_rfl) (fun _ _ _ h => h) (Or.inl ⟨by rfl, by intro w hSw; go_simp; try rfl⟩) (by assumption) ?_
          try simp only [Act.put, List.setIfInBounds_toArray, List.set_cons_zero, List.set_cons_succ]
          refine wpAnyH_take (i := 31) (oi := ⟨some 71, _, _, _, _, _⟩) (v := ?_) rfl (by kernel_rfl) (by kernel_rfl) (by kernel_rfl) (fun _ _ _ h => h) (Or.inl ⟨by rfl, by intro w hSw; go_simp; try rfl⟩) (by assumption) ?_
          try simp only [Act.put, List.setIfInBounds_toArray, List.set_cons_zero, List.set_cons_succ]
          refine wpAnyH_take (i := 32) (oi := ⟨some 72, _, _, _, _, _⟩) (v := ?_) rfl (by kernel_rfl) (by kernel_rfl) (by kernel_rfl) (fun _ _ _ h => h) (Or.inl ⟨by rfl, by intro w hSw; go_simp; try rfl⟩) (by assumption) ?_
          try simp only [Act.put, List.setIfInBounds_toArray, List.set_cons_zero, List.set_cons_succ]
          refine wpAnyH_take (i := 33) (oi := ⟨some 73, _, _, _, _, _⟩) (v := _) rfl (by kernel_rfl) (by kernel_rfl) (by kernel_rfl) (fun _ _ _ h => h) (Or.inl ⟨by rfl, fun W hW => by have ce : W.cell? ⟨w7.heap.size, 0, none⟩ = some (.int .u64 r.num) := (hW.cell (p := ⟨w7.heap.size, 0, none⟩) (HLy.out)).trans (HYx9'.out.cell? 0); go_simp; try rfl⟩) (by assumption) ?_
          try simp only [Act.put, List.setIfInBounds_toArray, List.set_cons_zero, List.set_cons_succ]
          refine wpAnyH_take (i := 34) (oi := ⟨some 74, _, _, _, _, _⟩) (v := ?_) rfl (by kernel_rfl) (by kernel_rfl) (by kernel_rfl) (fun _ _ _ h => h) (Or.inl ⟨by rfl, by intro w hSw; go_simp; try rfl⟩) (by assumption) ?_
          try simp only [Act.put, List.setIfInBounds_toArray, List.set_cons_zero, List.set_cons_succ]
          refine wpAnyH_take (i := 35) (oi := ⟨some 75, _, _, _, _, _⟩) (v := _) rfl (by kernel_rfl) (by kernel_rfl) (by kernel_rfl) (fun _ _ _ h => h) (Or.inl ⟨by rfl, fun W hW => by have ce : W.cell? ⟨w.heap.size, 0, none⟩ = some (.int .u64 r.num) := (hW.cell (p := ⟨w.heap.size, 0, none⟩) (Nat.lt_of_lt_of_le HLx.out (Nat.le_refl _))).trans (HX9.out.cell? 0); go_simp; try rfl⟩) (by assumption) ?_
          try simp only [Act.put, List.setIfInBounds_toArray, List.set_cons_zero, List.set_cons_succ]
          refine wpAnyH_take (i := 36) (oi := ⟨some 76, _, _, _, _, _⟩) (v := ?_) rfl (by kernel_rfl) (by kernel_rfl) (by kernel_rfl) (fun _ _ _ h => h) (Or.inl ⟨by rfl, by intro w hSw; go_simp; try rfl⟩) (by assumption) ?_
          try simp only [Act.put, List.setIfInBounds_toArray, List.set_cons_zero, List.set_cons_succ]
          refine wpAnyH_take (i := 37) (oi := ⟨some 77, _, _, _, _, _⟩) (v := ?_) rfl (by kernel_rfl) (by kernel_rfl) (by kernel_rfl) (fun _ _ _ h => h) (Or.inl ⟨by rfl, by intro w hSw; go_simp; try rfl⟩) (by assumption) ?_
          try simp only [Act.put, List.setIfInBounds_toArray, List.set_cons_zero, List.set_cons_succ]
          refine wpAnyH_take (i := 38) (oi := ⟨some 78, _, _, _, _, _⟩) (v := ?_) rfl (by kernel_rfl) (by kernel_rfl) (by kernel_rfl) (fun _ _ _ h => h) (Or.inl ⟨by rfl, by intro w hSw; go_simp; try rfl⟩) (by assumption) ?_
          try simp only [Act.put, List.setIfInBounds_toArray, List.set_cons_zero, List.set_cons_succ]
          refine wpAnyH_take (i := 39) (oi := ⟨some 79, _, _, _, _, _⟩) (v := _) rfl (by kernel_rfl) (by kernel_rfl) (by kernel_rfl) (fun _ _ _ h => h) (yieldsIf_load_mid (by rfl) _ (.tmp 3) rfl _ _ rfl (rcL r.num r.blk A n c D m e) _ (fun W hW => range_below HRx.out hW (Nat.lt_of_lt_of_le HLx.out (Nat.le_refl _))) rwSeal.ty rwSeal.row rwSeal.size) (by assumption) ?_
          try simp only [Act.put, List.setIfInBounds_toArray, List.set_cons_zero, List.set_cons_succ]
          refine wpAnyH_take (i := 40) (oi := ⟨some 80, _, _, _, _, _⟩) (v := _) rfl (by kernel_rfl) (by kernel_rfl) (by kernel_rfl) (fun _ _ _ h => h) (yieldsIf_load_mid (by rfl) _ (.tmp 10) rfl _ _ rfl (rcL y.num y.blk A7 n c7 D7 m e7) _ (fun W hW => range_below HRy.out hW (HLy.out)) rwSeal.ty rwSeal.row rwSeal.size) (by assumption) ?_
          try simp only [Act.put, List.setIfInBounds_toArray, List.set_cons_zero, List.set_cons_succ]
          refine wpAnyH_ready (rs := [41]) (by kernel_rfl) (by simp) ?_
          refine AllReadyH.cons (o := ⟨some 81, _, _, _, _, _⟩) rfl (fun K hK => ?_) AllReadyH.nil
          go_simp
          refine (same_as false r y A n c D m e A7 n c7 D7 m e7 w56 (HSv.out w56 hHeld) (HYv.out w56 hHeld) HYs.out).mono ?_
          rintro e w57 ⟨rfl, hb'⟩
          refine hK.out _ _ (hHeld.trans (hb'.mono hHeld.size)) (fun hHeld2 => ?_)
          clear hb'
          clear hK K hHeld
          have hHeld := hHeld2
          clear hHeld2
          try simp only [Act.put, List.setIfInBounds_toArray, List.set_cons_zero, List.set_cons_succ]
          refine wpAnyH_take (i := 42) (oi := ⟨some 82, _, _, _, _, _⟩) (v := ?_) rfl (by kernel_rfl) (by kernel_rfl) (by kernel_rfl) (fun _ _ _ h => h) (Or.inl ⟨by rfl, by intro w hSw; go_simp; try rfl⟩) (by assumption) ?_
          try simp only [Act.put, List.setIfInBounds_toArray, List.set_cons_zero, List.set_cons_succ]
          refine wpAnyH_take (i := 43) (oi := ⟨some 83, _, _, _, _, _⟩) (v := ?_) rfl (by kernel_rfl) (by kernel_rfl) (by kernel_rfl) (fun _ _ _ h => h) (Or.inl ⟨by rfl, by intro w hSw; go_simp; try rfl⟩) (by assumption) ?_
          try simp only [Act.put, List.setIfInBounds_toArray, List.set_cons_zero, List.set_cons_succ]
          refine wpAnyH_take (i := 44) (oi := ⟨some 84, _, _, _, _, _⟩) (v := ?_) rfl (by kernel_rfl) (by kernel_rfl) (by kernel_rfl) (fun _ _ _ h => h) (Or.inl ⟨by rfl, by intro w hSw; go_simp; try rfl⟩) (by assumption) ?_
          try simp only [Act.put, List.setIfInBounds_toArray, List.set_cons_zero, List.set_cons_succ]
          refine wpAnyH_ready (rs := [45]) (by kernel_rfl) (by simp) ?_
          refine AllReadyH.cons (o := ⟨some 85, _, _, _, _, _⟩) rfl (fun K hK => ?_) AllReadyH.nil
          go_simp
          refine (known8_any w57).mono ?_
          rintro e w58 ⟨rfl, hb'⟩
          refine hK.out _ _ (hHeld.trans (hb'.mono hHeld.size)) (fun hHeld2 => ?_)
          clear hb'
          clear hK K hHeld
          have hHeld := hHeld2
          clear hHeld2
          try simp only [Act.put, List.setIfInBounds_toArray, List.set_cons_zero, List.set_cons_succ]
          refine wpAnyH_take (i := 46) (oi := ⟨some 86, _, _, _, _, _⟩) (v := ?_) rfl (by kernel_rfl) (by kernel_rfl) (by kernel_rfl) (fun _ _ _ h => h) (Or.inl ⟨by rfl, by intro w hSw; go_simp; try rfl⟩) (by assumption) ?_
          try simp only [Act.put, List.setIfInBounds_toArray, List.set_cons_zero, List.set_cons_succ]
          refine wpAnyH_take (i := 47) (oi := ⟨some 6, _, _, _, _, _⟩) (v := ?_) rfl (by kernel_rfl) (by kernel_rfl) (by kernel_rfl) (fun _ _ _ h => h) (Or.inl ⟨by rfl, by intro w hSw; go_simp; try rfl⟩) (by assumption) ?_
          try simp only [Act.put, List.setIfInBounds_toArray, List.set_cons_zero, List.set_cons_succ]
          refine wpAnyH_done (by kernel_rfl) ?_ _
          have HBe : Kp (Below w.heap.size w w58) := ⟨HB9.out.trans (hHeld.mono HB9.out.size)⟩
          clear hHeld
          go_wp2
          go_ret
          exact ⟨rfl, HBe.out⟩
    · have hd : decide (Rt r) = false := decide_eq_false ht
      rw [hd]
      clear hd ht
      go_wp2_with fail
      refine (known8_any w3).mono ?_
      rintro xk wk ⟨rfl, hbk⟩
      have HBk : Kp (Below w.heap.size w wk) := ⟨HB3.out.trans (hbk.mono HB3.out.size)⟩
      clear hbk
      go_wp2
      go_ret
      exact ⟨rfl, HBk.out⟩
end Go.Proofs.Ytadpfbjpkbpanaa
