/- BlockBack's walk. -/
import Derived.Test.YtckmobpjdpjocaaDoorG09
import Derived.Test.YtckmobpjdpjocaaDoorG12
import Derived.Test.YtckmobpjdpjocaaDoorG08
import Derived.Deep.RegionHeld3
import Derived.StillTailTactics
namespace Go.Proofs.YtckmobpjdpjocaaDoor
open Go.RowKit

theorem Bs.cellD {w : World} {B : Nat} {A : Option Addr} {n c : Nat} {l : List UInt8} (h : Bs w B A n c l) {i : Nat} (hi : i < n) : ∃ b o, A = some ⟨b, o, none⟩ ∧ b < B ∧ w.cell? ⟨b, o + i, none⟩ = some (.int .u8 ((l.getD i 0).toNat : Int)) := by
  obtain ⟨b, o, e, hb, hc⟩ := h.cell hi
  have hl := h.len
  refine ⟨b, o, e, hb, ?_⟩
  rw [hc]
  simp [List.getD, List.getElem?_eq_getElem (show i < l.length by omega)]
theorem Bs.pre {w : World} {B : Nat} {A : Option Addr} {n c : Nat} {l : List UInt8} (h : Bs w B A n c l) {k : Nat} (hk : k ≤ n) : Bs w B A k c (l.take k) := by
  have hl := h.len
  have hc := h.cap
  refine ⟨by rw [List.length_take]; omega, by omega, h.max, fun hA => ?_, fun h0 => ?_⟩
  · exact h.nil hA
  · obtain ⟨b, o, e, hb, hcs⟩ := h.cells (by omega)
    refine ⟨b, o, e, hb, fun j hj => ?_⟩
    have hj2 : j < l.length := by simp at hj; omega
    have h3 := hcs j hj2
    simpa using h3
theorem pad_take (b : List UInt8) (n : Nat) (h : b.length = n) : (pad256 b).take n = b := by
  unfold pad256
  rw [List.take_append_of_le_length (by omega), List.take_of_length_le (by omega)]
theorem pad_zero (b : List UInt8) (i : Nat) (h : b.length ≤ i) (h2 : i < 256) : (pad256 b).getD i 0 = 0 := by
  unfold pad256
  rw [List.getD, List.getElem?_append_right h, List.getElem?_replicate, if_pos (by omega)]
  rfl
theorem hideL_behind (key : List UInt8) (e s : Nat) (b : List UInt8) (i : Nat) (h : i < 256) : (hideL key e s b).getD (16 + i) 0 = (strL (strF key (headL e s)) 256).getD i 0 ^^^ (pad256 b).getD i 0 := by
  unfold hideL xorL
  rw [List.getD, List.getElem?_append_right (by rw [headL_length]; omega), headL_length, show 16 + i - 16 = i by omega]
  simp [addL, List.getElem?_map, List.getElem?_range h]
theorem seq_more (e s m : Nat) (he : e < 18446744073709551616) (hs : s < 4294967296) (hm : m < 4294967296) : (headL e s == headL e ((s + m) % 4294967296)) = ((m : Int) == 0) := by
  have h := headL_inj he hs he (Nat.mod_lt (s + m) (show 0 < 4294967296 by omega))
  by_cases h0 : m = 0
  · subst h0
    rw [Nat.add_zero, Nat.mod_eq_of_lt hs]
    simp
  · have h1 : ((m : Int) == 0) = false := by simp only [beq_eq_false_iff_ne, ne_eq]; omega
    rw [h1]
    simp only [beq_eq_false_iff_ne, ne_eq]
    rw [h]
    rintro ⟨_, h2⟩
    omega

set_option maxRecDepth 100000 in
theorem back_big (key : List UInt8) (e s : Nat) (A : Option Addr) (n c : Nat) (b : List UInt8) (m : Nat) (w : World) (ha : Bs w w.heap.size A n c b) (hm : 256 < n) :
    Calls Tryd.prog 5 #[.agg (cells8 key).toArray, .int .u64 e, .int .u32 s, .slice A n c, .int .u32 m] w fun x w' => x = .returned (.bool true) ∧ Below w.heap.size w w' := by
  have hn2 := ha.cap
  have hn3 := ha.le
  have hnI : (256 : Int) < (n : Int) := by omega
  clear ha
  go_enter Tryd.func5, Tryd.ntmps5
  go_wp2_with (with_reducible refine wpList_box (o := ⟨some 5, _, _, _, _, _⟩) rfl (.tmp 0) rfl rfl ?_)
  intro w1 hk1 hb1 hs1
  clear hk1 hs1
  go_wp2_with fail
  refine (known_any w1).mono ?_
  rintro x w8 ⟨rfl, hb8⟩
  have hB := hb1.trans (hb8.mono hb1.size)
  clear hb8
  go_wp2
  go_ret
  exact ⟨rfl, hB⟩

set_option maxRecDepth 100000 in
set_option maxHeartbeats 8000000 in
theorem back_small (key : List UInt8) (e s : Nat) (A : Option Addr) (n c : Nat) (b : List UInt8) (m : Nat) (w : World) (hk : key.length = 16) (he : e < 18446744073709551616) (hs : s < 4294967296) (hm : m < 4294967296) (ha : Bs w w.heap.size A n c b) (hsm : n ≤ 256) :
    Calls Tryd.prog 5 #[.agg (cells8 key).toArray, .int .u64 e, .int .u32 s, .slice A n c, .int .u32 m] w fun x w' => x = .returned (.bool true) ∧ Below w.heap.size w w' := by
  have HA : Kp _ := ⟨ha⟩
  have HK : Kp _ := ⟨hk⟩
  have HKl : Kp ((cells8 key).length = 16) := ⟨by rw [cells8_length]; exact hk⟩
  have HEs : Kp (e < 18446744073709551616 ∧ s < 4294967296) := ⟨⟨he, hs⟩⟩
  have hbl := ha.len
  have hnI : (n : Int) ≤ 256 := by omega
  have hn2 := ha.cap
  have hn3 := ha.le
  have HSh : Kp _ := ⟨show_hide key e s b (by omega)⟩
  have HRi : Kp _ := ⟨hideL_right key e s b⟩
  have HPt : Kp _ := ⟨pad_take b n hbl⟩
  have HP0 : Kp (∀ i, n ≤ i → i < 256 → (pad256 b).getD i 0 = 0) := ⟨fun i h1 h2 => pad_zero b i (by omega) h2⟩
  have HBe : Kp _ := ⟨hideL_behind key e s b⟩
  have HTk : Kp _ := ⟨hideL_take key e s b⟩
  have HTk2 : Kp _ := ⟨hideL_take key e ((s + m) % 4294967296) b⟩
  have HSm : Kp _ := ⟨seq_more e s m he hs hm⟩
  have HHl : Kp ((headL e s).length = 16) := ⟨headL_length e s⟩
  have HS2 : Kp ((s + m) % 4294967296 < 4294967296) := ⟨Nat.mod_lt _ (by omega)⟩
  have hwr : IntKind.u32.wrap ((s : Int) + (m : Int)) = (((s + m) % 4294967296 : Nat) : Int) := by rw [IntKind.wrap_u32]; omega
  obtain ⟨s2, hs2⟩ : ∃ x, x = (s + m) % 4294967296 := ⟨_, rfl⟩
  rw [← hs2] at HTk2 HSm HS2 hwr
  obtain ⟨bb, hbb⟩ : ∃ x, x = ((m : Int) == 0) := ⟨_, rfl⟩
  rw [← hbb] at HSm
  have HBB : Kp _ := ⟨hbb⟩
  have HWr : Kp _ := ⟨hwr⟩
  clear ha hk he hs hm hbl hs2 hbb hwr
  go_enter Tryd.func5, Tryd.ntmps5
  go_wp2_with (with_reducible refine wpList_box (o := ⟨some 5, _, _, _, _, _⟩) rfl (.tmp 0) rfl rfl ?_)
  intro w1 hk1 hb1 hs1
  have HK1 : Kp _ := ⟨hk1⟩
  replace HA : Kp _ := ⟨HA.out.next hb1 (Nat.le_refl _)⟩
  have hB := hb1
  clear hk1 hs1 hb1
  go_wp2_with (with_reducible refine wpList_loadAll (o := ⟨some 25, _, _, _, _, _⟩) rwKey rfl (.tmp 5) rfl rfl HK1.out HKl.out ?_)
  refine (hide_any key e s A n c b w1 HK.out HEs.out.1 HEs.out.2 hsm HA.out).mono ?_
  rintro x w2 ⟨A2, c2, rfl, hx2, hb2⟩
  have HX : Kp _ := ⟨hx2⟩
  replace HK1 : Kp _ := ⟨HK1.out.below hb2 HK1.out.lt⟩
  replace HA : Kp _ := ⟨HA.out.next hb2 (Nat.le_refl _)⟩
  replace hB := hB.trans (hb2.mono hB.size)
  clear hb2 hx2
  obtain ⟨X, hX⟩ : ∃ X, X = hideL key e s b := ⟨_, rfl⟩
  rw [← hX] at HX HSh HRi HBe HTk
  clear hX
  go_wp2_with (with_reducible refine wpList_loadAll (o := ⟨some 33, _, _, _, _, _⟩) rwKey rfl (.tmp 5) rfl rfl HK1.out HKl.out ?_)
  refine (show_any key A2 272 c2 X w2 HK.out HX.out HRi.out).mono ?_
  rw [HSh.out]
  rintro x w3 ⟨A3, c3, rfl, hx3, hb3⟩
  have HP : Kp _ := ⟨hx3⟩
  replace HX : Kp _ := ⟨HX.out.next hb3 (Nat.le_refl _)⟩
  replace HK1 : Kp _ := ⟨HK1.out.below hb3 HK1.out.lt⟩
  replace HA : Kp _ := ⟨HA.out.next hb3 (Nat.le_refl _)⟩
  replace hB := hB.trans (hb3.mono hB.size)
  clear hb3 hx3 HSh HRi
  obtain ⟨P, hP⟩ : ∃ P, P = pad256 b := ⟨_, rfl⟩
  rw [← hP] at HP HPt HP0 HBe
  clear hP
  go_wp2_with (refine wpList_cut_h_g (o := ⟨some 53, _, _, _, _, _⟩) el8 (by rfl) (.tmp 50) (.tmp 52) rfl rfl HP.out .i64 (n : Int) n rfl rfl hsm ?_)
  intro A4 hx4
  rw [HPt.out] at hx4
  have HX4 : Kp _ := ⟨hx4⟩
  clear hx4
  go_wp2_with fail
  refine (same_any A4 A n c3 n c b b w3 _ _ HX4.out HA.out).mono ?_
  rw [beq_self_eq_true]
  rintro x w4 ⟨rfl, rfl⟩
  clear HX4 HPt
  go_wp2
  go_loop [15] (fun vi => ∃ k : Nat, n ≤ k ∧ k ≤ 256 ∧ vi = .int .i64 k) (fun vi => 256 - (intOf vi).toNat)
  case atStart => exact ⟨n, Nat.le_refl _, hsm, rfl⟩
  case round =>
    obtain ⟨k, hnk, hk, rfl⟩ := hrel
    by_cases hlt : k < 256
    · obtain ⟨bp, op, rfl, hbp, hcp⟩ := HP.out.cellD (i := k) hlt
      rw [HP0.out k hnk hlt, show ((0 : UInt8).toNat : Int) = 0 from rfl] at hcp
      have hkI : (k : Int) < 256 := by omega
      go_wp2
      go_round
      case rel => exact ⟨k + 1, by omega, by omega, by go_num⟩
      case measure => simp [intOf]; omega
    · have hkI : (256 : Int) ≤ (k : Int) := by omega
      clear HP0
      go_wp2_with (with_reducible refine wpList_loadAll (o := ⟨some 69, _, _, _, _, _⟩) rwKey rfl (.tmp 5) rfl rfl HK1.out HKl.out ?_)
      refine (new_any key w3 HK.out).mono ?_
      rintro x w5 ⟨gc, rfl, hci, hb5⟩
      have HC : Kp _ := ⟨hci⟩
      replace HX : Kp _ := ⟨HX.out.next hb5 (Nat.le_refl _)⟩
      replace HP : Kp _ := ⟨HP.out.next hb5 (Nat.le_refl _)⟩
      replace HK1 : Kp _ := ⟨HK1.out.below hb5 HK1.out.lt⟩
      replace HA : Kp _ := ⟨HA.out.next hb5 (Nat.le_refl _)⟩
      replace hB := hB.trans (hb5.mono hB.size)
      clear hb5 hci
      go_wp2_with fail
      refine (head_any e s w5 HEs.out.1 HEs.out.2).mono ?_
      rintro x w6 ⟨rfl, hb6⟩
      replace HC : Kp _ := ⟨HC.out.below hb6⟩
      replace HX : Kp _ := ⟨HX.out.next hb6 (Nat.le_refl _)⟩
      replace HP : Kp _ := ⟨HP.out.next hb6 (Nat.le_refl _)⟩
      replace HK1 : Kp _ := ⟨HK1.out.below hb6 HK1.out.lt⟩
      replace HA : Kp _ := ⟨HA.out.next hb6 (Nat.le_refl _)⟩
      replace hB := hB.trans (hb6.mono hB.size)
      clear hb6
      go_wp2_with fail
      refine (stream_mid gc key (headL e s) 256 w6 HC.out HHl.out (by omega)).mono ?_
      rintro x w7 ⟨v7, rfl, ho7, hb7⟩
      obtain ⟨A7, c7, rfl, hx7⟩ := Bs.of_own ho7
      have HSt : Kp _ := ⟨hx7⟩
      replace HX : Kp _ := ⟨HX.out.next hb7 (Nat.le_refl _)⟩
      replace HP : Kp _ := ⟨HP.out.next hb7 (Nat.le_refl _)⟩
      replace HK1 : Kp _ := ⟨HK1.out.below hb7 HK1.out.lt⟩
      replace HA : Kp _ := ⟨HA.out.next hb7 (Nat.le_refl _)⟩
      replace hB := hB.trans (hb7.mono hB.size)
      clear hb7 ho7 hx7 HC
      obtain ⟨S, hS⟩ : ∃ S, S = strL (strF key (headL e s)) 256 := ⟨_, rfl⟩
      rw [← hS] at HSt HBe
      clear hS hlt hnk hk hkI
      go_wp2
      go_loopw [17] (fun vi wr => ∃ k : Nat, k ≤ 256 ∧ vi = .int .i64 k ∧ Below w7.heap.size w7 wr) (fun vi _ => 256 - (intOf vi).toNat)
      case atStart => exact ⟨0, by omega, rfl, Below.refl _ _⟩
      case round =>
        obtain ⟨k, hk, rfl, hBk⟩ := hrel
        by_cases hlt : k < 256
        · obtain ⟨k16, hk16⟩ : ∃ j, j = 16 + k := ⟨_, rfl⟩
          obtain ⟨b1, o1, rfl, hb1, hc1⟩ := (HX.out.below hBk).cellD (i := k16) (by omega)
          obtain ⟨b2, o2, rfl, hb2, hc2⟩ := (HP.out.below hBk).cellD (i := k) hlt
          obtain ⟨b3, o3, rfl, hb3, hc3⟩ := (HSt.out.below hBk).cellD (i := k) hlt
          have hxx := HBe.out k hlt
          rw [← hk16] at hxx
          rw [hxx] at hc1
          clear hxx
          generalize P.getD k 0 = x at *
          generalize S.getD k 0 = y at *
          obtain ⟨z, hz⟩ : ∃ z, z = y ^^^ x := ⟨_, rfl⟩
          rw [← hz] at hc1
          have hv2 : bits .xor .u8 (x.toNat : Int) (y.toNat : Int) = (z.toNat : Int) := by rw [u8_xor', hz, UInt8.xor_comm]
          have hne : ((z.toNat : Int) != (z.toNat : Int)) = false := by simp
          have hw16 : IntKind.i64.wrap (16 + (k : Int)) = (k16 : Int) := by rw [IntKind.wrap_i64]; omega
          have h272 : (k16 : Int) < 272 := by omega
          have hkI : (k : Int) < 256 := by omega
          have h0k : (0 : Int) ≤ (k16 : Int) := by omega
          have HH16 : Kp _ := ⟨hk16⟩
          clear hz hk16
          go_wp2_with fail
          go_still (by kernel_rfl)
          go_wp2
          go_roundw
          case rel => exact ⟨k + 1, by omega, by go_num, hBk.drew⟩
          case measure => simp [intOf]; omega
        · have hkI : (256 : Int) ≤ (k : Int) := by omega
          replace HX : Kp _ := ⟨HX.out.next hBk (Nat.le_refl _)⟩
          replace HK1 : Kp _ := ⟨HK1.out.below hBk HK1.out.lt⟩
          replace HA : Kp _ := ⟨HA.out.next hBk (Nat.le_refl _)⟩
          replace hB := hB.trans (hBk.mono hB.size)
          have hwr2 := HWr.out
          clear HP HSt hlt HBe hBk
          go_wp2_with (with_reducible refine wpList_loadAll (o := ⟨some 95, _, _, _, _, _⟩) rwKey rfl (.tmp 5) rfl rfl HK1.out HKl.out ?_)
          refine (hide_any key e s2 A n c b _ HK.out HEs.out.1 HS2.out hsm HA.out).mono ?_
          rintro x w9 ⟨A9, c9, rfl, hx9, hb9⟩
          have HY : Kp _ := ⟨hx9.pre (k := 16) (by omega)⟩
          have HXp : Kp _ := ⟨(HX.out.next hb9 (Nat.le_refl _)).pre (k := 16) (by omega)⟩
          rw [HTk2.out] at HY
          rw [HTk.out] at HXp
          have hcX := HX.out.cap
          have hc9 := hx9.cap
          replace hB := hB.trans (hb9.mono hB.size)
          have hmm := HBB.out.symm
          have hbq : (bb == bb) = true := by simp
          clear hb9 hx9 HX HTk HTk2 HK1 HA hwr2
          go_wp2_with fail
          refine wp_region_held_drew (S := fun W => Below w9.heap.size w9 W) (by kernel_rfl) ((Below.refl _ _).drew) (fun hHeld => ?_)
          generalize w9.drew = wS at *
          refine wpAnyH_take (i := 0) (oi := ⟨some 104, _, _, _, _, _⟩) (v := ?_) rfl (by kernel_rfl) (by kernel_rfl) (by kernel_rfl) (fun _ _ _ h => h) (Or.inl ⟨by rfl, by intro w hSw; go_simp; try rfl⟩) (by assumption) ?_
          try simp only [Act.put, List.setIfInBounds_toArray, List.set_cons_zero, List.set_cons_succ]
          refine wpAnyH_take (i := 1) (oi := ⟨some 105, _, _, _, _, _⟩) (v := ?_) rfl (by kernel_rfl) (by kernel_rfl) (by kernel_rfl) (fun _ _ _ h => h) (Or.inl ⟨by rfl, by intro w hSw; go_simp; try rfl⟩) (by assumption) ?_
          try simp only [Act.put, List.setIfInBounds_toArray, List.set_cons_zero, List.set_cons_succ]
          refine wpAnyH_take (i := 2) (oi := ⟨some 106, _, _, _, _, _⟩) (v := ?_) rfl (by kernel_rfl) (by kernel_rfl) (by kernel_rfl) (fun _ _ _ h => h) (Or.inl ⟨by rfl, by intro w hSw; go_simp; try rfl⟩) (by assumption) ?_
          try simp only [Act.put, List.setIfInBounds_toArray, List.set_cons_zero, List.set_cons_succ]
          refine wpAnyH_take (i := 3) (oi := ⟨some 107, _, _, _, _, _⟩) (v := ?_) rfl (by kernel_rfl) (by kernel_rfl) (by kernel_rfl) (fun _ _ _ h => h) (Or.inl ⟨by rfl, by intro w hSw; go_simp; try rfl⟩) (by assumption) ?_
          try simp only [Act.put, List.setIfInBounds_toArray, List.set_cons_zero, List.set_cons_succ]
          refine wpAnyH_take (i := 4) (oi := ⟨some 108, _, _, _, _, _⟩) (v := _) rfl (by kernel_rfl) (by kernel_rfl) (by kernel_rfl) (fun _ _ _ h => h) (yieldsIf_cut_h (by rfl) el8 (.tmp 107) (.const (.int .i64 16)) rfl rfl rfl 16 rfl (by omega)) (by assumption) ?_
          try simp only [Act.put, List.setIfInBounds_toArray, List.set_cons_zero, List.set_cons_succ]
          refine wpAnyH_take (i := 5) (oi := ⟨some 109, _, _, _, _, _⟩) (v := ?_) rfl (by kernel_rfl) (by kernel_rfl) (by kernel_rfl) (fun _ _ _ h => h) (Or.inl ⟨by rfl, by intro w hSw; go_simp; try rfl⟩) (by assumption) ?_
          try simp only [Act.put, List.setIfInBounds_toArray, List.set_cons_zero, List.set_cons_succ]
          refine wpAnyH_take (i := 6) (oi := ⟨some 110, _, _, _, _, _⟩) (v := _) rfl (by kernel_rfl) (by kernel_rfl) (by kernel_rfl) (fun _ _ _ h => h) (yieldsIf_cut_h (by rfl) el8 (.tmp 109) (.const (.int .i64 16)) rfl rfl rfl 16 rfl (by omega)) (by assumption) ?_
          try simp only [Act.put, List.setIfInBounds_toArray, List.set_cons_zero, List.set_cons_succ]
          refine wpAnyH_take (i := 8) (oi := ⟨some 112, _, _, _, _, _⟩) (v := ?_) rfl (by kernel_rfl) (by kernel_rfl) (by kernel_rfl) (fun _ _ _ h => h) (Or.inl ⟨by rfl, by intro w hSw; go_simp; try rfl⟩) (by assumption) ?_
          try simp only [Act.put, List.setIfInBounds_toArray, List.set_cons_zero, List.set_cons_succ]
          refine wpAnyH_take (i := 9) (oi := ⟨some 113, _, _, _, _, _⟩) (v := ?_) rfl (by kernel_rfl) (by kernel_rfl) (by kernel_rfl) (fun _ _ _ h => h) (Or.inl ⟨by rfl, by intro w hSw; go_simp; try rfl⟩) (by assumption) ?_
          try simp only [Act.put, List.setIfInBounds_toArray, List.set_cons_zero, List.set_cons_succ]
          refine wpAnyH_ready (rs := [7]) (by kernel_rfl) (by simp) ?_
          refine AllReadyH.cons (o := ⟨some 111, _, _, _, _, _⟩) rfl (fun K hK => ?_) AllReadyH.nil
          go_simp
          refine (same_any A2 A9 16 c2 16 c9 (headL e s) (headL e s2) wS _ _ (HXp.out.below hHeld) (HY.out.below hHeld)).mono ?_
          rw [HSm.out]
          rintro x w51 ⟨rfl, hww⟩
          replace hww := hww.symm
          subst hww
          refine hK.out _ _ hHeld (fun hHeld2 => ?_)
          clear hK K hHeld
          have hHeld := hHeld2
          clear hHeld2
          try simp only [Act.put, List.setIfInBounds_toArray, List.set_cons_zero, List.set_cons_succ]
          refine wpAnyH_take (i := 10) (oi := ⟨some 114, _, _, _, _, _⟩) (v := ?_) rfl (by kernel_rfl) (by kernel_rfl) (by kernel_rfl) (fun _ _ _ h => h) (Or.inl ⟨by rfl, by intro w hSw; go_simp; try rfl⟩) (by assumption) ?_
          try simp only [Act.put, List.setIfInBounds_toArray, List.set_cons_zero, List.set_cons_succ]
          refine wpAnyH_take (i := 11) (oi := ⟨some 115, _, _, _, _, _⟩) (v := ?_) rfl (by kernel_rfl) (by kernel_rfl) (by kernel_rfl) (fun _ _ _ h => h) (Or.inl ⟨by rfl, by intro w hSw; go_simp; try rfl⟩) (by assumption) ?_
          try simp only [Act.put, List.setIfInBounds_toArray, List.set_cons_zero, List.set_cons_succ]
          refine wpAnyH_take (i := 12) (oi := ⟨some 116, _, _, _, _, _⟩) (v := ?_) rfl (by kernel_rfl) (by kernel_rfl) (by kernel_rfl) (fun _ _ _ h => h) (Or.inl ⟨by rfl, by intro w hSw; go_simp; try rfl⟩) (by assumption) ?_
          try simp only [Act.put, List.setIfInBounds_toArray, List.set_cons_zero, List.set_cons_succ]
          refine wpAnyH_ready (rs := [13]) (by kernel_rfl) (by simp) ?_
          refine AllReadyH.cons (o := ⟨some 117, _, _, _, _, _⟩) rfl (fun K hK => ?_) AllReadyH.nil
          go_simp
          refine (known_any w51).mono ?_
          rintro x w52 ⟨rfl, hb'⟩
          refine hK.out _ _ (hHeld.trans (hb'.mono hHeld.size)) (fun hHeld2 => ?_)
          clear hb'
          clear hK K hHeld
          have hHeld := hHeld2
          clear hHeld2
          try simp only [Act.put, List.setIfInBounds_toArray, List.set_cons_zero, List.set_cons_succ]
          refine wpAnyH_take (i := 14) (oi := ⟨some 118, _, _, _, _, _⟩) (v := ?_) rfl (by kernel_rfl) (by kernel_rfl) (by kernel_rfl) (fun _ _ _ h => h) (Or.inl ⟨by rfl, by intro w hSw; go_simp; try rfl⟩) (by assumption) ?_
          try simp only [Act.put, List.setIfInBounds_toArray, List.set_cons_zero, List.set_cons_succ]
          refine wpAnyH_take (i := 15) (oi := ⟨some 10, _, _, _, _, _⟩) (v := ?_) rfl (by kernel_rfl) (by kernel_rfl) (by kernel_rfl) (fun _ _ _ h => h) (Or.inl ⟨by rfl, by intro w hSw; go_simp; try rfl⟩) (by assumption) ?_
          try simp only [Act.put, List.setIfInBounds_toArray, List.set_cons_zero, List.set_cons_succ]
          refine wpAnyH_done (by kernel_rfl) ?_ _
          have hBf := hB.trans (hHeld.mono hB.size)
          clear hHeld hB
          go_wp2
          go_ret
          exact ⟨rfl, hBf⟩
theorem law_blockBack (key : List UInt8) (e s : Int) (A : Option Addr) (n c : Nat) (b : List UInt8) (m : Int) (w : World) (hk : key.length = 16) (he : (Lit.int .u64 e).wf = true) (hs : (Lit.int .u32 s).wf = true) (ha : Bs w w.heap.size A n c b ∧ c ≤ 140737488351232) (hm : (Lit.int .u32 m).wf = true) (_hE : Ety w) :
    Calls Tryd.prog 5 #[.agg (cells8 key).toArray, .int .u64 e, .int .u32 s, .slice A n c, .int .u32 m] w fun x w' => x = .returned (.bool true) ∧ Below w.heap.size w w' := by
  have he2 : 0 ≤ e ∧ e ≤ 18446744073709551615 := by simpa [Lit.wf, IntKind.min, IntKind.max, IntKind.signed, IntKind.bits] using he
  obtain ⟨eN, rfl⟩ := Int.eq_ofNat_of_zero_le he2.1
  have hs2 : 0 ≤ s ∧ s ≤ 4294967295 := by simpa [Lit.wf, IntKind.min, IntKind.max, IntKind.signed, IntKind.bits] using hs
  obtain ⟨sN, rfl⟩ := Int.eq_ofNat_of_zero_le hs2.1
  have hm2 : 0 ≤ m ∧ m ≤ 4294967295 := by simpa [Lit.wf, IntKind.min, IntKind.max, IntKind.signed, IntKind.bits] using hm
  obtain ⟨mN, rfl⟩ := Int.eq_ofNat_of_zero_le hm2.1
  by_cases h : n ≤ 256
  · exact back_small key eN sN A n c b mN w hk (by omega) (by omega) (by omega) ha.1 h
  · exact back_big key eN sN A n c b mN w ha.1 (by omega)
end Go.Proofs.YtckmobpjdpjocaaDoor
