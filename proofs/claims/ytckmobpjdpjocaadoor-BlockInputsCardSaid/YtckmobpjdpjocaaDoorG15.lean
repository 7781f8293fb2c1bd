/- BlockBack's walk.
   Places of a stream as numbers; append and make of rows whose things have many cells.
   The contract of block.Inputs. -/
import Derived.Test.YtckmobpjdpjocaaDoorG09
import Derived.Test.YtckmobpjdpjocaaDoorG12
import Derived.Test.YtckmobpjdpjocaaDoorG08
import Derived.Deep.RegionHeld3
import Derived.StillTailTactics
import Derived.Test.YtckmobpjdpjocaaDoorG03
import Derived.Test.YtckmobpjdpjocaaDoorG04
import Derived.Great.BuildSlice
namespace Go.Proofs.YtckmobpjdpjocaaDoor
open Go.RowKit

theorem Bs.cellD {w : World} {B : Nat} {A : Option Addr} {n c : Nat} {l : List UInt8} (h : Bs w B A n c l) {i : Nat} (hi : i < n) : ∃ b o, A = some ⟨b, o, none⟩ ∧ b < B ∧ w.cell? ⟨b, o + i, none⟩ = some (.int .u8 ((l.getD i 0).toNat : Int)) := by
  obtain ⟨b, o, e, hb, hc⟩ := h.cell hi
  have hl := h.len
  refine ⟨b, o, e, hb, ?_⟩
  rw [hc]
  simp [List.getD, List.getElem?_eq_getElem (show i < l.length by omega)]
theorem Bs.pre {w : World} {B : Nat} {A : Option Addr} {n c : Nat} {l : List UInt8} (h : Bs w B A n c l) {k : Nat} (hk : k ≤ n) : Bs w B A k c (l.take k) := by
  have hl := h.len
  have hc := h.cap
  refine ⟨by rw [List.length_take]; omega, by omega, h.max, fun hA => ?_, fun h0 => ?_⟩
  · exact h.nil hA
  · obtain ⟨b, o, e, hb, hcs⟩ := h.cells (by omega)
    refine ⟨b, o, e, hb, fun j hj => ?_⟩
    have hj2 : j < l.length := by simp at hj; omega
    have h3 := hcs j hj2
    simpa using h3
theorem pad_take (b : List UInt8) (n : Nat) (h : b.length = n) : (pad256 b).take n = b := by
  unfold pad256
  rw [List.take_append_of_le_length (by omega), List.take_of_length_le (by omega)]
theorem pad_zero (b : List UInt8) (i : Nat) (h : b.length ≤ i) (h2 : i < 256) : (pad256 b).getD i 0 = 0 := by
  unfold pad256
  rw [List.getD, List.getElem?_append_right h, List.getElem?_replicate, if_pos (by omega)]
  rfl
theorem hideL_behind (key : List UInt8) (e s : Nat) (b : List UInt8) (i : Nat) (h : i < 256) : (hideL key e s b).getD (16 + i) 0 = (strL (strF key (headL e s)) 256).getD i 0 ^^^ (pad256 b).getD i 0 := by
  unfold hideL xorL
  rw [List.getD, List.getElem?_append_right (by rw [headL_length]; omega), headL_length, show 16 + i - 16 = i by omega]
  simp [addL, List.getElem?_map, List.getElem?_range h]
theorem seq_more (e s m : Nat) (he : e < 18446744073709551616) (hs : s < 4294967296) (hm : m < 4294967296) : (headL e s == headL e ((s + m) % 4294967296)) = ((m : Int) == 0) := by
  have h := headL_inj he hs he (Nat.mod_lt (s + m) (show 0 < 4294967296 by omega))
  by_cases h0 : m = 0
  · subst h0
    rw [Nat.add_zero, Nat.mod_eq_of_lt hs]
    simp
  · have h1 : ((m : Int) == 0) = false := by simp only [beq_eq_false_iff_ne, ne_eq]; omega
    rw [h1]
    simp only [beq_eq_false_iff_ne, ne_eq]
    rw [h]
    rintro ⟨_, h2⟩
    omega

set_option maxRecDepth 100000 in
theorem back_big (key : List UInt8) (e s : Nat) (A : Option Addr) (n c : Nat) (b : List UInt8) (m : Nat) (w : World) (ha : Bs w w.heap.size A n c b) (hm : 256 < n) :
    Calls Tryd.prog 5 #[.agg (cells8 key).toArray, .int .u64 e, .int .u32 s, .slice A n c, .int .u32 m] w fun x w' => x = .returned (.bool true) ∧ Below w.heap.size w w' := by
  have hn2 := ha.cap
  have hn3 := ha.le
  have hnI : (256 : Int) < (n : Int) := by omega
  clear ha
  go_enter Tryd.func5, Tryd.ntmps5
  go_wp2_with (with_reducible refine wpList_box (o := ⟨some 5, _, _, _, _, _⟩) rfl (.tmp 0) rfl rfl ?_)
  intro w1 hk1 hb1 hs1
  clear hk1 hs1
  go_wp2_with fail
  refine (known_any w1).mono ?_
  rintro x w8 ⟨rfl, hb8⟩
  have hB := hb1.trans (hb8.mono hb1.size)
  clear hb8
  go_wp2
  go_ret
  exact ⟨rfl, hB⟩

set_option maxRecDepth 100000 in
set_option maxHeartbeats 8000000 in
theorem back_small (key : List UInt8) (e s : Nat) (A : Option Addr) (n c : Nat) (b : List UInt8) (m : Nat) (w : World) (hk : key.length = 16) (he : e < 18446744073709551616) (hs : s < 4294967296) (hm : m < 4294967296) (ha : Bs w w.heap.size A n c b) (hsm : n ≤ 256) :
    Calls Tryd.prog 5 #[.agg (cells8 key).toArray, .int .u64 e, .int .u32 s, .slice A n c, .int .u32 m] w fun x w' => x = .returned (.bool true) ∧ Below w.heap.size w w' := by
  have HA : Kp _ := ⟨ha⟩
  have HK : Kp _ := ⟨hk⟩
  have HKl : Kp ((cells8 key).length = 16) := ⟨by rw [cells8_length]; exact hk⟩
  have HEs : Kp (e < 18446744073709551616 ∧ s < 4294967296) := ⟨⟨he, hs⟩⟩
  have hbl := ha.len
  have hnI : (n : Int) ≤ 256 := by omega
  have hn2 := ha.cap
  have hn3 := ha.le
  have HSh : Kp _ := ⟨show_hide key e s b (by omega)⟩
  have HRi : Kp _ := ⟨hideL_right key e s b⟩
  have HPt : Kp _ := ⟨pad_take b n hbl⟩
  have HP0 : Kp (∀ i, n ≤ i → i < 256 → (pad256 b).getD i 0 = 0) := ⟨fun i h1 h2 => pad_zero b i (by omega) h2⟩
  have HBe : Kp _ := ⟨hideL_behind key e s b⟩
  have HTk : Kp _ := ⟨hideL_take key e s b⟩
  have HTk2 : Kp _ := ⟨hideL_take key e ((s + m) % 4294967296) b⟩
  have HSm : Kp _ := ⟨seq_more e s m he hs hm⟩
  have HHl : Kp ((headL e s).length = 16) := ⟨headL_length e s⟩
  have HS2 : Kp ((s + m) % 4294967296 < 4294967296) := ⟨Nat.mod_lt _ (by omega)⟩
  have hwr : IntKind.u32.wrap ((s : Int) + (m : Int)) = (((s + m) % 4294967296 : Nat) : Int) := by rw [IntKind.wrap_u32]; omega
  obtain ⟨s2, hs2⟩ : ∃ x, x = (s + m) % 4294967296 := ⟨_, rfl⟩
  rw [← hs2] at HTk2 HSm HS2 hwr
  obtain ⟨bb, hbb⟩ : ∃ x, x = ((m : Int) == 0) := ⟨_, rfl⟩
  rw [← hbb] at HSm
  have HBB : Kp _ := ⟨hbb⟩
  have HWr : Kp _ := ⟨hwr⟩
  clear ha hk he hs hm hbl hs2 hbb hwr
  go_enter Tryd.func5, Tryd.ntmps5
  go_wp2_with (with_reducible refine wpList_box (o := ⟨some 5, _, _, _, _, _⟩) rfl (.tmp 0) rfl rfl ?_)
  intro w1 hk1 hb1 hs1
  have HK1 : Kp _ := ⟨hk1⟩
  replace HA : Kp _ := ⟨HA.out.next hb1 (Nat.le_refl _)⟩
  have hB := hb1
  clear hk1 hs1 hb1
  go_wp2_with (with_reducible refine wpList_loadAll (o := ⟨some 25, _, _, _, _, _⟩) rwKey rfl (.tmp 5) rfl rfl HK1.out HKl.out ?_)
  refine (hide_any key e s A n c b w1 HK.out HEs.out.1 HEs.out.2 hsm HA.out).mono ?_
  rintro x w2 ⟨A2, c2, rfl, hx2, hb2⟩
  have HX : Kp _ := ⟨hx2⟩
  replace HK1 : Kp _ := ⟨HK1.out.below hb2 HK1.out.lt⟩
  replace HA : Kp _ := ⟨HA.out.next hb2 (Nat.le_refl _)⟩
  replace hB := hB.trans (hb2.mono hB.size)
  clear hb2 hx2
  obtain ⟨X, hX⟩ : ∃ X, X = hideL key e s b := ⟨_, rfl⟩
  rw [← hX] at HX HSh HRi HBe HTk
  clear hX
  go_wp2_with (with_reducible refine wpList_loadAll (o := ⟨some 33, _, _, _, _, _⟩) rwKey rfl (.tmp 5) rfl rfl HK1.out HKl.out ?_)
  refine (show_any key A2 272 c2 X w2 HK.out HX.out HRi.out).mono ?_
  rw [HSh.out]
  rintro x w3 ⟨A3, c3, rfl, hx3, hb3⟩
  have HP : Kp _ := ⟨hx3⟩
  replace HX : Kp _ := ⟨HX.out.next hb3 (Nat.le_refl _)⟩
  replace HK1 : Kp _ := ⟨HK1.out.below hb3 HK1.out.lt⟩
  replace HA : Kp _ := ⟨HA.out.next hb3 (Nat.le_refl _)⟩
  replace hB := hB.trans (hb3.mono hB.size)
  clear hb3 hx3 HSh HRi
  obtain ⟨P, hP⟩ : ∃ P, P = pad256 b := ⟨_, rfl⟩
  rw [← hP] at HP HPt HP0 HBe
  clear hP
  go_wp2_with (refine wpList_cut_h_g (o := ⟨some 53, _, _, _, _, _⟩) el8 (by rfl) (.tmp 50) (.tmp 52) rfl rfl HP.out .i64 (n : Int) n rfl rfl hsm ?_)
  intro A4 hx4
  rw [HPt.out] at hx4
  have HX4 : Kp _ := ⟨hx4⟩
  clear hx4
  go_wp2_with fail
  refine (same_any A4 A n c3 n c b b w3 _ _ HX4.out HA.out).mono ?_
  rw [beq_self_eq_true]
  rintro x w4 ⟨rfl, rfl⟩
  clear HX4 HPt
  go_wp2
  go_loop [15] (fun vi => ∃ k : Nat, n ≤ k ∧ k ≤ 256 ∧ vi = .int .i64 k) (fun vi => 256 - (intOf vi).toNat)
  case atStart => exact ⟨n, Nat.le_refl _, hsm, rfl⟩
  case round =>
    obtain ⟨k, hnk, hk, rfl⟩ := hrel
    by_cases hlt : k < 256
    · obtain ⟨bp, op, rfl, hbp, hcp⟩ := HP.out.cellD (i := k) hlt
      rw [HP0.out k hnk hlt, show ((0 : UInt8).toNat : Int) = 0 from rfl] at hcp
      have hkI : (k : Int) < 256 := by omega
      go_wp2
      go_round
      case rel => exact ⟨k + 1, by omega, by omega, by go_num⟩
      case measure => simp [intOf]; omega
    · have hkI : (256 : Int) ≤ (k : Int) := by omega
      clear HP0
      go_wp2_with (with_reducible refine wpList_loadAll (o := ⟨some 69, _, _, _, _, _⟩) rwKey rfl (.tmp 5) rfl rfl HK1.out HKl.out ?_)
      refine (new_any key w3 HK.out).mono ?_
      rintro x w5 ⟨gc, rfl, hci, hb5⟩
      have HC : Kp _ := ⟨hci⟩
      replace HX : Kp _ := ⟨HX.out.next hb5 (Nat.le_refl _)⟩
      replace HP : Kp _ := ⟨HP.out.next hb5 (Nat.le_refl _)⟩
      replace HK1 : Kp _ := ⟨HK1.out.below hb5 HK1.out.lt⟩
      replace HA : Kp _ := ⟨HA.out.next hb5 (Nat.le_refl _)⟩
      replace hB := hB.trans (hb5.mono hB.size)
      clear hb5 hci
      go_wp2_with fail
      refine (head_any e s w5 HEs.out.1 HEs.out.2).mono ?_
      rintro x w6 ⟨rfl, hb6⟩
      replace HC : Kp _ := ⟨HC.out.below hb6⟩
      replace HX : Kp _ := ⟨HX.out.next hb6 (Nat.le_refl _)⟩
      replace HP : Kp _ := ⟨HP.out.next hb6 (Nat.le_refl _)⟩
      replace HK1 : Kp _ := ⟨HK1.out.below hb6 HK1.out.lt⟩
      replace HA : Kp _ := ⟨HA.out.next hb6 (Nat.le_refl _)⟩
      replace hB := hB.trans (hb6.mono hB.size)
      clear hb6
      go_wp2_with fail
      refine (stream_mid gc key (headL e s) 256 w6 HC.out HHl.out (by omega)).mono ?_
      rintro x w7 ⟨v7, rfl, ho7, hb7⟩
      obtain ⟨A7, c7, rfl, hx7⟩ := Bs.of_own ho7
      have HSt : Kp _ := ⟨hx7⟩
      replace HX : Kp _ := ⟨HX.out.next hb7 (Nat.le_refl _)⟩
      replace HP : Kp _ := ⟨HP.out.next hb7 (Nat.le_refl _)⟩
      replace HK1 : Kp _ := ⟨HK1.out.below hb7 HK1.out.lt⟩
      replace HA : Kp _ := ⟨HA.out.next hb7 (Nat.le_refl _)⟩
      replace hB := hB.trans (hb7.mono hB.size)
      clear hb7 ho7 hx7 HC
      obtain ⟨S, hS⟩ : ∃ S, S = strL (strF key (headL e s)) 256 := ⟨_, rfl⟩
      rw [← hS] at HSt HBe
      clear hS hlt hnk hk hkI
      go_wp2
      go_loopw [17] (fun vi wr => ∃ k : Nat, k ≤ 256 ∧ vi = .int .i64 k ∧ Below w7.heap.size w7 wr) (fun vi _ => 256 - (intOf vi).toNat)
      case atStart => exact ⟨0, by omega, rfl, Below.refl _ _⟩
      case round =>
        obtain ⟨k, hk, rfl, hBk⟩ := hrel
        by_cases hlt : k < 256
        · obtain ⟨k16, hk16⟩ : ∃ j, j = 16 + k := ⟨_, rfl⟩
          obtain ⟨b1, o1, rfl, hb1, hc1⟩ := (HX.out.below hBk).cellD (i := k16) (by omega)
          obtain ⟨b2, o2, rfl, hb2, hc2⟩ := (HP.out.below hBk).cellD (i := k) hlt
          obtain ⟨b3, o3, rfl, hb3, hc3⟩ := (HSt.out.below hBk).cellD (i := k) hlt
          have hxx := HBe.out k hlt
          rw [← hk16] at hxx
          rw [hxx] at hc1
          clear hxx
          generalize P.getD k 0 = x at *
          generalize S.getD k 0 = y at *
          obtain ⟨z, hz⟩ : ∃ z, z = y ^^^ x := ⟨_, rfl⟩
          rw [← hz] at hc1
          have hv2 : bits .xor .u8 (x.toNat : Int) (y.toNat : Int) = (z.toNat : Int) := by rw [u8_xor', hz, UInt8.xor_comm]
          have hne : ((z.toNat : Int) != (z.toNat : Int)) = false := by simp
          have hw16 : IntKind.i64.wrap (16 + (k : Int)) = (k16 : Int) := by rw [IntKind.wrap_i64]; omega
          have h272 : (k16 : Int) < 272 := by omega
          have hkI : (k : Int) < 256 := by omega
          have h0k : (0 : Int) ≤ (k16 : Int) := by omega
          have HH16 : Kp _ := ⟨hk16⟩
          clear hz hk16
          go_wp2_with fail
          go_still (by kernel_rfl)
          go_wp2
          go_roundw
          case rel => exact ⟨k + 1, by omega, by go_num, hBk.drew⟩
          case measure => simp [intOf]; omega
        · have hkI : (256 : Int) ≤ (k : Int) := by omega
          replace HX : Kp _ := ⟨HX.out.next hBk (Nat.le_refl _)⟩
          replace HK1 : Kp _ := ⟨HK1.out.below hBk HK1.out.lt⟩
          replace HA : Kp _ := ⟨HA.out.next hBk (Nat.le_refl _)⟩
          replace hB := hB.trans (hBk.mono hB.size)
          have hwr2 := HWr.out
          clear HP HSt hlt HBe hBk
          go_wp2_with (with_reducible refine wpList_loadAll (o := ⟨some 95, _, _, _, _, _⟩) rwKey rfl (.tmp 5) rfl rfl HK1.out HKl.out ?_)
          refine (hide_any key e s2 A n c b _ HK.out HEs.out.1 HS2.out hsm HA.out).mono ?_
          rintro x w9 ⟨A9, c9, rfl, hx9, hb9⟩
          have HY : Kp _ := ⟨hx9.pre (k := 16) (by omega)⟩
          have HXp : Kp _ := ⟨(HX.out.next hb9 (Nat.le_refl _)).pre (k := 16) (by omega)⟩
          rw [HTk2.out] at HY
          rw [HTk.out] at HXp
          have hcX := HX.out.cap
          have hc9 := hx9.cap
          replace hB := hB.trans (hb9.mono hB.size)
          have hmm := HBB.out.symm
          have hbq : (bb == bb) = true := by simp
          clear hb9 hx9 HX HTk HTk2 HK1 HA hwr2
          go_wp2_with fail
          refine wp_region_held_drew (S := fun W => Below w9.heap.size w9 W) (by kernel_rfl) ((Below.refl _ _).drew) (fun hHeld => ?_)
          generalize w9.drew = wS at *
          refine wpAnyH_take (i := 0) (oi := ⟨some 104, _, _, _, _, _⟩) (v := ?_) rfl (by kernel_rfl) (by kernel_rfl) (by kernel_rfl) (fun _ _ _ h => h) (Or.inl ⟨by rfl, by intro w hSw; go_simp; try rfl⟩) (by assumption) ?_
          try simp only [Act.put, List.setIfInBounds_toArray, List.set_cons_zero, List.set_cons_succ]
          refine wpAnyH_take (i := 1) (oi := ⟨some 105, _, _, _, _, _⟩) (v := ?_) rfl (by kernel_rfl) (by kernel_rfl) (by kernel_rfl) (fun _ _ _ h => h) (Or.inl ⟨by rfl, by intro w hSw; go_simp; try rfl⟩) (by assumption) ?_
          try simp only [Act.put, List.setIfInBounds_toArray, List.set_cons_zero, List.set_cons_succ]
          refine wpAnyH_take (i := 2) (oi := ⟨some 106, _, _, _, _, _⟩) (v := ?_) rfl (by kernel_rfl) (by kernel_rfl) (by kernel_rfl) (fun _ _ _ h => h) (Or.inl ⟨by rfl, by intro w hSw; go_simp; try rfl⟩) (by assumption) ?_
          try simp only [Act.put, List.setIfInBounds_toArray, List.set_cons_zero, List.set_cons_succ]
          refine wpAnyH_take (i := 3) (oi := ⟨some 107, _, _, _, _, _⟩) (v := ?_) rfl (by kernel_rfl) (by kernel_rfl) (by kernel_rfl) (fun _ _ _ h => h) (Or.inl ⟨by rfl, by intro w hSw; go_simp; try rfl⟩) (by assumption) ?_
          try simp only [Act.put, List.setIfInBounds_toArray, List.set_cons_zero, List.set_cons_succ]
          refine wpAnyH_take (i := 4) (oi := ⟨some 108, _, _, _, _, _⟩) (v := _) rfl (by kernel_rfl) (by kernel_rfl) (by kernel_rfl) (fun _ _ _ h => h) (yieldsIf_cut_h (by rfl) el8 (.tmp 107) (.const (.int .i64 16)) rfl rfl rfl 16 rfl (by omega)) (by assumption) ?_
          try simp only [Act.put, List.setIfInBounds_toArray, List.set_cons_zero, List.set_cons_succ]
          refine wpAnyH_take (i := 5) (oi := ⟨some 109, _, _, _, _, _⟩) (v := ?_) rfl (by kernel_rfl) (by kernel_rfl) (by kernel_rfl) (fun _ _ _ h => h) (Or.inl ⟨by rfl, by intro w hSw; go_simp; try rfl⟩) (by assumption) ?_
          try simp only [Act.put, List.setIfInBounds_toArray, List.set_cons_zero, List.set_cons_succ]
          refine wpAnyH_take (i := 6) (oi := ⟨some 110, _, _, _, _, _⟩) (v := _) rfl (by kernel_rfl) (by kernel_rfl) (by kernel_rfl) (fun _ _ _ h => h) (yieldsIf_cut_h (by rfl) el8 (.tmp 109) (.const (.int .i64 16)) rfl rfl rfl 16 rfl (by omega)) (by assumption) ?_
          try simp only [Act.put, List.setIfInBounds_toArray, List.set_cons_zero, List.set_cons_succ]
          refine wpAnyH_take (i := 8) (oi := ⟨some 112, _, _, _, _, _⟩) (v := ?_) rfl (by kernel_rfl) (by kernel_rfl) (by kernel_rfl) (fun _ _ _ h => h) (Or.inl ⟨by rfl, by intro w hSw; go_simp; try rfl⟩) (by assumption) ?_
          try simp only [Act.put, List.setIfInBounds_toArray, List.set_cons_zero, List.set_cons_succ]
          refine wpAnyH_take (i := 9) (oi := ⟨some 113, _, _, _, _, _⟩) (v := ?_) rfl (by kernel_rfl) (by kernel_rfl) (by kernel_rfl) (fun _ _ _ h => h) (Or.inl ⟨by rfl, by intro w hSw; go_simp; try rfl⟩) (by assumption) ?_
          try simp only [Act.put, List.setIfInBounds_toArray, List.set_cons_zero, List.set_cons_succ]
          refine wpAnyH_ready (rs := [7]) (by kernel_rfl) (by simp) ?_
          refine AllReadyH.cons (o := ⟨some 111, _, _, _, _, _⟩) rfl (fun K hK => ?_) AllReadyH.nil
          go_simp
          refine (same_any A2 A9 16 c2 16 c9 (headL e s) (headL e s2) wS _ _ (HXp.out.below hHeld) (HY.out.below hHeld)).mono ?_
          rw [HSm.out]
          rintro x w51 ⟨rfl, hww⟩
          replace hww := hww.symm
          subst hww
          refine hK.out _ _ hHeld (fun hHeld2 => ?_)
          clear hK K hHeld
          have hHeld := hHeld2
          clear hHeld2
          try simp only [Act.put, List.setIfInBounds_toArray, List.set_cons_zero, List.set_cons_succ]
          refine wpAnyH_take (i := 10) (oi := ⟨some 114, _, _, _, _, _⟩) (v := ?_) rfl (by kernel_rfl) (by kernel_rfl) (by kernel_rfl) (fun _ _ _ h => h) (Or.inl ⟨by rfl, by intro w hSw; go_simp; try rfl⟩) (by assumption) ?_
          try simp only [Act.put, List.setIfInBounds_toArray, List.set_cons_zero, List.set_cons_succ]
          refine wpAnyH_take (i := 11) (oi := ⟨some 115, _, _, _, _, _⟩) (v := ?_) rfl (by kernel_rfl) (by kernel_rfl) (by kernel_rfl) (fun _ _ _ h => h) (Or.inl ⟨by rfl, by intro w hSw; go_simp; try rfl⟩) (by assumption) ?_
          try simp only [Act.put, List.setIfInBounds_toArray, List.set_cons_zero, List.set_cons_succ]
          refine wpAnyH_take (i := 12) (oi := ⟨some 116, _, _, _, _, _⟩) (v := ?_) rfl (by kernel_rfl) (by kernel_rfl) (by kernel_rfl) (fun _ _ _ h => h) (Or.inl ⟨by rfl, by intro w hSw; go_simp; try rfl⟩) (by assumption) ?_
          try simp only [Act.put, List.setIfInBounds_toArray, List.set_cons_zero, List.set_cons_succ]
          refine wpAnyH_ready (rs := [13]) (by kernel_rfl) (by simp) ?_
          refine AllReadyH.cons (o := ⟨some 117, _, _, _, _, _⟩) rfl (fun K hK => ?_) AllReadyH.nil
          go_simp
          refine (known_any w51).mono ?_
          rintro x w52 ⟨rfl, hb'⟩
          refine hK.out _ _ (hHeld.trans (hb'.mono hHeld.size)) (fun hHeld2 => ?_)
          clear hb'
          clear hK K hHeld
          have hHeld := hHeld2
          clear hHeld2
          try simp only [Act.put, List.setIfInBounds_toArray, List.set_cons_zero, List.set_cons_succ]
          refine wpAnyH_take (i := 14) (oi := ⟨some 118, _, _, _, _, _⟩) (v := ?_) rfl (by kernel_rfl) (by kernel_rfl) (by kernel_rfl) (fun _ _ _ h => h) (Or.inl ⟨by rfl, by intro w hSw; go_simp; try rfl⟩) (by assumption) ?_
          try simp only [Act.put, List.setIfInBounds_toArray, List.set_cons_zero, List.set_cons_succ]
          refine wpAnyH_take (i := 15) (oi := ⟨some 10, _, _, _, _, _⟩) (v := ?_) rfl (by kernel_rfl) (by kernel_rfl) (by kernel_rfl) (fun _ _ _ h => h) (Or.inl ⟨by rfl, by intro w hSw; go_simp; try rfl⟩) (by assumption) ?_
          try simp only [Act.put, List.setIfInBounds_toArray, List.set_cons_zero, List.set_cons_succ]
          refine wpAnyH_done (by kernel_rfl) ?_ _
          have hBf := hB.trans (hHeld.mono hB.size)
          clear hHeld hB
          go_wp2
          go_ret
          exact ⟨rfl, hBf⟩
theorem law_blockBack (key : List UInt8) (e s : Int) (A : Option Addr) (n c : Nat) (b : List UInt8) (m : Int) (w : World) (hk : key.length = 16) (he : (Lit.int .u64 e).wf = true) (hs : (Lit.int .u32 s).wf = true) (ha : Bs w w.heap.size A n c b ∧ c ≤ 140737488351232) (hm : (Lit.int .u32 m).wf = true) (_hE : Ety w) :
    Calls Tryd.prog 5 #[.agg (cells8 key).toArray, .int .u64 e, .int .u32 s, .slice A n c, .int .u32 m] w fun x w' => x = .returned (.bool true) ∧ Below w.heap.size w w' := by
  have he2 : 0 ≤ e ∧ e ≤ 18446744073709551615 := by simpa [Lit.wf, IntKind.min, IntKind.max, IntKind.signed, IntKind.bits] using he
  obtain ⟨eN, rfl⟩ := Int.eq_ofNat_of_zero_le he2.1
  have hs2 : 0 ≤ s ∧ s ≤ 4294967295 := by simpa [Lit.wf, IntKind.min, IntKind.max, IntKind.signed, IntKind.bits] using hs
  obtain ⟨sN, rfl⟩ := Int.eq_ofNat_of_zero_le hs2.1
  have hm2 : 0 ≤ m ∧ m ≤ 4294967295 := by simpa [Lit.wf, IntKind.min, IntKind.max, IntKind.signed, IntKind.bits] using hm
  obtain ⟨mN, rfl⟩ := Int.eq_ofNat_of_zero_le hm2.1
  by_cases h : n ≤ 256
  · exact back_small key eN sN A n c b mN w hk (by omega) (by omega) (by omega) ha.1 h
  · exact back_big key eN sN A n c b mN w ha.1 (by omega)
end Go.Proofs.YtckmobpjdpjocaaDoor

namespace Go.Proofs.YtckmobpjdpjocaaDoor
open Go.RowKit

theorem getN_head (e s : Nat) (he : e < 18446744073709551616) (hs : s < 4294967296) : getN (headL e s) = e * 18446744073709551616 + s * 4294967296 := by
  unfold headL
  rw [getN_append, getN_append, List.length_append, putN_length, putN_length, getN_put8 e he, getN_put4 s hs, show getN (putN 0 4) = 0 from by decide, show 256 ^ (4 + 4) = 18446744073709551616 from by decide, show 256 ^ 4 = 4294967296 from by decide, Nat.add_zero]
theorem put16_eq (x y : Nat) (hx : x < 340282366920938463463374607431768211456) (hy : y < 340282366920938463463374607431768211456) : putN x 16 = putN y 16 ↔ x = y := by
  constructor
  · intro h
    have h1 := congrArg getN h
    rw [getN_putN, getN_putN, show 256 ^ 16 = 340282366920938463463374607431768211456 from by decide, Nat.mod_eq_of_lt hx, Nat.mod_eq_of_lt hy] at h1
    exact h1
  · rintro rfl; rfl
theorem xy_iff (a b c d i k : Nat) (ha : a < 18446744073709551616) (hb : b < 4294967296) (hc : c < 18446744073709551616) (hd : d < 4294967296) (hi : i < 16) (hk : k < 16) : nextL (headL a b) i = nextL (headL c d) k ↔ (a = c ∧ b = d) ∧ i = k := by
  unfold nextL
  rw [getN_head a b ha hb, getN_head c d hc hd, put16_eq _ _ (by omega) (by omega)]
  omega
theorem xx_eq (a b i k : Nat) (ha : a < 18446744073709551616) (hb : b < 4294967296) (hi : i < 16) (hk : k < 16) : (nextL (headL a b) i == nextL (headL a b) k) = ((i : Int) == (k : Int)) := by
  have h := xy_iff a b a b i k ha hb ha hb hi hk
  by_cases h1 : i = k
  · subst h1; simp
  · have h2 : ((i : Int) == (k : Int)) = false := by simp only [beq_eq_false_iff_ne, ne_eq]; omega
    rw [h2]
    simp only [beq_eq_false_iff_ne, ne_eq]
    rw [h]
    exact fun h3 => h1 h3.2
theorem xy_eq (a b c d i k : Nat) (ha : a < 18446744073709551616) (hb : b < 4294967296) (hc : c < 18446744073709551616) (hd : d < 4294967296) (hi : i < 16) (hk : k < 16) (hne : ¬ (a = c ∧ b = d)) : (nextL (headL a b) i == nextL (headL c d) k) = false := by
  simp only [beq_eq_false_iff_ne, ne_eq]
  rw [xy_iff a b c d i k ha hb hc hd hi hk]
  exact fun h3 => hne h3.1
theorem next_zero7 (e s : Nat) : nextL (headL e s) 0 = headL e s := by
  unfold nextL
  rw [Nat.add_zero]
  have h := putN_getN (headL e s)
  rwa [headL_length] at h

/-- the cells of so many places -/
def placeCells (f : Nat → List UInt8) (n : Nat) : List Value := ((List.range n).map fun i => cells8 (f i)).flatten
theorem placeCells_succ (f : Nat → List UInt8) (n : Nat) : placeCells f (n + 1) = placeCells f n ++ cells8 (f n) := by simp [placeCells, List.range_succ]
theorem placeCells_length (f : Nat → List UInt8) (hf : ∀ i, (f i).length = 16) (n : Nat) : (placeCells f n).length = n * 16 := by
  induction n with
  | zero => rfl
  | succ n ih => rw [placeCells_succ, List.length_append, ih, cells8_length, hf]; omega
theorem placeCells_at (f : Nat → List UInt8) (hf : ∀ i, (f i).length = 16) (n i : Nat) (hi : i < n) (j : Nat) (v : Value) (h : (cells8 (f i))[j]? = some v) : (placeCells f n)[i * 16 + j]? = some v := by
  have hj : j < 16 := by have := (List.getElem?_eq_some_iff.1 h).1; rwa [cells8_length, hf] at this
  induction n with
  | zero => omega
  | succ n ih =>
    rw [placeCells_succ]
    by_cases h1 : i < n
    · rw [List.getElem?_append_left (by rw [placeCells_length f hf]; omega)]
      exact ih h1
    · obtain rfl : i = n := by omega
      rw [List.getElem?_append_right (by rw [placeCells_length f hf]; omega), placeCells_length f hf, show i * 16 + j - i * 16 = j by omega]
      exact h
section
variable {P : Program} {w : World} {ops : Array Oper} {rest : List Oper} {o : Oper} {a : Act} {Q : Exit → Act → World → Prop} {t e : TypeId} {z : Value} {bytes size : Nat}
theorem ownZ_grown {base n : Nat} {v : Value} {xs : List Value} {w1 w2 : World} (hown : w1.ownsRow base e size v n xs) (hbase : base ≤ w1.heap.size) (hg : w1.grownBy w2 v.ownBlock) : Below base w1 w2 := by
  refine ⟨hg.os, hg.tape, hg.output, hg.size, fun k hk => hg.block k (by omega) (fun e => ?_)⟩
  rcases hown.2 with ⟨rfl, _⟩ | ⟨g, cap, cur, rfl, hb, _⟩
  · cases e
  · have := Option.some.inj e
    simp at this
    omega
theorem ownZ_below {w w' : World} {base n : Nat} {v : Value} {xs : List Value} (h : w.ownsRow base e size v n xs) (hb : Below w.heap.size w w') : w'.ownsRow base e size v n xs :=
  h.kept (row := none) ⟨hb.os, hb.tape, hb.output, hb.size, fun j hj _ => hb.block j hj⟩ (by cases v.ownBlock <;> simp)
/-- append of one thing of many cells, laid anywhere -/
theorem wpList_appZ (ht : P.underlying t = some (.slice e)) (hinf : (P.info? e).map (fun i => (i.zero, i.size, i.bytes)) = some (some z, size, bytes)) (hzs : z.cells.size = size) (hpos : 0 < size) (hgd : o.guard = none) (s x : Operand)
    (ho : o.op = .call { callee := .builtin .append, args := #[s, x], argTypes := #[t, t] })
    (base : Nat) (v : Value) (n : Nat) (xs : List Value) (hs : a.eval s = v) (hown : w.ownsRow base e size v n xs)
    (ad : Addr) (c : Nat) (ys : List Value) (hx : a.eval x = .slice (some ad) 1 c) (hl : ys.length = size) (hsrc : ∀ j u, ys[j]? = some u → w.cell? (ad.add j) = some u) (h1 : ∀ u ∈ ys, u.oneCell' = true)
    (h63 : n + 1 ≤ maxLen) (hbytes : (n + 1) * bytes ≤ 140737488355328) (hbase : base ≤ w.heap.size)
    (h : ∀ v' w', w'.ownsRow base e size v' (n + 1) (xs ++ ys) → Below base w w' → wpList P ops Q rest (a.put o.dst v') w') :
    wpList P ops Q (o :: rest) a w := by
  obtain ⟨i, hi, hz, hsize, hby⟩ := info_parts hinf
  exact wpList_append_own_at w hgd s x t ho base e i z size bytes ht hi hz hsize hby hzs hpos v n _ hs hown ad 1 c ys hx (by omega) hsrc h1 h63 hbytes hbase
      (fun v' w' h2 h3 _ _ => h v' w' h2 (ownZ_grown hown hbase h3))
/-- make of none, with room for n things of many cells -/
theorem wpList_mkZ (ht : P.underlying t = some (.slice e)) (hinf : (P.info? e).map (fun i => (i.zero, i.size, i.bytes)) = some (some z, size, bytes)) (hg : o.guard = none) (l c : Operand) (hop : o.op = Op.makeSlice t l c)
    (base : Nat) (kl kc : IntKind) (C : Int) (n : Nat) (hl : a.eval l = .int kl 0) (hc : a.eval c = .int kc C) (hC : C = (n : Int)) (hb : bytes * n ≤ 281474976710656) (b3 : n ≤ maxLen) (b4 : base ≤ w.heap.size)
    (hK : ∀ w', w'.ownsRow base e size (.slice (some ⟨w.heap.size, 0, none⟩) 0 n) 0 [] → Below base w w' → wpList P ops Q rest (a.put o.dst (.slice (some ⟨w.heap.size, 0, none⟩) 0 n)) w') :
    wpList P ops Q (o :: rest) a w := by
  obtain ⟨i, hi, hz0, hz1, hz2⟩ := info_parts hinf
  exact wpList_make_own w hg l c t hop base e i z size ht hi hz0 hz1 kl kc C n hl hc hC (by rw [hz2]; exact hb) b3 b4 fun w' h1 h2 => hK w' h1 ((Below.refl _ _).grown h2 b4 (by simp))
end
end Go.Proofs.YtckmobpjdpjocaaDoor

namespace Go.Proofs.YtckmobpjdpjocaaDoor
open Go.RowKit

theorem infoN : (Tryd.prog.info? 39).map (fun i => (i.zero, i.size, i.bytes)) = some (some (.agg zero16.toArray), 16, 16) := by kernel_rfl
theorem zsz : (Value.agg zero16.toArray).cells.size = 16 := rfl
theorem fill_nonce (g : Nat → UInt8) : Instr.fill (fun i => some (i * 16, 16)) ((Array.range (1 * 16)).map ((Value.agg zero16.toArray).cells[· % (Value.agg zero16.toArray).cells.size]!)) [(0, .agg (cells8 ((List.range 16).map g)).toArray)] = some (cells8 ((List.range 16).map g)).toArray := by kernel_rfl
section
variable {w : World} {ops : Array Oper} {rest : List Oper} {o : Oper} {a : Act} {Q : Exit → Act → World → Prop}
/-- a slice literal of one nonce -/
theorem wpList_buildN (hg : o.guard = none) (x : Operand) (hop : o.op = .buildSlice 53 1 #[(0, x)]) (l : List UInt8) (hx : a.eval x = .agg (cells8 l).toArray) (hl : l.length = 16)
    (h : wpList Tryd.prog ops Q rest (a.put o.dst (.slice (some ⟨w.heap.size, 0, none⟩) 1 1)) (w.alloc (.cells (cells8 l).toArray 39))) : wpList Tryd.prog ops Q (o :: rest) a w := by
  obtain ⟨i, hi, hz, hsize, hby⟩ := info_parts infoN
  refine wpList_buildSlice hg 53 39 1 _ hop (cells8 l).toArray i _ Tryd.underlying53 hi hz (by rw [hsize]; decide) (by rw [hsize]; decide) ?_ h
  have h1 := fill_nonce (fun i => l.getD i 0)
  rw [as_range l 16 hl] at h1
  rw [hsize]
  simp only [List.map_toArray, List.map_cons, List.map_nil, hx]
  exact h1
end
/-- sixteen places of a stream, one behind another -/
structure Ps (w : World) (B : Nat) (A : Option Addr) (f : Nat → List UInt8) : Prop where
  at_ : ∃ b o, A = some ⟨b, o, none⟩ ∧ b < B ∧ ∀ i, i < 16 → w.rangeAt b (o + i * 16) (cells8 (f i))
theorem Ps.below {w w' : World} {B : Nat} {A : Option Addr} {f : Nat → List UInt8} (h : Ps w B A f) (hb : Below B w w') : Ps w' B A f := by
  obtain ⟨b, o, e, hB, hr⟩ := h.at_
  exact ⟨b, o, e, hB, fun i hi => range_below (hr i hi) hb hB⟩
theorem Ps.next {w w' : World} {A : Option Addr} {f : Nat → List UInt8} (h : Ps w w.heap.size A f) (hb : Below w.heap.size w w') : Ps w' w'.heap.size A f := by
  obtain ⟨b, o, e, hB, hr⟩ := (h.below hb).at_
  exact ⟨b, o, e, Nat.lt_of_lt_of_le hB hb.size, hr⟩
theorem Ps.of_own {w : World} {base : Nat} {e : TypeId} {v : Value} {f : Nat → List UInt8} (hf : ∀ i, (f i).length = 16) (h : w.ownsRow base e 16 v 16 (placeCells f 16)) : ∃ A c, v = .slice A 16 c ∧ 16 ≤ c ∧ Ps w w.heap.size A f := by
  rcases h.2 with ⟨_, h0⟩ | ⟨g, cap, cur, rfl, hg, hh, hn, hm, hs, ht⟩
  · cases h0
  · refine ⟨some ⟨g, 0, none⟩, cap, rfl, hn, ⟨g, 0, rfl, (Array.getElem?_eq_some_iff.1 hh).1, fun i hi j u hu => ?_⟩⟩
    have h1 := h.cells (g := g) rfl (i * 16 + j) _ (placeCells_at f hf 16 i hi j u hu)
    rw [Addr.add_lit] at h1
    rw [← h1]
    congr 2
    omega

set_option maxRecDepth 100000 in
set_option maxHeartbeats 4000000 in
theorem inputs_any (e s : Nat) (w : World) (he : e < 18446744073709551616) (hs : s < 4294967296) :
    Calls Tryd.prog 22 #[.int .u64 e, .int .u32 s] w fun x w' => ∃ A c, x = .returned (.slice A 16 c) ∧ 16 ≤ c ∧ Ps w' w'.heap.size A (fun i => nextL (headL e s) i) ∧ Below w.heap.size w w' := by
  have HEs : Kp (e < 18446744073709551616 ∧ s < 4294967296) := ⟨⟨he, hs⟩⟩
  have HHl : Kp ((headL e s).length = 16) := ⟨headL_length e s⟩
  have HZn : Kp (zero16.length = 16) := ⟨rfl⟩
  clear he hs
  go_enter Tryd.func22, Tryd.ntmps22
  go_wp2_with fail
  refine (head_any e s w HEs.out.1 HEs.out.2).mono ?_
  rintro x w1 ⟨rfl, hb1⟩
  obtain ⟨H, hH⟩ : ∃ H, H = headL e s := ⟨_, rfl⟩
  have HG : Kp _ := ⟨hH⟩
  rw [← hH] at HHl ⊢
  have HHc : Kp ((cells8 H).length = 16) := ⟨by rw [cells8_length]; exact HHl.out⟩
  clear hH
  go_wp2_with (with_reducible refine wpList_alloc (o := ⟨some 5, _, _, _, _, _⟩) tyNonce rfl rfl ?_)
  intro w2 hk2 hb2 hs2
  have HX2 : Kp _ := ⟨hk2⟩
  have hB2 := hb1.trans (hb2.mono hb1.size)
  have hl2 := hk2.lt
  have hsz1 := hb1.size
  obtain ⟨g, hg⟩ : ∃ g, g = w1.heap.size := ⟨_, rfl⟩
  rw [← hg] at HX2 hl2 hsz1 ⊢
  clear hk2 hs2 hb2 hb1 hg
  go_wp2_with (with_reducible refine wpList_storeAll (o := ⟨none, _, _, _, _, _⟩) (vs := cells8 H) rwNonce rfl (.tmp 5) (.tmp 10) rfl rfl HX2.out HZn.out HHc.out (cells8_one _) rfl ?_)
  intro w3 hk3 ho3
  have HX : Kp _ := ⟨hk3⟩
  have hB3 := hB2.trans (ho3.below hsz1)
  clear hk3 ho3 HX2 hB2
  go_wp2_with (with_reducible refine wpList_mkZ (o := ⟨some 11, _, _, _, _, _⟩) Tryd.underlying53 infoN rfl _ _ rfl w3.heap.size _ _ _ 16 rfl rfl rfl (by decide) (by simp [maxLen]) (Nat.le_refl _) ?_)
  intro w4 ho4 hb4
  have HO4 : Kp (w4.ownsRow w3.heap.size 39 16 (.slice (some ⟨w3.heap.size, 0, none⟩) 0 16) 0 (placeCells (fun i => nextL H i) 0)) := ⟨ho4⟩
  clear ho4
  go_wp2
  go_loopw [6, 12] (fun v vi wr => ∃ j : Nat, j ≤ 16 ∧ vi = .int .i64 j ∧ Kp (wr.ownsRow w3.heap.size 39 16 v j (placeCells (fun i => nextL H i) j)) ∧ Below w3.heap.size w3 wr) (fun _ vi _ => 16 - (intOf vi).toNat)
  case atStart => exact ⟨0, by omega, rfl, HO4, hb4⟩
  case round =>
    clear HO4 hb4
    obtain ⟨j, hj, rfl, HO, hB⟩ := hrel
    by_cases hlt : j < 16
    · have hjI : (j : Int) < 16 := by omega
      have HXj : Kp _ := ⟨HX.out.below hB HX.out.lt⟩
      go_wp2_with (with_reducible refine wpList_loadAll (o := ⟨some 16, _, _, _, _, _⟩) rwNonce rfl (.tmp 5) rfl rfl HXj.out HHc.out ?_)
      refine (next_mid H j _ HHl.out (by omega)).mono ?_
      rintro x wn ⟨rfl, hbn⟩
      have HOn : Kp _ := ⟨ownZ_below HO.out hbn⟩
      have hBn := hB.trans (hbn.mono hB.size)
      have HS : Kp _ := ⟨placeCells_succ (fun i => nextL H i) j⟩
      have HNl : Kp ((nextL H j).length = 16) := ⟨nextL_length H j⟩
      obtain ⟨Y, hY⟩ : ∃ Y, Y = nextL H j := ⟨_, rfl⟩
      simp only [← hY] at HS
      rw [← hY] at HNl ⊢
      clear hbn HO HXj hB hY
      have hba := (Below.refl wn.heap.size wn).alloc (Nat.le_refl _) (.cells (cells8 Y).toArray 39)
      have HO2 : Kp _ := ⟨ownZ_below HOn.out hba⟩
      have HBw : Kp (Blk (wn.alloc (.cells (cells8 Y).toArray 39)) wn.heap.size 39 (cells8 Y)) := ⟨Blk.new _ _ _⟩
      have HYc : Kp ((cells8 Y).length = 16) := ⟨by rw [cells8_length]; exact HNl.out⟩
      have hsz3 : w3.heap.size ≤ (wn.alloc (.cells (cells8 Y).toArray 39)).heap.size := Nat.le_trans hBn.size hba.size
      have HSrc : Kp (∀ i u, (cells8 Y)[i]? = some u → (wn.alloc (.cells (cells8 Y).toArray 39)).cell? (Addr.add ⟨wn.heap.size, 0, none⟩ i) = some u) := ⟨fun i u hu => by rw [Addr.add_lit, Nat.zero_add, HBw.out.cell? i]; exact hu⟩
      have hm63 : j + 1 ≤ maxLen := by simp only [maxLen]; omega
      have hm48 : (j + 1) * 16 ≤ 140737488355328 := by omega
      go_wp2_with (first
        | (with_reducible refine wpList_buildN (o := ⟨some 19, _, _, _, _, _⟩) rfl (.tmp 18) rfl Y rfl HNl.out ?_)
        | (at_builtin; refine wpList_appZ (o := ⟨some 20, _, _, _, _, _⟩) Tryd.underlying53 infoN zsz (by decide) rfl (.tmp 15) (.tmp 19) rfl w3.heap.size _ j (placeCells (fun i => nextL H i) j) rfl HO2.out ⟨wn.heap.size, 0, none⟩ 1 (cells8 Y) rfl HYc.out HSrc.out (cells8_one _) hm63 hm48 hsz3 ?_))
      intro v7 w7 ho7 hb7
      have HO7 : Kp (w7.ownsRow w3.heap.size 39 16 v7 (j + 1) (placeCells (fun i => nextL H i) (j + 1))) := ⟨by rw [HS.out]; exact ho7⟩
      have hB7 := hBn.trans ((hba.mono hBn.size).trans hb7)
      clear ho7 hb7 HO2 HBw hba
      go_wp2
      go_roundw
      case rel => exact ⟨j + 1, by omega, by go_num, HO7, hB7⟩
      case measure => simp [intOf]; omega
    · obtain rfl : j = 16 := by omega
      obtain ⟨A, c, rfl, hc, hps⟩ := Ps.of_own (fun i => nextL_length H i) HO.out
      have HP : Kp _ := ⟨hps⟩
      have hBf := hB3.trans (hB.mono hB3.size)
      clear HO hB hps
      go_wp2
      go_ret
      exact ⟨A, c, rfl, hc, by rw [← HG.out]; exact HP.out, hBf⟩
end Go.Proofs.YtckmobpjdpjocaaDoor
