/- The walk of WorldTears. -/
import Derived.Test.YtockhfgjkhpphaaWtP
namespace Go.Proofs.Ytockhfgjkhpphaa
open Go.RowKit

set_option maxRecDepth 100000 in
set_option maxHeartbeats 4000000 in
theorem wtears (A : Option Addr) (n c : Nat) (la : List UInt8) (B : Option Addr) (m d : Nat) (lb : List UInt8) (P : Nat) (w : World)
    (ha : Bs w w.heap.size A n c la) (hb : Bs w w.heap.size B m d lb) (hP : P ≤ 65535) (hsm : n + m ≤ 800) :
    Calls Try.prog 4 #[.slice A n c, .slice B m d, .int .u16 (P : Int)] w fun e w' => e = .returned (.bool true) ∧ Below w.heap.size w w' := by
  obtain ⟨k, hk⟩ : ∃ k, k = P % 300 := ⟨_, rfl⟩
  have hk6 : k < 300 := by rw [hk]; exact Nat.mod_lt _ (by omega)
  have hpm : (P : Int) % 300 = (k : Int) := by omega
  have hpt : (P : Int).tmod 300 = (k : Int) := by rw [Int.tmod_eq_emod_of_nonneg (by omega)]; exact hpm
  have HA : Kp _ := ⟨ha⟩
  have HB : Kp _ := ⟨hb⟩
  have HLb : Kp (lb.length = m) := ⟨hb.len⟩
  have hm63 := hb.le
  have hsum : ¬ ((800 : Int) < (n : Int) + (m : Int)) := by omega
  have F2 := wt_2 la
  obtain ⟨G1, G2, G3, G4, G5, G6, G7, G8⟩ := wt_4 la lb k (by omega)
  have HG : Kp ((wtT4 la lb k).n = 2 ∧ (wtT4 la lb k).lim = true ∧ (272 ≤ k → (wtT4 la lb k).left = k - 272) ∧ (wtT4 la lb k).ctr = 0 ∧ (∀ z, (wtT4 la lb k).lies z = none) ∧ (wtT4 la lb k).sl wx = laid (padL (lb.take 272) 272) (padL (la.take 272) 272) (min 272 k)) := ⟨G2, G4, G5, G6, G7, G8⟩
  have HW : Kp (∀ i, i < 272 → (laid (padL (lb.take 272) 272) (padL (la.take 272) 272) (min 272 k)).getD i 0 = if i < k then lb.getD i 0 else (padL (la.take 272) 272).getD i 0) := ⟨fun i hi => wt_get la lb k i hi⟩
  have hl0 := wt_len la lb k
  have hl1 := pad272 la
  clear ha hb hk G2 G4 G5 G6 G7 G8
  go_enter Try.func4, Try.ntmps4
  go_wp2_with fail
  refine (st_new (St.start w) 2 (by omega)).mono ?_
  rintro e w1 ⟨b, rfl, S1⟩
  have H1 : Kp _ := ⟨(S1.hold HB.out (by omega)).hold HA.out (by omega)⟩
  clear S1
  go_wp2_with fail
  refine (st_write H1.out (by omega) 1 0 ⟨rfl, rfl⟩ A n c la (by simp)).mono ?_
  rintro e w2 ⟨rfl, S2⟩
  have H2 : Kp (St w w2 1 [(b, wtT1 la)] [(A, n, c, la), (B, m, d, lb)]) := ⟨S2⟩
  clear S2 H1
  go_wp2_with fail
  refine (st_read H2.out (by omega) 1 0 ⟨rfl, rfl⟩).mono ?_
  rintro e w3 ⟨A3, n3, c3, rfl, S3⟩
  have S3' : St w w3 2 [(b, wtT2 la)] [(A3, n3, c3, readL (wtT1 la) wx), (A, n, c, la), (B, m, d, lb)] := S3
  rw [F2] at S3'
  obtain rfl : n3 = 272 := by rw [← (S3'.heldM (A := A3) (n := n3) (c := c3) (l := padL (la.take 272) 272) (by simp)).1.len]; exact hl1
  obtain ⟨W, hW⟩ : ∃ W, W = padL (la.take 272) 272 := ⟨_, rfl⟩
  have HWl : Kp (W.length = 272) := ⟨by rw [hW]; exact hl1⟩
  rw [← hW] at S3' HW HG hl0
  have H3 : Kp _ := ⟨S3'⟩
  clear S3 S3' H2 F2 hl1 hW
  go_wp2_with fail
  refine (st_arm H3.out (k : Int)).mono ?_
  rintro e w4 ⟨rfl, S4⟩
  have H4 : Kp (St w w4 3 [(b, wtT3 la k)] [(A3, 272, c3, W), (A, n, c, la), (B, m, d, lb)]) := ⟨S4⟩
  clear S4 H3
  go_wp2_with fail
  refine (st_write H4.out (by omega) 1 0 ⟨rfl, rfl⟩ B m d lb (by simp)).mono ?_
  rintro e w5 ⟨rfl, S5⟩
  have H5 : Kp (St w w5 4 [(b, wtT4 la lb k)] [(A3, 272, c3, W), (A, n, c, la), (B, m, d, lb)]) := ⟨S5⟩
  have G1' : writeB (wtT3 la k) (1, 0) = decide (272 ≤ k) := G1
  clear S5 H4 G1
  by_cases hkk : 272 ≤ k
  · have hki : (272 : Int) ≤ (k : Int) := by omega
    have d1 : decide (272 ≤ k) = true := decide_eq_true hkk
    have d2 : decide (k < 272) = false := decide_eq_false (by omega)
    obtain ⟨B1, B2, B3, B4⟩ := wt_6 (t := wtT4 la lb k) (k := k - 272) (by rw [G3, d2]) HG.out.2.1 (HG.out.2.2.1 hkk) HG.out.2.2.2.1
    have HT : Kp ((bumpW (wtT4 la lb k)).n = 2 ∧ (∀ z, (bumpW (wtT4 la lb k)).lies z = none) ∧ (bumpW (wtT4 la lb k)).sl wx = laid (padL (lb.take 272) 272) W (min 272 k)) := ⟨B2.trans HG.out.1, fun z => by rw [B3]; exact HG.out.2.2.2.2.1 z, by rw [B4]; exact HG.out.2.2.2.2.2⟩
    clear B2 B3 B4 HG
    rw [d2] at G3
    rw [d1] at G1'
    go_wp2_with fail
    refine (st_dead H5.out).mono ?_
    rintro e w6 ⟨rfl, rfl⟩
    rw [G3]
    go_wp2_with fail
    refine (st_bump H5.out (by omega)).mono ?_
    rintro e w7 ⟨rfl, S7⟩
    have H7 : Kp _ := ⟨S7⟩
    clear S7 H5
    rcases (by omega : k = 272 ∨ 272 < k) with hq | hq
    · have B1' : bumpB (wtT4 la lb k) = false := by rw [B1, decide_eq_false (by omega)]
      have hqi : ¬ ((272 : Int) < (k : Int)) := by omega
      have HQ : Kp _ := ⟨And.intro hq hkk⟩
      clear B1 hq hkk
      rw [B1']
      have HT5 := wt_5 HT.out.1 HT.out.2.1
      rw [HT.out.2.2] at HT5
      have HT5K : Kp _ := ⟨HT5⟩
      clear HT5
      go_wp2_with fail
      refine (st_restart H7.out).mono ?_
      rintro e w20 ⟨rfl, S20⟩
      have H20 : Kp _ := ⟨S20⟩
      clear S20 H7
      go_wp2_with fail
      refine (st_read H20.out (by omega) 1 0 ⟨rfl, rfl⟩).mono ?_
      rintro e w21 ⟨A21, n21, c21, rfl, S21⟩
      have S21' : St w w21 (5 + 1 + 1) [(b, readW (restartW (bumpW (wtT4 la lb k))) wx)] [(A21, n21, c21, readL (restartW (bumpW (wtT4 la lb k))) wx), (A3, 272, c3, W), (A, n, c, la), (B, m, d, lb)] := S21
      rw [HT5K.out.1] at S21'
      obtain rfl : n21 = 272 := by rw [← (S21'.heldM (A := A21) (n := n21) (c := c21) (l := laid (padL (lb.take 272) 272) W (min 272 k)) (by simp)).1.len]; exact hl0
      have HN21 : Kp _ := ⟨(S21'.heldM (A := A21) (n := 272) (c := c21) (l := laid (padL (lb.take 272) 272) W (min 272 k)) (by simp)).1⟩
      have HW21 : Kp _ := ⟨(S21'.heldM (A := A3) (n := 272) (c := c3) (l := W) (by simp)).1⟩
      have HB21 : Kp _ := ⟨(S21'.heldM (A := B) (n := m) (c := d) (l := lb) (by simp)).1⟩
      have H21 : Kp _ := ⟨S21'⟩
      clear S21 S21' H20 hl0
      obtain ⟨N, hN⟩ : ∃ N, N = laid (padL (lb.take 272) 272) W (min 272 k) := ⟨_, rfl⟩
      rw [← hN] at HN21 HW H21
      clear hN
      go_wp2
      go_loop [13] (fun v => ∃ i : Nat, i ≤ 272 ∧ v = .int .i64 i) (fun v => 272 - (intOf v).toNat)
      case atStart => exact ⟨0, by omega, rfl⟩
      case round =>
        obtain ⟨i, hi, rfl⟩ := hrel
        by_cases hlt : i < 272
        · have hlti : (i : Int) < 272 := by omega
          obtain ⟨bn, on, rfl, hcn⟩ := HN21.out.gat (i := i) hlt
          obtain ⟨bw, ow, rfl, hcw⟩ := HW21.out.gat (i := i) hlt
          have hE := HW.out i hlt
          by_cases him : i < m
          · have himi : (i : Int) < (m : Int) := by omega
            obtain ⟨bb, ob, rfl, hcb⟩ := HB21.out.gat (i := i) him
            by_cases hik : i < k
            · have hiki : ¬ ((k : Int) ≤ (i : Int)) := by omega
              rw [hE, if_pos hik] at hcn
              generalize lb.getD i 0 = x at *
              have HI : Kp _ := ⟨And.intro him hik⟩
              clear hE him hik
              go_wp2
              go_round
              case rel => exact ⟨i + 1, by omega, by go_num⟩
              case measure => simp [intOf]; omega
            · have hiki : (k : Int) ≤ (i : Int) := by omega
              rw [hE, if_neg hik] at hcn
              generalize W.getD i 0 = x at *
              have HI : Kp _ := ⟨And.intro him hik⟩
              clear hE him hik
              go_wp2
              go_round
              case rel => exact ⟨i + 1, by omega, by go_num⟩
              case measure => simp [intOf]; omega
          · have himi : ¬ ((i : Int) < (m : Int)) := by omega
            by_cases hik : i < k
            · have hiki : ¬ ((k : Int) ≤ (i : Int)) := by omega
              rw [hE, if_pos hik, getD_past lb i (by rw [HLb.out]; omega)] at hcn
              have HI : Kp _ := ⟨And.intro him hik⟩
              clear hE him hik
              go_wp2
              go_round
              case rel => exact ⟨i + 1, by omega, by go_num⟩
              case measure => simp [intOf]; omega
            · have hiki : (k : Int) ≤ (i : Int) := by omega
              rw [hE, if_neg hik] at hcn
              generalize W.getD i 0 = x at *
              have HI : Kp _ := ⟨And.intro him hik⟩
              clear hE him hik
              go_wp2
              go_round
              case rel => exact ⟨i + 1, by omega, by go_num⟩
              case measure => simp [intOf]; omega
        · obtain rfl : i = 272 := by omega
          have L21 := HT5K.out.2.1
          have B21 : writeB (readW (restartW (bumpW (wtT4 la lb k))) wx) (0, 0) = true := HT5K.out.2.2
          clear HN21 HW21 HB21
          go_wp2_with fail
          refine (st_dead H21.out).mono ?_
          rintro e w22 ⟨rfl, rfl⟩
          rw [L21]
          go_wp2_with fail
          refine (st_write H21.out (by omega) 0 0 ⟨rfl, rfl⟩ B m d lb (by simp)).mono ?_
          rintro e w23 ⟨rfl, S23⟩
          have hB23 := S23.below
          rw [B21]
          clear S23
          go_wp2_with fail
          refine (known6_any _).mono ?_
          rintro e w24 ⟨rfl, hB24⟩
          go_wp2
          go_ret
          exact ⟨rfl, hB23.trans (hB24.mono hB23.size)⟩
    · have B1' : bumpB (wtT4 la lb k) = true := by rw [B1, decide_eq_true (by omega)]
      have hqi : (272 : Int) < (k : Int) := by omega
      have HQ : Kp _ := ⟨And.intro hq hkk⟩
      clear B1 hq hkk
      rw [B1']
      have HT5 := wt_5 HT.out.1 HT.out.2.1
      rw [HT.out.2.2] at HT5
      have HT5K : Kp _ := ⟨HT5⟩
      clear HT5
      go_wp2_with fail
      refine (st_restart H7.out).mono ?_
      rintro e w20 ⟨rfl, S20⟩
      have H20 : Kp _ := ⟨S20⟩
      clear S20 H7
      go_wp2_with fail
      refine (st_read H20.out (by omega) 1 0 ⟨rfl, rfl⟩).mono ?_
      rintro e w21 ⟨A21, n21, c21, rfl, S21⟩
      have S21' : St w w21 (5 + 1 + 1) [(b, readW (restartW (bumpW (wtT4 la lb k))) wx)] [(A21, n21, c21, readL (restartW (bumpW (wtT4 la lb k))) wx), (A3, 272, c3, W), (A, n, c, la), (B, m, d, lb)] := S21
      rw [HT5K.out.1] at S21'
      obtain rfl : n21 = 272 := by rw [← (S21'.heldM (A := A21) (n := n21) (c := c21) (l := laid (padL (lb.take 272) 272) W (min 272 k)) (by simp)).1.len]; exact hl0
      have HN21 : Kp _ := ⟨(S21'.heldM (A := A21) (n := 272) (c := c21) (l := laid (padL (lb.take 272) 272) W (min 272 k)) (by simp)).1⟩
      have HW21 : Kp _ := ⟨(S21'.heldM (A := A3) (n := 272) (c := c3) (l := W) (by simp)).1⟩
      have HB21 : Kp _ := ⟨(S21'.heldM (A := B) (n := m) (c := d) (l := lb) (by simp)).1⟩
      have H21 : Kp _ := ⟨S21'⟩
      clear S21 S21' H20 hl0
      obtain ⟨N, hN⟩ : ∃ N, N = laid (padL (lb.take 272) 272) W (min 272 k) := ⟨_, rfl⟩
      rw [← hN] at HN21 HW H21
      clear hN
      go_wp2
      go_loop [13] (fun v => ∃ i : Nat, i ≤ 272 ∧ v = .int .i64 i) (fun v => 272 - (intOf v).toNat)
      case atStart => exact ⟨0, by omega, rfl⟩
      case round =>
        obtain ⟨i, hi, rfl⟩ := hrel
        by_cases hlt : i < 272
        · have hlti : (i : Int) < 272 := by omega
          obtain ⟨bn, on, rfl, hcn⟩ := HN21.out.gat (i := i) hlt
          obtain ⟨bw, ow, rfl, hcw⟩ := HW21.out.gat (i := i) hlt
          have hE := HW.out i hlt
          by_cases him : i < m
          · have himi : (i : Int) < (m : Int) := by omega
            obtain ⟨bb, ob, rfl, hcb⟩ := HB21.out.gat (i := i) him
            by_cases hik : i < k
            · have hiki : ¬ ((k : Int) ≤ (i : Int)) := by omega
              rw [hE, if_pos hik] at hcn
              generalize lb.getD i 0 = x at *
              have HI : Kp _ := ⟨And.intro him hik⟩
              clear hE him hik
              go_wp2
              go_round
              case rel => exact ⟨i + 1, by omega, by go_num⟩
              case measure => simp [intOf]; omega
            · have hiki : (k : Int) ≤ (i : Int) := by omega
              rw [hE, if_neg hik] at hcn
              generalize W.getD i 0 = x at *
              have HI : Kp _ := ⟨And.intro him hik⟩
              clear hE him hik
              go_wp2
              go_round
              case rel => exact ⟨i + 1, by omega, by go_num⟩
              case measure => simp [intOf]; omega
          · have himi : ¬ ((i : Int) < (m : Int)) := by omega
            by_cases hik : i < k
            · have hiki : ¬ ((k : Int) ≤ (i : Int)) := by omega
              rw [hE, if_pos hik, getD_past lb i (by rw [HLb.out]; omega)] at hcn
              have HI : Kp _ := ⟨And.intro him hik⟩
              clear hE him hik
              go_wp2
              go_round
              case rel => exact ⟨i + 1, by omega, by go_num⟩
              case measure => simp [intOf]; omega
            · have hiki : (k : Int) ≤ (i : Int) := by omega
              rw [hE, if_neg hik] at hcn
              generalize W.getD i 0 = x at *
              have HI : Kp _ := ⟨And.intro him hik⟩
              clear hE him hik
              go_wp2
              go_round
              case rel => exact ⟨i + 1, by omega, by go_num⟩
              case measure => simp [intOf]; omega
        · obtain rfl : i = 272 := by omega
          have L21 := HT5K.out.2.1
          have B21 : writeB (readW (restartW (bumpW (wtT4 la lb k))) wx) (0, 0) = true := HT5K.out.2.2
          clear HN21 HW21 HB21
          go_wp2_with fail
          refine (st_dead H21.out).mono ?_
          rintro e w22 ⟨rfl, rfl⟩
          rw [L21]
          go_wp2_with fail
          refine (st_write H21.out (by omega) 0 0 ⟨rfl, rfl⟩ B m d lb (by simp)).mono ?_
          rintro e w23 ⟨rfl, S23⟩
          have hB23 := S23.below
          rw [B21]
          clear S23
          go_wp2_with fail
          refine (known6_any _).mono ?_
          rintro e w24 ⟨rfl, hB24⟩
          go_wp2
          go_ret
          exact ⟨rfl, hB23.trans (hB24.mono hB23.size)⟩
  · have hki : (k : Int) < 272 := by omega
    have hki2 : ¬ ((272 : Int) ≤ (k : Int)) := by omega
    have d1 : decide (272 ≤ k) = false := decide_eq_false hkk
    have d2 : decide (k < 272) = true := decide_eq_true (by omega)
    rw [d2] at G3
    rw [d1] at G1'
    have L1 := (lost_bump G3).1
    have L2 := (lost_write (x := wy) (l := lb) G3).1
    have HT : Kp ((wtT4 la lb k).n = 2 ∧ (∀ z, (wtT4 la lb k).lies z = none) ∧ (wtT4 la lb k).sl wx = laid (padL (lb.take 272) 272) W (min 272 k)) := ⟨HG.out.1, HG.out.2.2.2.2.1, HG.out.2.2.2.2.2⟩
    have HE : Kp (bumpW (wtT4 la lb k) = wtT4 la lb k ∧ writeW (wtT4 la lb k) wy lb = wtT4 la lb k ∧ readL (wtT4 la lb k) wx = [] ∧ readW (wtT4 la lb k) wx = wtT4 la lb k) := ⟨(lost_bump G3).2, (lost_write G3).2, (lost_read G3).1, (lost_read G3).2⟩
    have L5 : ctrW (wtT4 la lb k) = 0 := by unfold ctrW; rw [if_pos G3]
    clear HG hkk d1 d2
    go_wp2_with fail
    refine (st_dead H5.out).mono ?_
    rintro e w6 ⟨rfl, rfl⟩
    rw [G3]
    go_wp2_with fail
    refine (st_bump H5.out (by omega)).mono ?_
    rintro e w7 ⟨rfl, S7⟩
    rw [HE.out.1] at S7
    have H7 : Kp _ := ⟨S7⟩
    clear S7 H5
    rw [L1]
    go_wp2_with fail
    refine (st_write H7.out (by omega) 0 0 ⟨rfl, rfl⟩ B m d lb (by simp)).mono ?_
    rintro e w8 ⟨rfl, S8⟩
    have S8' : St w w8 6 [(b, writeW (wtT4 la lb k) wy lb)] [(A3, 272, c3, W), (A, n, c, la), (B, m, d, lb)] := S8
    rw [HE.out.2.1] at S8'
    have L2' : writeB (wtT4 la lb k) (0, 0) = false := L2
    have H8 : Kp _ := ⟨S8'⟩
    clear S8 S8' H7
    rw [L2']
    go_wp2_with fail
    refine (st_read H8.out (by omega) 1 0 ⟨rfl, rfl⟩).mono ?_
    rintro e w9 ⟨A9, n9, c9, rfl, S9⟩
    have S9' : St w w9 7 [(b, readW (wtT4 la lb k) wx)] [(A9, n9, c9, readL (wtT4 la lb k) wx), (A3, 272, c3, W), (A, n, c, la), (B, m, d, lb)] := S9
    rw [HE.out.2.2.1, HE.out.2.2.2] at S9'
    obtain rfl : n9 = 0 := by rw [← (S9'.heldM (A := A9) (n := n9) (c := c9) (l := []) (by simp)).1.len]; rfl
    have H9 : Kp (St w w9 7 [(b, wtT4 la lb k)] [(A3, 272, c3, W), (A, n, c, la), (B, m, d, lb)]) := ⟨S9'.forget (fun x h => by simp at h ⊢; exact .inr h)⟩
    clear S9 S9' H8
    go_wp2_with fail
    refine (st_counter H9.out).mono ?_
    rintro e w10 ⟨rfl, rfl⟩
    rw [L5]
    have HT5 := wt_5 HT.out.1 HT.out.2.1
    rw [HT.out.2.2] at HT5
    have HT5K : Kp _ := ⟨HT5⟩
    clear HT5
    go_wp2_with fail
    refine (st_restart H9.out).mono ?_
    rintro e w20 ⟨rfl, S20⟩
    have H20 : Kp _ := ⟨S20⟩
    clear S20 H9
    go_wp2_with fail
    refine (st_read H20.out (by omega) 1 0 ⟨rfl, rfl⟩).mono ?_
    rintro e w21 ⟨A21, n21, c21, rfl, S21⟩
    have S21' : St w w21 (7 + 1 + 1) [(b, readW (restartW (wtT4 la lb k)) wx)] [(A21, n21, c21, readL (restartW (wtT4 la lb k)) wx), (A3, 272, c3, W), (A, n, c, la), (B, m, d, lb)] := S21
    rw [HT5K.out.1] at S21'
    obtain rfl : n21 = 272 := by rw [← (S21'.heldM (A := A21) (n := n21) (c := c21) (l := laid (padL (lb.take 272) 272) W (min 272 k)) (by simp)).1.len]; exact hl0
    have HN21 : Kp _ := ⟨(S21'.heldM (A := A21) (n := 272) (c := c21) (l := laid (padL (lb.take 272) 272) W (min 272 k)) (by simp)).1⟩
    have HW21 : Kp _ := ⟨(S21'.heldM (A := A3) (n := 272) (c := c3) (l := W) (by simp)).1⟩
    have HB21 : Kp _ := ⟨(S21'.heldM (A := B) (n := m) (c := d) (l := lb) (by simp)).1⟩
    have H21 : Kp _ := ⟨S21'⟩
    clear S21 S21' H20 hl0
    obtain ⟨N, hN⟩ : ∃ N, N = laid (padL (lb.take 272) 272) W (min 272 k) := ⟨_, rfl⟩
    rw [← hN] at HN21 HW H21
    clear hN
    go_wp2
    go_loop [13] (fun v => ∃ i : Nat, i ≤ 272 ∧ v = .int .i64 i) (fun v => 272 - (intOf v).toNat)
    case atStart => exact ⟨0, by omega, rfl⟩
    case round =>
      obtain ⟨i, hi, rfl⟩ := hrel
      by_cases hlt : i < 272
      · have hlti : (i : Int) < 272 := by omega
        obtain ⟨bn, on, rfl, hcn⟩ := HN21.out.gat (i := i) hlt
        obtain ⟨bw, ow, rfl, hcw⟩ := HW21.out.gat (i := i) hlt
        have hE := HW.out i hlt
        by_cases him : i < m
        · have himi : (i : Int) < (m : Int) := by omega
          obtain ⟨bb, ob, rfl, hcb⟩ := HB21.out.gat (i := i) him
          by_cases hik : i < k
          · have hiki : ¬ ((k : Int) ≤ (i : Int)) := by omega
            rw [hE, if_pos hik] at hcn
            generalize lb.getD i 0 = x at *
            have HI : Kp _ := ⟨And.intro him hik⟩
            clear hE him hik
            go_wp2
            go_round
            case rel => exact ⟨i + 1, by omega, by go_num⟩
            case measure => simp [intOf]; omega
          · have hiki : (k : Int) ≤ (i : Int) := by omega
            rw [hE, if_neg hik] at hcn
            generalize W.getD i 0 = x at *
            have HI : Kp _ := ⟨And.intro him hik⟩
            clear hE him hik
            go_wp2
            go_round
            case rel => exact ⟨i + 1, by omega, by go_num⟩
            case measure => simp [intOf]; omega
        · have himi : ¬ ((i : Int) < (m : Int)) := by omega
          by_cases hik : i < k
          · have hiki : ¬ ((k : Int) ≤ (i : Int)) := by omega
            rw [hE, if_pos hik, getD_past lb i (by rw [HLb.out]; omega)] at hcn
            have HI : Kp _ := ⟨And.intro him hik⟩
            clear hE him hik
            go_wp2
            go_round
            case rel => exact ⟨i + 1, by omega, by go_num⟩
            case measure => simp [intOf]; omega
          · have hiki : (k : Int) ≤ (i : Int) := by omega
            rw [hE, if_neg hik] at hcn
            generalize W.getD i 0 = x at *
            have HI : Kp _ := ⟨And.intro him hik⟩
            clear hE him hik
            go_wp2
            go_round
            case rel => exact ⟨i + 1, by omega, by go_num⟩
            case measure => simp [intOf]; omega
      · obtain rfl : i = 272 := by omega
        have L21 := HT5K.out.2.1
        have B21 : writeB (readW (restartW (wtT4 la lb k)) wx) (0, 0) = true := HT5K.out.2.2
        clear HN21 HW21 HB21
        go_wp2_with fail
        refine (st_dead H21.out).mono ?_
        rintro e w22 ⟨rfl, rfl⟩
        rw [L21]
        go_wp2_with fail
        refine (st_write H21.out (by omega) 0 0 ⟨rfl, rfl⟩ B m d lb (by simp)).mono ?_
        rintro e w23 ⟨rfl, S23⟩
        have hB23 := S23.below
        rw [B21]
        clear S23
        go_wp2_with fail
        refine (known6_any _).mono ?_
        rintro e w24 ⟨rfl, hB24⟩
        go_wp2
        go_ret
        exact ⟨rfl, hB23.trans (hB24.mono hB23.size)⟩
set_option maxHeartbeats 1000000 in
theorem walk_worldTears (A : Option Addr) (n c : Nat) (la : List UInt8) (B : Option Addr) (m d : Nat) (lb : List UInt8) (P : Nat) (w : World)
    (ha : Bs w w.heap.size A n c la) (hb : Bs w w.heap.size B m d lb) (hP : P ≤ 65535) (hn : n ≤ 140737488351232) (hm : m ≤ 140737488351232) :
    Calls Try.prog 4 #[.slice A n c, .slice B m d, .int .u16 (P : Int)] w fun e w' => e = .returned (.bool true) ∧ Below w.heap.size w w' := by
  by_cases hbig : (800 : Int) < (n : Int) + (m : Int)
  · clear ha hb
    go_enter Try.func4, Try.ntmps4
    go_wp2_with fail
    refine (known6_any _).mono ?_
    rintro e w1 ⟨rfl, hB1⟩
    go_wp2
    go_ret
    exact ⟨rfl, hB1⟩
  · exact wtears A n c la B m d lb P w ha hb hP (by omega)
theorem law_worldTears (A : Option Addr) (n c : Nat) (la : List UInt8) (B : Option Addr) (m d : Nat) (lb : List UInt8) (x : Int) (w : World)
    (ha : Bs w w.heap.size A n c la ∧ c ≤ 140737488351232) (hb : Bs w w.heap.size B m d lb ∧ d ≤ 140737488351232) (hx : (Lit.int .u16 x).wf = true) :
    Calls Try.prog 4 #[.slice A n c, .slice B m d, .int .u16 x] w fun e w' => e = .returned (.bool true) ∧ Below w.heap.size w w' := by
  have hx2 : 0 ≤ x ∧ x ≤ 65535 := by simpa [Lit.wf, IntKind.min, IntKind.max, IntKind.signed, IntKind.bits] using hx
  obtain ⟨P, rfl⟩ := Int.eq_ofNat_of_zero_le hx2.1
  exact walk_worldTears A n c la B m d lb P w ha.1 hb.1 (by omega) (Nat.le_trans ha.1.cap ha.2) (Nat.le_trans hb.1.cap hb.2)
end Go.Proofs.Ytockhfgjkhpphaa
