/- The walk of WorldTells. -/
import Derived.Test.YtockhfgjkhpphaaWkP
namespace Go.Proofs.Ytockhfgjkhpphaa
open Go.RowKit

/-- x[:k], in a region whose order is open -/
theorem yields_cut_hA {P : Program} {ops : Array Oper} {op : Oper} {a : Act} {t e : TypeId} {z : Value} {bytes : Nat} (hw : Region.wanted op (yielded ops a.tmps) = true) (E : El P t e z bytes) (x hi : Operand) (ho : op.op = .slice t x none (some hi) none)
    {A : Option Addr} {n c : Nat} (hx : a.eval x = .slice A n c) {k2 : IntKind} {J : Int} (hhi : a.eval hi = .int k2 J) (k : Nat) (hJ : J = k) (hk : k ≤ c) {A' : Option Addr} (hA' : (if c = 0 then A else A.map (·.add 0)) = A') : Yields P ops op (.slice A' k c) a := by
  subst hJ hA'
  refine .inl ⟨hw, fun w => ?_⟩
  have hrun := run_slice_h (P := P) (w := w) t A n c E.ty' k2 (k : Int) (by omega) (by omega)
  rw [E.sizeOf] at hrun
  unfold execOp
  simp [ho, hx, hhi, run_sliceAt_slice (P := P) (w := w) t _ _ _ _ E.ty', hrun, Result.andThen, sliced]
theorem Bs.cut0 {w : World} {L : Nat} {A : Option Addr} {n c k : Nat} {l : List UInt8} (h : Bs w L A n c l) (hk : k ≤ n) : Bs w L (if c = 0 then A else A.map (·.add 0)) k c (l.take k) := by
  have := h.cut (i := 0) (Nat.zero_le _) hk
  simpa using this
theorem inR8 (i s : Nat) (hi : i < 8) (hs : s < 2) : inR 8 ((i : Int), (s : Int)) = true := by
  unfold inR
  simp only [Bool.and_eq_true, decide_eq_true_eq]
  omega
theorem ok_pair (i s : Nat) (hi : i < 8) (hs : s < 2) : okP ((i : Int), (s : Int)) := ⟨WalkArith.wf_i64 (by omega), WalkArith.wf_i64 (by omega)⟩
theorem z_get (i : Nat) : z272.getD i 0 = 0 := by
  rw [List.getD_eq_getElem?_getD]
  unfold z272
  rw [List.getElem?_replicate]
  split <;> rfl
theorem pad_take (lb : List UInt8) (k : Nat) (h1 : k ≤ lb.length) (h2 : k ≤ 272) : (padL (lb.take 272) 272).take k = lb.take k := by
  unfold padL
  rw [List.take_append_of_le_length (by rw [List.length_take]; omega), List.take_take, Nat.min_eq_left h2]

set_option maxRecDepth 100000 in
set_option maxHeartbeats 8000000 in
theorem wtells0 (A : Option Addr) (n c : Nat) (la : List UInt8) (B : Option Addr) (m d : Nat) (lb : List UInt8) (C : Option Addr) (q f : Nat) (ll : List UInt8) (X S Y : Nat) (w : World)
    (ha : Bs w w.heap.size A n c la) (hb : Bs w w.heap.size B m d lb) (hc : Bs w w.heap.size C q f ll) (hX : X ≤ 255) (hS : S ≤ 255) (hY : Y ≤ 255) (hsm : n + m + q ≤ 800) (hs : S % 2 = 0) :
    Calls Try.prog 3 #[.slice A n c, .slice B m d, .slice C q f, .int .u8 (X : Int), .int .u8 (S : Int), .int .u8 (Y : Int)] w fun e w' => e = .returned (.bool true) ∧ Below w.heap.size w w' := by
  obtain ⟨i, hi⟩ : ∃ i, i = X % 8 := ⟨_, rfl⟩
  obtain ⟨j, hj⟩ : ∃ j, j = Y % 8 := ⟨_, rfl⟩
  have hi8 : i < 8 := by omega
  have hj8 : j < 8 := by omega
  have r1 : (X : Int) % 8 = (i : Int) := by omega
  have r1t : (X : Int).tmod 8 = (i : Int) := by rw [Int.tmod_eq_emod_of_nonneg (by omega)]; exact r1
  have r2 : (S : Int) % 2 = 0 := by omega
  have r2t : (S : Int).tmod 2 = 0 := by rw [Int.tmod_eq_emod_of_nonneg (by omega)]; exact r2
  have r3 : (Y : Int) % 8 = (j : Int) := by omega
  have r3t : (Y : Int).tmod 8 = (j : Int) := by rw [Int.tmod_eq_emod_of_nonneg (by omega)]; exact r3
  obtain ⟨x, hx⟩ : ∃ x : Int × Int, x = ((i : Int), 0) := ⟨_, rfl⟩
  obtain ⟨y, hy⟩ : ∃ y : Int × Int, y = ((j : Int), 1) := ⟨_, rfl⟩
  obtain ⟨v, hv⟩ : ∃ v : Int × Int, v = ((i : Int), 1) := ⟨_, rfl⟩
  have HT : Kp (Tells x y la lb ll v (if v = y then padL (lb.take 272) 272 else z272)) := ⟨tells_all x y v la lb ll (by rw [hx]; exact inR8 i 0 hi8 (by omega)) (by rw [hy]; exact inR8 j 1 hj8 (by omega)) (by rw [hv]; exact inR8 i 1 hi8 (by omega)) (by rw [hx, hy]; intro e; have := congrArg Prod.snd e; simp at this) (by rw [hx, hv]; intro e; have := congrArg Prod.snd e; simp at this)⟩
  have HX : Kp (okP ((i : Int), 0) ∧ okP ((j : Int), 1) ∧ okP ((i : Int), 1)) := ⟨ok_pair i 0 hi8 (by omega), ok_pair j 1 hj8 (by omega), ok_pair i 1 hi8 (by omega)⟩
  have b1 : writeB (newW 8) ((i : Int), 0) = true := by rw [← hx]; exact HT.out.b1
  have b2 : writeB (wkT1 x la) ((j : Int), 1) = true := by rw [← hy]; exact HT.out.b2
  have HXY : Kp (x = ((i : Int), 0) ∧ y = ((j : Int), 1) ∧ v = ((i : Int), 1)) := ⟨hx, hy, hv⟩
  have HA : Kp _ := ⟨ha⟩
  have HB : Kp _ := ⟨hb⟩
  have HC : Kp _ := ⟨hc⟩
  have HLa : Kp (la.length = n) := ⟨ha.len⟩
  have HLb : Kp (lb.length = m) := ⟨hb.len⟩
  have hn63 := ha.le
  have hsum : ¬ ((800 : Int) < (n : Int) + (m : Int) + (q : Int)) := by omega
  clear ha hb hc hi hj hs hx hy hv
  go_enter Try.func3, Try.ntmps3
  go_wp2_with fail
  refine (st_new (St.start w) 8 (by omega)).mono ?_
  rintro e w1 ⟨b, rfl, S1⟩
  have H1 : Kp _ := ⟨((S1.hold HC.out (by omega)).hold HB.out (by omega)).hold HA.out (by omega)⟩
  clear S1
  go_wp2_with fail
  refine (st_write H1.out (by omega) (i : Int) 0 HX.out.1 A n c la (by simp)).mono ?_
  rintro e w2 ⟨rfl, S2⟩
  rw [← HXY.out.1] at S2
  have H2 : Kp (St w w2 1 [(b, wkT1 x la)] [(A, n, c, la), (B, m, d, lb), (C, q, f, ll)]) := ⟨S2⟩
  clear S2 H1
  rw [b1]
  go_wp2_with fail
  refine (st_write H2.out (by omega) (j : Int) 1 HX.out.2.1 B m d lb (by simp)).mono ?_
  rintro e w3 ⟨rfl, S3⟩
  rw [← HXY.out.2.1] at S3
  have H3 : Kp (St w w3 2 [(b, wkT2 x y la lb)] [(A, n, c, la), (B, m, d, lb), (C, q, f, ll)]) := ⟨S3⟩
  clear S3 H2
  rw [b2]
  go_wp2_with fail
  refine (st_read H3.out (by omega) (i : Int) 0 HX.out.1).mono ?_
  rintro e w4 ⟨A4, n4, c4, rfl, S4⟩
  rw [← HXY.out.1, HT.out.r1] at S4
  obtain rfl : n4 = 272 := by rw [← (S4.heldM (A := A4) (n := n4) (c := c4) (l := padL (la.take 272) 272) (by simp)).1.len]; exact pad272 la
  have H4 : Kp (St w w4 3 [(b, wkT3 x y la lb)] [(A4, 272, c4, padL (la.take 272) 272), (A, n, c, la), (B, m, d, lb), (C, q, f, ll)]) := ⟨S4⟩
  clear S4 H3
  go_wp2_with fail
  refine (st_lie H4.out (by omega) 1 rfl C q f ll (by simp)).mono ?_
  rintro e w5 ⟨rfl, S5⟩
  have H5 : Kp (St w w5 4 [(b, wkT4 x y la lb ll)] [(A4, 272, c4, padL (la.take 272) 272), (A, n, c, la), (B, m, d, lb), (C, q, f, ll)]) := ⟨S5⟩
  clear S5 H4
  go_wp2_with fail
  refine (st_read H5.out (by omega) (i : Int) 0 HX.out.1).mono ?_
  rintro e w6 ⟨A6, n6, c6, rfl, S6⟩
  rw [← HXY.out.1, HT.out.r2] at S6
  have H6 : Kp (St w w6 5 [(b, wkT5 x y la lb ll)] [(A6, n6, c6, ll), (A4, 272, c4, padL (la.take 272) 272), (A, n, c, la), (B, m, d, lb), (C, q, f, ll)]) := ⟨S6⟩
  clear S6 H5
  go_wp2_with fail
  refine (st_read H6.out (by omega) (i : Int) 0 HX.out.1).mono ?_
  rintro e w7 ⟨A7, n7, c7, rfl, S7⟩
  rw [← HXY.out.1, HT.out.r3] at S7
  have H7 : Kp (St w w7 6 [(b, wkT6 x y la lb ll)] [(A7, n7, c7, padL (la.take 272) 272), (A6, n6, c6, ll), (A4, 272, c4, padL (la.take 272) 272), (A, n, c, la), (B, m, d, lb), (C, q, f, ll)]) := ⟨S7⟩
  clear S7 H6
  have q1 : (ll == ll) = true := by simp
  obtain ⟨W, hW⟩ : ∃ W, W = padL (la.take 272) 272 := ⟨_, rfl⟩
  rw [← hW] at H7
  have HW : Kp (∀ i, i < 272 → W.getD i 0 = la.getD i 0) := ⟨fun i hi => by rw [hW]; exact pad_get la i hi⟩
  have q2 : (W == W) = true := by simp
  clear hW
  go_wp2_with fail
  refine (st_same H7.out (A := A6) (n := n6) (c := c6) (l := ll) (B := C) (m := q) (d := f) (l' := ll) (by simp) (by simp)).mono ?_
  rintro e w8 ⟨rfl, rfl⟩
  rw [q1]
  go_wp2_with fail
  refine (st_same H7.out (A := A4) (n := 272) (c := c4) (l := W) (B := A7) (m := n7) (d := c7) (l' := W) (by simp) (by simp)).mono ?_
  rintro e w8 ⟨rfl, rfl⟩
  rw [q2]
  have HN : Kp _ := ⟨(H7.out.heldM (A := A4) (n := 272) (c := c4) (l := W) (by simp)).1⟩
  have HA7 : Kp _ := ⟨(H7.out.heldM (A := A) (n := n) (c := c) (l := la) (by simp)).1⟩
  go_wp2
  go_loop [21] (fun v => ∃ k : Nat, k ≤ 272 ∧ v = .int .i64 k) (fun v => 272 - (intOf v).toNat)
  case atStart => exact ⟨0, by omega, rfl⟩
  case round =>
    obtain ⟨k, hk, rfl⟩ := hrel
    by_cases hlt : k < 272
    · have hlti : (k : Int) < 272 := by omega
      obtain ⟨bn, on, rfl, hcn⟩ := HN.out.gat (i := k) hlt
      rw [HW.out k hlt] at hcn
      by_cases hkn : k < n
      · have hkni : (k : Int) < (n : Int) := by omega
        obtain ⟨bb, ob, rfl, hcb⟩ := HA7.out.gat (i := k) hkn
        generalize la.getD k 0 = z at *
        have HI : Kp _ := ⟨hkn⟩
        clear hkn
        go_wp2
        go_round
        case rel => exact ⟨k + 1, by omega, by go_num⟩
        case measure => simp [intOf]; omega
      · have hkni : ¬ ((k : Int) < (n : Int)) := by omega
        rw [getD_past la k (by rw [HLa.out]; omega)] at hcn
        have HI : Kp _ := ⟨hkn⟩
        clear hkn
        go_wp2
        go_round
        case rel => exact ⟨k + 1, by omega, by go_num⟩
        case measure => simp [intOf]; omega
    · obtain rfl : k = 272 := by omega
      clear HN HA7
      go_wp2_with fail
      refine (st_read H7.out (by omega) (i : Int) 1 HX.out.2.2).mono ?_
      rintro e w10 ⟨A10, n10, c10, rfl, S10⟩
      rw [← HXY.out.2.2, HT.out.r4] at S10
      by_cases hij : i = j
      · have hvy : v = y := by rw [HXY.out.2.1, HXY.out.2.2, hij]
        have hiji : ((i : Int) == (j : Int)) = true := by rw [beq_iff_eq]; omega
        rw [if_pos hvy] at S10
        obtain rfl : n10 = 272 := by rw [← (S10.heldM (A := A10) (n := n10) (c := c10) (l := padL (lb.take 272) 272) (by simp)).1.len]; exact pad272 lb
        have HE : Kp _ := ⟨(S10.heldM (A := A10) (n := 272) (c := c10) (l := padL (lb.take 272) 272) (by simp)).1⟩
        have HB10 : Kp _ := ⟨(S10.heldM (A := B) (n := m) (c := d) (l := lb) (by simp)).1⟩
        have hB10 := S10.below
        have HIJ : Kp _ := ⟨And.intro hij hvy⟩
        have hcE := HE.out.cap
        have hcB := HB10.out.cap
        clear S10 H7 hij hvy
        rcases (by omega : (272 : Int) < (m : Int) ∨ (m : Int) ≤ 272) with hmm | hmm
        · have hq : ((padL (lb.take 272) 272).take 272 == lb.take 272) = true := by rw [pad_take lb 272 (by rw [HLb.out]; omega) (by omega)]; simp
          have HQ1 : Kp _ := ⟨HE.out.cut0 (k := 272) (by omega)⟩
          have HQ2 : Kp _ := ⟨HB10.out.cut0 (k := 272) (by omega)⟩
          obtain ⟨E1, hE1⟩ : ∃ E1, (if c10 = 0 then A10 else A10.map (·.add 0)) = E1 := ⟨_, rfl⟩
          obtain ⟨E2, hE2⟩ : ∃ E2, (if d = 0 then B else B.map (·.add 0)) = E2 := ⟨_, rfl⟩
          rw [hE1] at HQ1
          rw [hE2] at HQ2
          have HE1 : Kp _ := ⟨hE1⟩
          have HE2 : Kp _ := ⟨hE2⟩
          clear hE1 hE2
          go_wp2_with fail
          refine wp_region_any (by kernel_rfl) ?_
          change wpAny _ _ _ _ _ _ _ w10.drew
          have HD : Kp (Below w.heap.size w w10.drew ∧ Bs w10.drew w10.drew.heap.size E1 272 c10 ((padL (lb.take 272) 272).take 272) ∧ Bs w10.drew w10.drew.heap.size E2 272 d (lb.take 272)) := ⟨hB10.drew, HQ1.out.drew, HQ2.out.drew⟩
          clear HQ1 HQ2 hB10 HE HB10
          generalize w10.drew = wS at *
          refine wpAny_take (i := 0) (oi := ⟨some 123, _, _, _, _, _⟩) (v := ?_) rfl (by kernel_rfl) (by kernel_rfl) (by kernel_rfl) (fun _ _ _ h => h) (Or.inl ⟨by rfl, by intro w; go_simp; try rfl⟩) ?_
          try simp only [Act.put, List.setIfInBounds_toArray, List.set_cons_zero, List.set_cons_succ]
          refine wpAny_take (i := 1) (oi := ⟨some 124, _, _, _, _, _⟩) (v := ?_) rfl (by kernel_rfl) (by kernel_rfl) (by kernel_rfl) (fun _ _ _ h => h) (Or.inl ⟨by rfl, by intro w; go_simp; try rfl⟩) ?_
          try simp only [Act.put, List.setIfInBounds_toArray, List.set_cons_zero, List.set_cons_succ]
          refine wpAny_take (i := 2) (oi := ⟨some 125, _, _, _, _, _⟩) (v := ?_) rfl (by kernel_rfl) (by kernel_rfl) (by kernel_rfl) (fun _ _ _ h => h) (Or.inl ⟨by rfl, by intro w; go_simp; try rfl⟩) ?_
          try simp only [Act.put, List.setIfInBounds_toArray, List.set_cons_zero, List.set_cons_succ]
          refine wpAny_take (i := 3) (oi := ⟨some 126, _, _, _, _, _⟩) (v := ?_) rfl (by kernel_rfl) (by kernel_rfl) (by kernel_rfl) (fun _ _ _ h => h) (Or.inl ⟨by rfl, by intro w; go_simp; try rfl⟩) ?_
          try simp only [Act.put, List.setIfInBounds_toArray, List.set_cons_zero, List.set_cons_succ]
          refine wpAny_take (i := 4) (oi := ⟨some 127, _, _, _, _, _⟩) (v := ?_) rfl (by kernel_rfl) (by kernel_rfl) (by kernel_rfl) (fun _ _ _ h => h) (Or.inl ⟨by rfl, by intro w; go_simp; try rfl⟩) ?_
          try simp only [Act.put, List.setIfInBounds_toArray, List.set_cons_zero, List.set_cons_succ]
          refine wpAny_take (i := 5) (oi := ⟨some 128, _, _, _, _, _⟩) (v := ?_) rfl (by kernel_rfl) (by kernel_rfl) (by kernel_rfl) (fun _ _ _ h => h) (Or.inl ⟨by rfl, by intro w; go_simp; try rfl⟩) ?_
          try simp only [Act.put, List.setIfInBounds_toArray, List.set_cons_zero, List.set_cons_succ]
          refine wpAny_take (i := 6) (oi := ⟨some 129, _, _, _, _, _⟩) (v := ?_) rfl (by kernel_rfl) (by kernel_rfl) (by kernel_rfl) (fun _ _ _ h => h) (Or.inl ⟨by rfl, by intro w; go_simp; try rfl⟩) ?_
          try simp only [Act.put, List.setIfInBounds_toArray, List.set_cons_zero, List.set_cons_succ]
          refine wpAny_take (i := 7) (oi := ⟨some 130, _, _, _, _, _⟩) (v := _) rfl (by kernel_rfl) (by kernel_rfl) (by kernel_rfl) (fun _ _ _ h => h) (yields_cut_hA (by rfl) el8 (.tmp 128) (.tmp 129) rfl rfl rfl 272 rfl (by omega) HE1.out) ?_
          try simp only [Act.put, List.setIfInBounds_toArray, List.set_cons_zero, List.set_cons_succ]
          refine wpAny_take (i := 8) (oi := ⟨some 131, _, _, _, _, _⟩) (v := ?_) rfl (by kernel_rfl) (by kernel_rfl) (by kernel_rfl) (fun _ _ _ h => h) (Or.inl ⟨by rfl, by intro w; go_simp; try rfl⟩) ?_
          try simp only [Act.put, List.setIfInBounds_toArray, List.set_cons_zero, List.set_cons_succ]
          refine wpAny_take (i := 9) (oi := ⟨some 132, _, _, _, _, _⟩) (v := ?_) rfl (by kernel_rfl) (by kernel_rfl) (by kernel_rfl) (fun _ _ _ h => h) (Or.inl ⟨by rfl, by intro w; go_simp; try rfl⟩) ?_
          try simp only [Act.put, List.setIfInBounds_toArray, List.set_cons_zero, List.set_cons_succ]
          refine wpAny_take (i := 10) (oi := ⟨some 133, _, _, _, _, _⟩) (v := _) rfl (by kernel_rfl) (by kernel_rfl) (by kernel_rfl) (fun _ _ _ h => h) (yields_cut_hA (by rfl) el8 (.tmp 131) (.tmp 132) rfl rfl rfl 272 rfl (by omega) HE2.out) ?_
          try simp only [Act.put, List.setIfInBounds_toArray, List.set_cons_zero, List.set_cons_succ]
          refine wpAny_ready (rs := [11]) (by kernel_rfl) (by simp) ?_
          refine AllReady.cons (o := ⟨some 134, _, _, _, _, _⟩) rfl (fun K hK => ?_) AllReady.nil
          go_simp
          refine (same_any E1 E2 272 c10 272 d ((padL (lb.take 272) 272).take 272) (lb.take 272) wS _ _ HD.out.2.1 HD.out.2.2).mono ?_
          rintro e wU ⟨rfl, rfl⟩
          rw [hq]
          refine hK _ _ ?_
          clear hK K
          try simp only [Act.put, List.setIfInBounds_toArray, List.set_cons_zero, List.set_cons_succ]
          refine wpAny_take (i := 12) (oi := ⟨some 135, _, _, _, _, _⟩) (v := ?_) rfl (by kernel_rfl) (by kernel_rfl) (by kernel_rfl) (fun _ _ _ h => h) (Or.inl ⟨by rfl, by intro w; go_simp; try rfl⟩) ?_
          try simp only [Act.put, List.setIfInBounds_toArray, List.set_cons_zero, List.set_cons_succ]
          refine wpAny_take (i := 13) (oi := ⟨some 136, _, _, _, _, _⟩) (v := ?_) rfl (by kernel_rfl) (by kernel_rfl) (by kernel_rfl) (fun _ _ _ h => h) (Or.inl ⟨by rfl, by intro w; go_simp; try rfl⟩) ?_
          try simp only [Act.put, List.setIfInBounds_toArray, List.set_cons_zero, List.set_cons_succ]
          refine wpAny_ready (rs := [14]) (by kernel_rfl) (by simp) ?_
          refine AllReady.cons (o := ⟨some 137, _, _, _, _, _⟩) rfl (fun K hK => ?_) AllReady.nil
          go_simp
          refine (known6_any wS).mono ?_
          rintro e w62 ⟨rfl, hb24⟩
          have HF : Kp _ := ⟨HD.out.1.trans (hb24.mono HD.out.1.size)⟩
          clear hb24
          refine hK _ _ ?_
          clear hK K
          try simp only [Act.put, List.setIfInBounds_toArray, List.set_cons_zero, List.set_cons_succ]
          refine wpAny_take (i := 15) (oi := ⟨some 138, _, _, _, _, _⟩) (v := ?_) rfl (by kernel_rfl) (by kernel_rfl) (by kernel_rfl) (fun _ _ _ h => h) (Or.inl ⟨by rfl, by intro w; go_simp; try rfl⟩) ?_
          try simp only [Act.put, List.setIfInBounds_toArray, List.set_cons_zero, List.set_cons_succ]
          refine wpAny_take (i := 16) (oi := ⟨some 12, _, _, _, _, _⟩) (v := ?_) rfl (by kernel_rfl) (by kernel_rfl) (by kernel_rfl) (fun _ _ _ h => h) (Or.inl ⟨by rfl, by intro w; go_simp; try rfl⟩) ?_
          try simp only [Act.put, List.setIfInBounds_toArray, List.set_cons_zero, List.set_cons_succ]
          refine wpAny_done (by kernel_rfl) ?_ _
          go_wp2
          go_ret
          exact ⟨rfl, HF.out⟩
        · have hq : ((padL (lb.take 272) 272).take m == lb.take m) = true := by rw [pad_take lb m (by rw [HLb.out]; omega) (by omega)]; simp
          have HQ1 : Kp _ := ⟨HE.out.cut0 (k := m) (by omega)⟩
          have HQ2 : Kp _ := ⟨HB10.out.cut0 (k := m) (by omega)⟩
          obtain ⟨E1, hE1⟩ : ∃ E1, (if c10 = 0 then A10 else A10.map (·.add 0)) = E1 := ⟨_, rfl⟩
          obtain ⟨E2, hE2⟩ : ∃ E2, (if d = 0 then B else B.map (·.add 0)) = E2 := ⟨_, rfl⟩
          rw [hE1] at HQ1
          rw [hE2] at HQ2
          have HE1 : Kp _ := ⟨hE1⟩
          have HE2 : Kp _ := ⟨hE2⟩
          clear hE1 hE2
          go_wp2_with fail
          refine wp_region_any (by kernel_rfl) ?_
          change wpAny _ _ _ _ _ _ _ w10.drew
          have HD : Kp (Below w.heap.size w w10.drew ∧ Bs w10.drew w10.drew.heap.size E1 m c10 ((padL (lb.take 272) 272).take m) ∧ Bs w10.drew w10.drew.heap.size E2 m d (lb.take m)) := ⟨hB10.drew, HQ1.out.drew, HQ2.out.drew⟩
          clear HQ1 HQ2 hB10 HE HB10
          generalize w10.drew = wS at *
          refine wpAny_take (i := 0) (oi := ⟨some 123, _, _, _, _, _⟩) (v := ?_) rfl (by kernel_rfl) (by kernel_rfl) (by kernel_rfl) (fun _ _ _ h => h) (Or.inl ⟨by rfl, by intro w; go_simp; try rfl⟩) ?_
          try simp only [Act.put, List.setIfInBounds_toArray, List.set_cons_zero, List.set_cons_succ]
          refine wpAny_take (i := 1) (oi := ⟨some 124, _, _, _, _, _⟩) (v := ?_) rfl (by kernel_rfl) (by kernel_rfl) (by kernel_rfl) (fun _ _ _ h => h) (Or.inl ⟨by rfl, by intro w; go_simp; try rfl⟩) ?_
          try simp only [Act.put, List.setIfInBounds_toArray, List.set_cons_zero, List.set_cons_succ]
          refine wpAny_take (i := 2) (oi := ⟨some 125, _, _, _, _, _⟩) (v := ?_) rfl (by kernel_rfl) (by kernel_rfl) (by kernel_rfl) (fun _ _ _ h => h) (Or.inl ⟨by rfl, by intro w; go_simp; try rfl⟩) ?_
          try simp only [Act.put, List.setIfInBounds_toArray, List.set_cons_zero, List.set_cons_succ]
          refine wpAny_take (i := 3) (oi := ⟨some 126, _, _, _, _, _⟩) (v := ?_) rfl (by kernel_rfl) (by kernel_rfl) (by kernel_rfl) (fun _ _ _ h => h) (Or.inl ⟨by rfl, by intro w; go_simp; try rfl⟩) ?_
          try simp only [Act.put, List.setIfInBounds_toArray, List.set_cons_zero, List.set_cons_succ]
          refine wpAny_take (i := 4) (oi := ⟨some 127, _, _, _, _, _⟩) (v := ?_) rfl (by kernel_rfl) (by kernel_rfl) (by kernel_rfl) (fun _ _ _ h => h) (Or.inl ⟨by rfl, by intro w; go_simp; try rfl⟩) ?_
          try simp only [Act.put, List.setIfInBounds_toArray, List.set_cons_zero, List.set_cons_succ]
          refine wpAny_take (i := 5) (oi := ⟨some 128, _, _, _, _, _⟩) (v := ?_) rfl (by kernel_rfl) (by kernel_rfl) (by kernel_rfl) (fun _ _ _ h => h) (Or.inl ⟨by rfl, by intro w; go_simp; try rfl⟩) ?_
          try simp only [Act.put, List.setIfInBounds_toArray, List.set_cons_zero, List.set_cons_succ]
          refine wpAny_take (i := 6) (oi := ⟨some 129, _, _, _, _, _⟩) (v := ?_) rfl (by kernel_rfl) (by kernel_rfl) (by kernel_rfl) (fun _ _ _ h => h) (Or.inl ⟨by rfl, by intro w; go_simp; try rfl⟩) ?_
          try simp only [Act.put, List.setIfInBounds_toArray, List.set_cons_zero, List.set_cons_succ]
          refine wpAny_take (i := 7) (oi := ⟨some 130, _, _, _, _, _⟩) (v := _) rfl (by kernel_rfl) (by kernel_rfl) (by kernel_rfl) (fun _ _ _ h => h) (yields_cut_hA (by rfl) el8 (.tmp 128) (.tmp 129) rfl rfl rfl m rfl (by omega) HE1.out) ?_
          try simp only [Act.put, List.setIfInBounds_toArray, List.set_cons_zero, List.set_cons_succ]
          refine wpAny_take (i := 8) (oi := ⟨some 131, _, _, _, _, _⟩) (v := ?_) rfl (by kernel_rfl) (by kernel_rfl) (by kernel_rfl) (fun _ _ _ h => h) (Or.inl ⟨by rfl, by intro w; go_simp; try rfl⟩) ?_
          try simp only [Act.put, List.setIfInBounds_toArray, List.set_cons_zero, List.set_cons_succ]
          refine wpAny_take (i := 9) (oi := ⟨some 132, _, _, _, _, _⟩) (v := ?_) rfl (by kernel_rfl) (by kernel_rfl) (by kernel_rfl) (fun _ _ _ h => h) (Or.inl ⟨by rfl, by intro w; go_simp; try rfl⟩) ?_
          try simp only [Act.put, List.setIfInBounds_toArray, List.set_cons_zero, List.set_cons_succ]
          refine wpAny_take (i := 10) (oi := ⟨some 133, _, _, _, _, _⟩) (v := _) rfl (by kernel_rfl) (by kernel_rfl) (by kernel_rfl) (fun _ _ _ h => h) (yields_cut_hA (by rfl) el8 (.tmp 131) (.tmp 132) rfl rfl rfl m rfl (by omega) HE2.out) ?_
          try simp only [Act.put, List.setIfInBounds_toArray, List.set_cons_zero, List.set_cons_succ]
          refine wpAny_ready (rs := [11]) (by kernel_rfl) (by simp) ?_
          refine AllReady.cons (o := ⟨some 134, _, _, _, _, _⟩) rfl (fun K hK => ?_) AllReady.nil
          go_simp
          refine (same_any E1 E2 m c10 m d ((padL (lb.take 272) 272).take m) (lb.take m) wS _ _ HD.out.2.1 HD.out.2.2).mono ?_
          rintro e wU ⟨rfl, rfl⟩
          rw [hq]
          refine hK _ _ ?_
          clear hK K
          try simp only [Act.put, List.setIfInBounds_toArray, List.set_cons_zero, List.set_cons_succ]
          refine wpAny_take (i := 12) (oi := ⟨some 135, _, _, _, _, _⟩) (v := ?_) rfl (by kernel_rfl) (by kernel_rfl) (by kernel_rfl) (fun _ _ _ h => h) (Or.inl ⟨by rfl, by intro w; go_simp; try rfl⟩) ?_
          try simp only [Act.put, List.setIfInBounds_toArray, List.set_cons_zero, List.set_cons_succ]
          refine wpAny_take (i := 13) (oi := ⟨some 136, _, _, _, _, _⟩) (v := ?_) rfl (by kernel_rfl) (by kernel_rfl) (by kernel_rfl) (fun _ _ _ h => h) (Or.inl ⟨by rfl, by intro w; go_simp; try rfl⟩) ?_
          try simp only [Act.put, List.setIfInBounds_toArray, List.set_cons_zero, List.set_cons_succ]
          refine wpAny_ready (rs := [14]) (by kernel_rfl) (by simp) ?_
          refine AllReady.cons (o := ⟨some 137, _, _, _, _, _⟩) rfl (fun K hK => ?_) AllReady.nil
          go_simp
          refine (known6_any wS).mono ?_
          rintro e w62 ⟨rfl, hb24⟩
          have HF : Kp _ := ⟨HD.out.1.trans (hb24.mono HD.out.1.size)⟩
          clear hb24
          refine hK _ _ ?_
          clear hK K
          try simp only [Act.put, List.setIfInBounds_toArray, List.set_cons_zero, List.set_cons_succ]
          refine wpAny_take (i := 15) (oi := ⟨some 138, _, _, _, _, _⟩) (v := ?_) rfl (by kernel_rfl) (by kernel_rfl) (by kernel_rfl) (fun _ _ _ h => h) (Or.inl ⟨by rfl, by intro w; go_simp; try rfl⟩) ?_
          try simp only [Act.put, List.setIfInBounds_toArray, List.set_cons_zero, List.set_cons_succ]
          refine wpAny_take (i := 16) (oi := ⟨some 12, _, _, _, _, _⟩) (v := ?_) rfl (by kernel_rfl) (by kernel_rfl) (by kernel_rfl) (fun _ _ _ h => h) (Or.inl ⟨by rfl, by intro w; go_simp; try rfl⟩) ?_
          try simp only [Act.put, List.setIfInBounds_toArray, List.set_cons_zero, List.set_cons_succ]
          refine wpAny_done (by kernel_rfl) ?_ _
          go_wp2
          go_ret
          exact ⟨rfl, HF.out⟩
      · have hvy : ¬ v = y := by
          rw [HXY.out.2.1, HXY.out.2.2]; intro e
          have := congrArg Prod.fst e
          simp at this
          omega
        have hiji : ((i : Int) == (j : Int)) = false := by rw [beq_eq_false_iff_ne]; omega
        rw [if_neg hvy] at S10
        obtain rfl : n10 = 272 := by rw [← (S10.heldM (A := A10) (n := n10) (c := c10) (l := z272) (by simp)).1.len]; simp only [z272, List.length_replicate]
        have HE : Kp _ := ⟨(S10.heldM (A := A10) (n := 272) (c := c10) (l := z272) (by simp)).1⟩
        have hB10 := S10.below
        have HIJ : Kp _ := ⟨And.intro hij hvy⟩
        clear S10 H7 hij hvy
        go_wp2
        go_loop [25] (fun v => ∃ k : Nat, k ≤ 272 ∧ v = .int .i64 k) (fun v => 272 - (intOf v).toNat)
        case atStart => exact ⟨0, by omega, rfl⟩
        case round =>
          obtain ⟨k2, hk2, rfl⟩ := hrel
          by_cases hlt2 : k2 < 272
          · have hlti2 : (k2 : Int) < 272 := by omega
            obtain ⟨bn, on, rfl, hcn⟩ := HE.out.gat (i := k2) hlt2
            rw [z_get] at hcn
            go_wp2
            go_round
            case rel => exact ⟨k2 + 1, by omega, by go_num⟩
            case measure => simp [intOf]; omega
          · obtain rfl : k2 = 272 := by omega
            go_wp2_with fail
            refine (known6_any _).mono ?_
            rintro e w24 ⟨rfl, hB24⟩
            go_wp2
            go_ret
            exact ⟨rfl, hB10.trans (hB24.mono hB10.size)⟩
set_option maxRecDepth 100000 in
set_option maxHeartbeats 8000000 in
theorem wtells1 (A : Option Addr) (n c : Nat) (la : List UInt8) (B : Option Addr) (m d : Nat) (lb : List UInt8) (C : Option Addr) (q f : Nat) (ll : List UInt8) (X S Y : Nat) (w : World)
    (ha : Bs w w.heap.size A n c la) (hb : Bs w w.heap.size B m d lb) (hc : Bs w w.heap.size C q f ll) (hX : X ≤ 255) (hS : S ≤ 255) (hY : Y ≤ 255) (hsm : n + m + q ≤ 800) (hs : S % 2 = 1) :
    Calls Try.prog 3 #[.slice A n c, .slice B m d, .slice C q f, .int .u8 (X : Int), .int .u8 (S : Int), .int .u8 (Y : Int)] w fun e w' => e = .returned (.bool true) ∧ Below w.heap.size w w' := by
  obtain ⟨i, hi⟩ : ∃ i, i = X % 8 := ⟨_, rfl⟩
  obtain ⟨j, hj⟩ : ∃ j, j = Y % 8 := ⟨_, rfl⟩
  have hi8 : i < 8 := by omega
  have hj8 : j < 8 := by omega
  have r1 : (X : Int) % 8 = (i : Int) := by omega
  have r1t : (X : Int).tmod 8 = (i : Int) := by rw [Int.tmod_eq_emod_of_nonneg (by omega)]; exact r1
  have r2 : (S : Int) % 2 = 1 := by omega
  have r2t : (S : Int).tmod 2 = 1 := by rw [Int.tmod_eq_emod_of_nonneg (by omega)]; exact r2
  have r3 : (Y : Int) % 8 = (j : Int) := by omega
  have r3t : (Y : Int).tmod 8 = (j : Int) := by rw [Int.tmod_eq_emod_of_nonneg (by omega)]; exact r3
  obtain ⟨x, hx⟩ : ∃ x : Int × Int, x = ((i : Int), 1) := ⟨_, rfl⟩
  obtain ⟨y, hy⟩ : ∃ y : Int × Int, y = ((j : Int), 0) := ⟨_, rfl⟩
  obtain ⟨v, hv⟩ : ∃ v : Int × Int, v = ((i : Int), 0) := ⟨_, rfl⟩
  have HT : Kp (Tells x y la lb ll v (if v = y then padL (lb.take 272) 272 else z272)) := ⟨tells_all x y v la lb ll (by rw [hx]; exact inR8 i 1 hi8 (by omega)) (by rw [hy]; exact inR8 j 0 hj8 (by omega)) (by rw [hv]; exact inR8 i 0 hi8 (by omega)) (by rw [hx, hy]; intro e; have := congrArg Prod.snd e; simp at this) (by rw [hx, hv]; intro e; have := congrArg Prod.snd e; simp at this)⟩
  have HX : Kp (okP ((i : Int), 1) ∧ okP ((j : Int), 0) ∧ okP ((i : Int), 0)) := ⟨ok_pair i 1 hi8 (by omega), ok_pair j 0 hj8 (by omega), ok_pair i 0 hi8 (by omega)⟩
  have b1 : writeB (newW 8) ((i : Int), 1) = true := by rw [← hx]; exact HT.out.b1
  have b2 : writeB (wkT1 x la) ((j : Int), 0) = true := by rw [← hy]; exact HT.out.b2
  have HXY : Kp (x = ((i : Int), 1) ∧ y = ((j : Int), 0) ∧ v = ((i : Int), 0)) := ⟨hx, hy, hv⟩
  have HA : Kp _ := ⟨ha⟩
  have HB : Kp _ := ⟨hb⟩
  have HC : Kp _ := ⟨hc⟩
  have HLa : Kp (la.length = n) := ⟨ha.len⟩
  have HLb : Kp (lb.length = m) := ⟨hb.len⟩
  have hn63 := ha.le
  have hsum : ¬ ((800 : Int) < (n : Int) + (m : Int) + (q : Int)) := by omega
  clear ha hb hc hi hj hs hx hy hv
  go_enter Try.func3, Try.ntmps3
  go_wp2_with fail
  refine (st_new (St.start w) 8 (by omega)).mono ?_
  rintro e w1 ⟨b, rfl, S1⟩
  have H1 : Kp _ := ⟨((S1.hold HC.out (by omega)).hold HB.out (by omega)).hold HA.out (by omega)⟩
  clear S1
  go_wp2_with fail
  refine (st_write H1.out (by omega) (i : Int) 1 HX.out.1 A n c la (by simp)).mono ?_
  rintro e w2 ⟨rfl, S2⟩
  rw [← HXY.out.1] at S2
  have H2 : Kp (St w w2 1 [(b, wkT1 x la)] [(A, n, c, la), (B, m, d, lb), (C, q, f, ll)]) := ⟨S2⟩
  clear S2 H1
  rw [b1]
  go_wp2_with fail
  refine (st_write H2.out (by omega) (j : Int) 0 HX.out.2.1 B m d lb (by simp)).mono ?_
  rintro e w3 ⟨rfl, S3⟩
  rw [← HXY.out.2.1] at S3
  have H3 : Kp (St w w3 2 [(b, wkT2 x y la lb)] [(A, n, c, la), (B, m, d, lb), (C, q, f, ll)]) := ⟨S3⟩
  clear S3 H2
  rw [b2]
  go_wp2_with fail
  refine (st_read H3.out (by omega) (i : Int) 1 HX.out.1).mono ?_
  rintro e w4 ⟨A4, n4, c4, rfl, S4⟩
  rw [← HXY.out.1, HT.out.r1] at S4
  obtain rfl : n4 = 272 := by rw [← (S4.heldM (A := A4) (n := n4) (c := c4) (l := padL (la.take 272) 272) (by simp)).1.len]; exact pad272 la
  have H4 : Kp (St w w4 3 [(b, wkT3 x y la lb)] [(A4, 272, c4, padL (la.take 272) 272), (A, n, c, la), (B, m, d, lb), (C, q, f, ll)]) := ⟨S4⟩
  clear S4 H3
  go_wp2_with fail
  refine (st_lie H4.out (by omega) 1 rfl C q f ll (by simp)).mono ?_
  rintro e w5 ⟨rfl, S5⟩
  have H5 : Kp (St w w5 4 [(b, wkT4 x y la lb ll)] [(A4, 272, c4, padL (la.take 272) 272), (A, n, c, la), (B, m, d, lb), (C, q, f, ll)]) := ⟨S5⟩
  clear S5 H4
  go_wp2_with fail
  refine (st_read H5.out (by omega) (i : Int) 1 HX.out.1).mono ?_
  rintro e w6 ⟨A6, n6, c6, rfl, S6⟩
  rw [← HXY.out.1, HT.out.r2] at S6
  have H6 : Kp (St w w6 5 [(b, wkT5 x y la lb ll)] [(A6, n6, c6, ll), (A4, 272, c4, padL (la.take 272) 272), (A, n, c, la), (B, m, d, lb), (C, q, f, ll)]) := ⟨S6⟩
  clear S6 H5
  go_wp2_with fail
  refine (st_read H6.out (by omega) (i : Int) 1 HX.out.1).mono ?_
  rintro e w7 ⟨A7, n7, c7, rfl, S7⟩
  rw [← HXY.out.1, HT.out.r3] at S7
  have H7 : Kp (St w w7 6 [(b, wkT6 x y la lb ll)] [(A7, n7, c7, padL (la.take 272) 272), (A6, n6, c6, ll), (A4, 272, c4, padL (la.take 272) 272), (A, n, c, la), (B, m, d, lb), (C, q, f, ll)]) := ⟨S7⟩
  clear S7 H6
  have q1 : (ll == ll) = true := by simp
  obtain ⟨W, hW⟩ : ∃ W, W = padL (la.take 272) 272 := ⟨_, rfl⟩
  rw [← hW] at H7
  have HW : Kp (∀ i, i < 272 → W.getD i 0 = la.getD i 0) := ⟨fun i hi => by rw [hW]; exact pad_get la i hi⟩
  have q2 : (W == W) = true := by simp
  clear hW
  go_wp2_with fail
  refine (st_same H7.out (A := A6) (n := n6) (c := c6) (l := ll) (B := C) (m := q) (d := f) (l' := ll) (by simp) (by simp)).mono ?_
  rintro e w8 ⟨rfl, rfl⟩
  rw [q1]
  go_wp2_with fail
  refine (st_same H7.out (A := A4) (n := 272) (c := c4) (l := W) (B := A7) (m := n7) (d := c7) (l' := W) (by simp) (by simp)).mono ?_
  rintro e w8 ⟨rfl, rfl⟩
  rw [q2]
  have HN : Kp _ := ⟨(H7.out.heldM (A := A4) (n := 272) (c := c4) (l := W) (by simp)).1⟩
  have HA7 : Kp _ := ⟨(H7.out.heldM (A := A) (n := n) (c := c) (l := la) (by simp)).1⟩
  go_wp2
  go_loop [21] (fun v => ∃ k : Nat, k ≤ 272 ∧ v = .int .i64 k) (fun v => 272 - (intOf v).toNat)
  case atStart => exact ⟨0, by omega, rfl⟩
  case round =>
    obtain ⟨k, hk, rfl⟩ := hrel
    by_cases hlt : k < 272
    · have hlti : (k : Int) < 272 := by omega
      obtain ⟨bn, on, rfl, hcn⟩ := HN.out.gat (i := k) hlt
      rw [HW.out k hlt] at hcn
      by_cases hkn : k < n
      · have hkni : (k : Int) < (n : Int) := by omega
        obtain ⟨bb, ob, rfl, hcb⟩ := HA7.out.gat (i := k) hkn
        generalize la.getD k 0 = z at *
        have HI : Kp _ := ⟨hkn⟩
        clear hkn
        go_wp2
        go_round
        case rel => exact ⟨k + 1, by omega, by go_num⟩
        case measure => simp [intOf]; omega
      · have hkni : ¬ ((k : Int) < (n : Int)) := by omega
        rw [getD_past la k (by rw [HLa.out]; omega)] at hcn
        have HI : Kp _ := ⟨hkn⟩
        clear hkn
        go_wp2
        go_round
        case rel => exact ⟨k + 1, by omega, by go_num⟩
        case measure => simp [intOf]; omega
    · obtain rfl : k = 272 := by omega
      clear HN HA7
      go_wp2_with fail
      refine (st_read H7.out (by omega) (i : Int) 0 HX.out.2.2).mono ?_
      rintro e w10 ⟨A10, n10, c10, rfl, S10⟩
      rw [← HXY.out.2.2, HT.out.r4] at S10
      by_cases hij : i = j
      · have hvy : v = y := by rw [HXY.out.2.1, HXY.out.2.2, hij]
        have hiji : ((i : Int) == (j : Int)) = true := by rw [beq_iff_eq]; omega
        rw [if_pos hvy] at S10
        obtain rfl : n10 = 272 := by rw [← (S10.heldM (A := A10) (n := n10) (c := c10) (l := padL (lb.take 272) 272) (by simp)).1.len]; exact pad272 lb
        have HE : Kp _ := ⟨(S10.heldM (A := A10) (n := 272) (c := c10) (l := padL (lb.take 272) 272) (by simp)).1⟩
        have HB10 : Kp _ := ⟨(S10.heldM (A := B) (n := m) (c := d) (l := lb) (by simp)).1⟩
        have hB10 := S10.below
        have HIJ : Kp _ := ⟨And.intro hij hvy⟩
        have hcE := HE.out.cap
        have hcB := HB10.out.cap
        clear S10 H7 hij hvy
        rcases (by omega : (272 : Int) < (m : Int) ∨ (m : Int) ≤ 272) with hmm | hmm
        · have hq : ((padL (lb.take 272) 272).take 272 == lb.take 272) = true := by rw [pad_take lb 272 (by rw [HLb.out]; omega) (by omega)]; simp
          have HQ1 : Kp _ := ⟨HE.out.cut0 (k := 272) (by omega)⟩
          have HQ2 : Kp _ := ⟨HB10.out.cut0 (k := 272) (by omega)⟩
          obtain ⟨E1, hE1⟩ : ∃ E1, (if c10 = 0 then A10 else A10.map (·.add 0)) = E1 := ⟨_, rfl⟩
          obtain ⟨E2, hE2⟩ : ∃ E2, (if d = 0 then B else B.map (·.add 0)) = E2 := ⟨_, rfl⟩
          rw [hE1] at HQ1
          rw [hE2] at HQ2
          have HE1 : Kp _ := ⟨hE1⟩
          have HE2 : Kp _ := ⟨hE2⟩
          clear hE1 hE2
          go_wp2_with fail
          refine wp_region_any (by kernel_rfl) ?_
          change wpAny _ _ _ _ _ _ _ w10.drew
          have HD : Kp (Below w.heap.size w w10.drew ∧ Bs w10.drew w10.drew.heap.size E1 272 c10 ((padL (lb.take 272) 272).take 272) ∧ Bs w10.drew w10.drew.heap.size E2 272 d (lb.take 272)) := ⟨hB10.drew, HQ1.out.drew, HQ2.out.drew⟩
          clear HQ1 HQ2 hB10 HE HB10
          generalize w10.drew = wS at *
          refine wpAny_take (i := 0) (oi := ⟨some 123, _, _, _, _, _⟩) (v := ?_) rfl (by kernel_rfl) (by kernel_rfl) (by kernel_rfl) (fun _ _ _ h => h) (Or.inl ⟨by rfl, by intro w; go_simp; try rfl⟩) ?_
          try simp only [Act.put, List.setIfInBounds_toArray, List.set_cons_zero, List.set_cons_succ]
          refine wpAny_take (i := 1) (oi := ⟨some 124, _, _, _, _, _⟩) (v := ?_) rfl (by kernel_rfl) (by kernel_rfl) (by kernel_rfl) (fun _ _ _ h => h) (Or.inl ⟨by rfl, by intro w; go_simp; try rfl⟩) ?_
          try simp only [Act.put, List.setIfInBounds_toArray, List.set_cons_zero, List.set_cons_succ]
          refine wpAny_take (i := 2) (oi := ⟨some 125, _, _, _, _, _⟩) (v := ?_) rfl (by kernel_rfl) (by kernel_rfl) (by kernel_rfl) (fun _ _ _ h => h) (Or.inl ⟨by rfl, by intro w; go_simp; try rfl⟩) ?_
          try simp only [Act.put, List.setIfInBounds_toArray, List.set_cons_zero, List.set_cons_succ]
          refine wpAny_take (i := 3) (oi := ⟨some 126, _, _, _, _, _⟩) (v := ?_) rfl (by kernel_rfl) (by kernel_rfl) (by kernel_rfl) (fun _ _ _ h => h) (Or.inl ⟨by rfl, by intro w; go_simp; try rfl⟩) ?_
          try simp only [Act.put, List.setIfInBounds_toArray, List.set_cons_zero, List.set_cons_succ]
          refine wpAny_take (i := 4) (oi := ⟨some 127, _, _, _, _, _⟩) (v := ?_) rfl (by kernel_rfl) (by kernel_rfl) (by kernel_rfl) (fun _ _ _ h => h) (Or.inl ⟨by rfl, by intro w; go_simp; try rfl⟩) ?_
          try simp only [Act.put, List.setIfInBounds_toArray, List.set_cons_zero, List.set_cons_succ]
          refine wpAny_take (i := 5) (oi := ⟨some 128, _, _, _, _, _⟩) (v := ?_) rfl (by kernel_rfl) (by kernel_rfl) (by kernel_rfl) (fun _ _ _ h => h) (Or.inl ⟨by rfl, by intro w; go_simp; try rfl⟩) ?_
          try simp only [Act.put, List.setIfInBounds_toArray, List.set_cons_zero, List.set_cons_succ]
          refine wpAny_take (i := 6) (oi := ⟨some 129, _, _, _, _, _⟩) (v := ?_) rfl (by kernel_rfl) (by kernel_rfl) (by kernel_rfl) (fun _ _ _ h => h) (Or.inl ⟨by rfl, by intro w; go_simp; try rfl⟩) ?_
          try simp only [Act.put, List.setIfInBounds_toArray, List.set_cons_zero, List.set_cons_succ]
          refine wpAny_take (i := 7) (oi := ⟨some 130, _, _, _, _, _⟩) (v := _) rfl (by kernel_rfl) (by kernel_rfl) (by kernel_rfl) (fun _ _ _ h => h) (yields_cut_hA (by rfl) el8 (.tmp 128) (.tmp 129) rfl rfl rfl 272 rfl (by omega) HE1.out) ?_
          try simp only [Act.put, List.setIfInBounds_toArray, List.set_cons_zero, List.set_cons_succ]
          refine wpAny_take (i := 8) (oi := ⟨some 131, _, _, _, _, _⟩) (v := ?_) rfl (by kernel_rfl) (by kernel_rfl) (by kernel_rfl) (fun _ _ _ h => h) (Or.inl ⟨by rfl, by intro w; go_simp; try rfl⟩) ?_
          try simp only [Act.put, List.setIfInBounds_toArray, List.set_cons_zero, List.set_cons_succ]
          refine wpAny_take (i := 9) (oi := ⟨some 132, _, _, _, _, _⟩) (v := ?_) rfl (by kernel_rfl) (by kernel_rfl) (by kernel_rfl) (fun _ _ _ h => h) (Or.inl ⟨by rfl, by intro w; go_simp; try rfl⟩) ?_
          try simp only [Act.put, List.setIfInBounds_toArray, List.set_cons_zero, List.set_cons_succ]
          refine wpAny_take (i := 10) (oi := ⟨some 133, _, _, _, _, _⟩) (v := _) rfl (by kernel_rfl) (by kernel_rfl) (by kernel_rfl) (fun _ _ _ h => h) (yields_cut_hA (by rfl) el8 (.tmp 131) (.tmp 132) rfl rfl rfl 272 rfl (by omega) HE2.out) ?_
          try simp only [Act.put, List.setIfInBounds_toArray, List.set_cons_zero, List.set_cons_succ]
          refine wpAny_ready (rs := [11]) (by kernel_rfl) (by simp) ?_
          refine AllReady.cons (o := ⟨some 134, _, _, _, _, _⟩) rfl (fun K hK => ?_) AllReady.nil
          go_simp
          refine (same_any E1 E2 272 c10 272 d ((padL (lb.take 272) 272).take 272) (lb.take 272) wS _ _ HD.out.2.1 HD.out.2.2).mono ?_
          rintro e wU ⟨rfl, rfl⟩
          rw [hq]
          refine hK _ _ ?_
          clear hK K
          try simp only [Act.put, List.setIfInBounds_toArray, List.set_cons_zero, List.set_cons_succ]
          refine wpAny_take (i := 12) (oi := ⟨some 135, _, _, _, _, _⟩) (v := ?_) rfl (by kernel_rfl) (by kernel_rfl) (by kernel_rfl) (fun _ _ _ h => h) (Or.inl ⟨by rfl, by intro w; go_simp; try rfl⟩) ?_
          try simp only [Act.put, List.setIfInBounds_toArray, List.set_cons_zero, List.set_cons_succ]
          refine wpAny_take (i := 13) (oi := ⟨some 136, _, _, _, _, _⟩) (v := ?_) rfl (by kernel_rfl) (by kernel_rfl) (by kernel_rfl) (fun _ _ _ h => h) (Or.inl ⟨by rfl, by intro w; go_simp; try rfl⟩) ?_
          try simp only [Act.put, List.setIfInBounds_toArray, List.set_cons_zero, List.set_cons_succ]
          refine wpAny_ready (rs := [14]) (by kernel_rfl) (by simp) ?_
          refine AllReady.cons (o := ⟨some 137, _, _, _, _, _⟩) rfl (fun K hK => ?_) AllReady.nil
          go_simp
          refine (known6_any wS).mono ?_
          rintro e w62 ⟨rfl, hb24⟩
          have HF : Kp _ := ⟨HD.out.1.trans (hb24.mono HD.out.1.size)⟩
          clear hb24
          refine hK _ _ ?_
          clear hK K
          try simp only [Act.put, List.setIfInBounds_toArray, List.set_cons_zero, List.set_cons_succ]
          refine wpAny_take (i := 15) (oi := ⟨some 138, _, _, _, _, _⟩) (v := ?_) rfl (by kernel_rfl) (by kernel_rfl) (by kernel_rfl) (fun _ _ _ h => h) (Or.inl ⟨by rfl, by intro w; go_simp; try rfl⟩) ?_
          try simp only [Act.put, List.setIfInBounds_toArray, List.set_cons_zero, List.set_cons_succ]
          refine wpAny_take (i := 16) (oi := ⟨some 12, _, _, _, _, _⟩) (v := ?_) rfl (by kernel_rfl) (by kernel_rfl) (by kernel_rfl) (fun _ _ _ h => h) (Or.inl ⟨by rfl, by intro w; go_simp; try rfl⟩) ?_
          try simp only [Act.put, List.setIfInBounds_toArray, List.set_cons_zero, List.set_cons_succ]
          refine wpAny_done (by kernel_rfl) ?_ _
          go_wp2
          go_ret
          exact ⟨rfl, HF.out⟩
        · have hq : ((padL (lb.take 272) 272).take m == lb.take m) = true := by rw [pad_take lb m (by rw [HLb.out]; omega) (by omega)]; simp
          have HQ1 : Kp _ := ⟨HE.out.cut0 (k := m) (by omega)⟩
          have HQ2 : Kp _ := ⟨HB10.out.cut0 (k := m) (by omega)⟩
          obtain ⟨E1, hE1⟩ : ∃ E1, (if c10 = 0 then A10 else A10.map (·.add 0)) = E1 := ⟨_, rfl⟩
          obtain ⟨E2, hE2⟩ : ∃ E2, (if d = 0 then B else B.map (·.add 0)) = E2 := ⟨_, rfl⟩
          rw [hE1] at HQ1
          rw [hE2] at HQ2
          have HE1 : Kp _ := ⟨hE1⟩
          have HE2 : Kp _ := ⟨hE2⟩
          clear hE1 hE2
          go_wp2_with fail
          refine wp_region_any (by kernel_rfl) ?_
          change wpAny _ _ _ _ _ _ _ w10.drew
          have HD : Kp (Below w.heap.size w w10.drew ∧ Bs w10.drew w10.drew.heap.size E1 m c10 ((padL (lb.take 272) 272).take m) ∧ Bs w10.drew w10.drew.heap.size E2 m d (lb.take m)) := ⟨hB10.drew, HQ1.out.drew, HQ2.out.drew⟩
          clear HQ1 HQ2 hB10 HE HB10
          generalize w10.drew = wS at *
          refine wpAny_take (i := 0) (oi := ⟨some 123, _, _, _, _, _⟩) (v := ?_) rfl (by kernel_rfl) (by kernel_rfl) (by kernel_rfl) (fun _ _ _ h => h) (Or.inl ⟨by rfl, by intro w; go_simp; try rfl⟩) ?_
          try simp only [Act.put, List.setIfInBounds_toArray, List.set_cons_zero, List.set_cons_succ]
          refine wpAny_take (i := 1) (oi := ⟨some 124, _, _, _, _, _⟩) (v := ?_) rfl (by kernel_rfl) (by kernel_rfl) (by kernel_rfl) (fun _ _ _ h => h) (Or.inl ⟨by rfl, by intro w; go_simp; try rfl⟩) ?_
          try simp only [Act.put, List.setIfInBounds_toArray, List.set_cons_zero, List.set_cons_succ]
          refine wpAny_take (i := 2) (oi := ⟨some 125, _, _, _, _, _⟩) (v := ?_) rfl (by kernel_rfl) (by kernel_rfl) (by kernel_rfl) (fun _ _ _ h => h) (Or.inl ⟨by rfl, by intro w; go_simp; try rfl⟩) ?_
          try simp only [Act.put, List.setIfInBounds_toArray, List.set_cons_zero, List.set_cons_succ]
          refine wpAny_take (i := 3) (oi := ⟨some 126, _, _, _, _, _⟩) (v := ?_) rfl (by kernel_rfl) (by kernel_rfl) (by kernel_rfl) (fun _ _ _ h => h) (Or.inl ⟨by rfl, by intro w; go_simp; try rfl⟩) ?_
          try simp only [Act.put, List.setIfInBounds_toArray, List.set_cons_zero, List.set_cons_succ]
          refine wpAny_take (i := 4) (oi := ⟨some 127, _, _, _, _, _⟩) (v := ?_) rfl (by kernel_rfl) (by kernel_rfl) (by kernel_rfl) (fun _ _ _ h => h) (Or.inl ⟨by rfl, by intro w; go_simp; try rfl⟩) ?_
          try simp only [Act.put, List.setIfInBounds_toArray, List.set_cons_zero, List.set_cons_succ]
          refine wpAny_take (i := 5) (oi := ⟨some 128, _, _, _, _, _⟩) (v := ?_) rfl (by kernel_rfl) (by kernel_rfl) (by kernel_rfl) (fun _ _ _ h => h) (Or.inl ⟨by rfl, by intro w; go_simp; try rfl⟩) ?_
          try simp only [Act.put, List.setIfInBounds_toArray, List.set_cons_zero, List.set_cons_succ]
          refine wpAny_take (i := 6) (oi := ⟨some 129, _, _, _, _, _⟩) (v := ?_) rfl (by kernel_rfl) (by kernel_rfl) (by kernel_rfl) (fun _ _ _ h => h) (Or.inl ⟨by rfl, by intro w; go_simp; try rfl⟩) ?_
          try simp only [Act.put, List.setIfInBounds_toArray, List.set_cons_zero, List.set_cons_succ]
          refine wpAny_take (i := 7) (oi := ⟨some 130, _, _, _, _, _⟩) (v := _) rfl (by kernel_rfl) (by kernel_rfl) (by kernel_rfl) (fun _ _ _ h => h) (yields_cut_hA (by rfl) el8 (.tmp 128) (.tmp 129) rfl rfl rfl m rfl (by omega) HE1.out) ?_
          try simp only [Act.put, List.setIfInBounds_toArray, List.set_cons_zero, List.set_cons_succ]
          refine wpAny_take (i := 8) (oi := ⟨some 131, _, _, _, _, _⟩) (v := ?_) rfl (by kernel_rfl) (by kernel_rfl) (by kernel_rfl) (fun _ _ _ h => h) (Or.inl ⟨by rfl, by intro w; go_simp; try rfl⟩) ?_
          try simp only [Act.put, List.setIfInBounds_toArray, List.set_cons_zero, List.set_cons_succ]
          refine wpAny_take (i := 9) (oi := ⟨some 132, _, _, _, _, _⟩) (v := ?_) rfl (by kernel_rfl) (by kernel_rfl) (by kernel_rfl) (fun _ _ _ h => h) (Or.inl ⟨by rfl, by intro w; go_simp; try rfl⟩) ?_
          try simp only [Act.put, List.setIfInBounds_toArray, List.set_cons_zero, List.set_cons_succ]
          refine wpAny_take (i := 10) (oi := ⟨some 133, _, _, _, _, _⟩) (v := _) rfl (by kernel_rfl) (by kernel_rfl) (by kernel_rfl) (fun _ _ _ h => h) (yields_cut_hA (by rfl) el8 (.tmp 131) (.tmp 132) rfl rfl rfl m rfl (by omega) HE2.out) ?_
          try simp only [Act.put, List.setIfInBounds_toArray, List.set_cons_zero, List.set_cons_succ]
          refine wpAny_ready (rs := [11]) (by kernel_rfl) (by simp) ?_
          refine AllReady.cons (o := ⟨some 134, _, _, _, _, _⟩) rfl (fun K hK => ?_) AllReady.nil
          go_simp
          refine (same_any E1 E2 m c10 m d ((padL (lb.take 272) 272).take m) (lb.take m) wS _ _ HD.out.2.1 HD.out.2.2).mono ?_
          rintro e wU ⟨rfl, rfl⟩
          rw [hq]
          refine hK _ _ ?_
          clear hK K
          try simp only [Act.put, List.setIfInBounds_toArray, List.set_cons_zero, List.set_cons_succ]
          refine wpAny_take (i := 12) (oi := ⟨some 135, _, _, _, _, _⟩) (v := ?_) rfl (by kernel_rfl) (by kernel_rfl) (by kernel_rfl) (fun _ _ _ h => h) (Or.inl ⟨by rfl, by intro w; go_simp; try rfl⟩) ?_
          try simp only [Act.put, List.setIfInBounds_toArray, List.set_cons_zero, List.set_cons_succ]
          refine wpAny_take (i := 13) (oi := ⟨some 136, _, _, _, _, _⟩) (v := ?_) rfl (by kernel_rfl) (by kernel_rfl) (by kernel_rfl) (fun _ _ _ h => h) (Or.inl ⟨by rfl, by intro w; go_simp; try rfl⟩) ?_
          try simp only [Act.put, List.setIfInBounds_toArray, List.set_cons_zero, List.set_cons_succ]
          refine wpAny_ready (rs := [14]) (by kernel_rfl) (by simp) ?_
          refine AllReady.cons (o := ⟨some 137, _, _, _, _, _⟩) rfl (fun K hK => ?_) AllReady.nil
          go_simp
          refine (known6_any wS).mono ?_
          rintro e w62 ⟨rfl, hb24⟩
          have HF : Kp _ := ⟨HD.out.1.trans (hb24.mono HD.out.1.size)⟩
          clear hb24
          refine hK _ _ ?_
          clear hK K
          try simp only [Act.put, List.setIfInBounds_toArray, List.set_cons_zero, List.set_cons_succ]
          refine wpAny_take (i := 15) (oi := ⟨some 138, _, _, _, _, _⟩) (v := ?_) rfl (by kernel_rfl) (by kernel_rfl) (by kernel_rfl) (fun _ _ _ h => h) (Or.inl ⟨by rfl, by intro w; go_simp; try rfl⟩) ?_
          try simp only [Act.put, List.setIfInBounds_toArray, List.set_cons_zero, List.set_cons_succ]
          refine wpAny_take (i := 16) (oi := ⟨some 12, _, _, _, _, _⟩) (v := ?_) rfl (by kernel_rfl) (by kernel_rfl) (by kernel_rfl) (fun _ _ _ h => h) (Or.inl ⟨by rfl, by intro w; go_simp; try rfl⟩) ?_
          try simp only [Act.put, List.setIfInBounds_toArray, List.set_cons_zero, List.set_cons_succ]
          refine wpAny_done (by kernel_rfl) ?_ _
          go_wp2
          go_ret
          exact ⟨rfl, HF.out⟩
      · have hvy : ¬ v = y := by
          rw [HXY.out.2.1, HXY.out.2.2]; intro e
          have := congrArg Prod.fst e
          simp at this
          omega
        have hiji : ((i : Int) == (j : Int)) = false := by rw [beq_eq_false_iff_ne]; omega
        rw [if_neg hvy] at S10
        obtain rfl : n10 = 272 := by rw [← (S10.heldM (A := A10) (n := n10) (c := c10) (l := z272) (by simp)).1.len]; simp only [z272, List.length_replicate]
        have HE : Kp _ := ⟨(S10.heldM (A := A10) (n := 272) (c := c10) (l := z272) (by simp)).1⟩
        have hB10 := S10.below
        have HIJ : Kp _ := ⟨And.intro hij hvy⟩
        clear S10 H7 hij hvy
        go_wp2
        go_loop [25] (fun v => ∃ k : Nat, k ≤ 272 ∧ v = .int .i64 k) (fun v => 272 - (intOf v).toNat)
        case atStart => exact ⟨0, by omega, rfl⟩
        case round =>
          obtain ⟨k2, hk2, rfl⟩ := hrel
          by_cases hlt2 : k2 < 272
          · have hlti2 : (k2 : Int) < 272 := by omega
            obtain ⟨bn, on, rfl, hcn⟩ := HE.out.gat (i := k2) hlt2
            rw [z_get] at hcn
            go_wp2
            go_round
            case rel => exact ⟨k2 + 1, by omega, by go_num⟩
            case measure => simp [intOf]; omega
          · obtain rfl : k2 = 272 := by omega
            go_wp2_with fail
            refine (known6_any _).mono ?_
            rintro e w24 ⟨rfl, hB24⟩
            go_wp2
            go_ret
            exact ⟨rfl, hB10.trans (hB24.mono hB10.size)⟩
set_option maxHeartbeats 1000000 in
theorem law_worldTells (A : Option Addr) (n c : Nat) (la : List UInt8) (B : Option Addr) (m d : Nat) (lb : List UInt8) (C : Option Addr) (q f : Nat) (ll : List UInt8) (x y z : Int) (w : World)
    (ha : Bs w w.heap.size A n c la ∧ c ≤ 140737488351232) (hb : Bs w w.heap.size B m d lb ∧ d ≤ 140737488351232) (hc : Bs w w.heap.size C q f ll ∧ f ≤ 140737488351232) (hx : (Lit.int .u8 x).wf = true) (hy : (Lit.int .u8 y).wf = true) (hz : (Lit.int .u8 z).wf = true) :
    Calls Try.prog 3 #[.slice A n c, .slice B m d, .slice C q f, .int .u8 x, .int .u8 y, .int .u8 z] w fun e w' => e = .returned (.bool true) ∧ Below w.heap.size w w' := by
  have hx2 : 0 ≤ x ∧ x ≤ 255 := by simpa [Lit.wf, IntKind.min, IntKind.max, IntKind.signed, IntKind.bits] using hx
  have hy2 : 0 ≤ y ∧ y ≤ 255 := by simpa [Lit.wf, IntKind.min, IntKind.max, IntKind.signed, IntKind.bits] using hy
  have hz2 : 0 ≤ z ∧ z ≤ 255 := by simpa [Lit.wf, IntKind.min, IntKind.max, IntKind.signed, IntKind.bits] using hz
  obtain ⟨X, rfl⟩ := Int.eq_ofNat_of_zero_le hx2.1
  obtain ⟨S, rfl⟩ := Int.eq_ofNat_of_zero_le hy2.1
  obtain ⟨Y, rfl⟩ := Int.eq_ofNat_of_zero_le hz2.1
  have hn := Nat.le_trans ha.1.cap ha.2
  have hm := Nat.le_trans hb.1.cap hb.2
  have hq := Nat.le_trans hc.1.cap hc.2
  by_cases hbig : (800 : Int) < (n : Int) + (m : Int) + (q : Int)
  · clear ha hb hc hx hy hz hx2 hy2 hz2
    go_enter Try.func3, Try.ntmps3
    go_wp2_with fail
    refine (known6_any _).mono ?_
    rintro e w1 ⟨rfl, hB1⟩
    go_wp2
    go_ret
    exact ⟨rfl, hB1⟩
  · rcases (by omega : S % 2 = 0 ∨ S % 2 = 1) with hs | hs
    · exact wtells0 A n c la B m d lb C q f ll X S Y w ha.1 hb.1 hc.1 (by omega) (by omega) (by omega) (by omega) hs
    · exact wtells1 A n c la B m d lb C q f ll X S Y w ha.1 hb.1 hc.1 (by omega) (by omega) (by omega) (by omega) hs
end Go.Proofs.Ytockhfgjkhpphaa
