/- The walk of WorldLies. -/
import Derived.Test.YtockhfgjkhpphaaWlP
namespace Go.Proofs.Ytockhfgjkhpphaa
open Go.RowKit

theorem Bs.gatc {w : World} {L b o : Nat} {n c i : Nat} {l : List UInt8} (h : Bs w L (some ⟨b, o, none⟩) n c l) (hi : i < n) : w.cell? ⟨b, o + i, none⟩ = some (.int .u8 ((l.getD i 0).toNat : Int)) := by
  obtain ⟨b', o', hA, hc⟩ := h.gat hi
  have e := Option.some.inj hA
  injection e with e1 e2 _
  rw [e1, e2]; exact hc
theorem two_laid (w : World) (z : UInt8) (Z : Nat) (hz : z.toNat = Z) : Bs (w.alloc (.cells #[.int .u8 (Z : Int), .int .u8 7] 5)) (w.alloc (.cells #[.int .u8 (Z : Int), .int .u8 7] 5)).heap.size (some ⟨w.heap.size, 0, none⟩) 2 2 [z, 7] := by
  have h := Bs.laid w 5 [z, 7] (by simp [maxLen])
  have e : (cells8 [z, 7]).toArray = #[Value.int .u8 (Z : Int), .int .u8 7] := by simp [cells8, hz]
  rw [e] at h
  exact h.more (by simp)
set_option maxRecDepth 100000 in
set_option maxHeartbeats 8000000 in
theorem wlies (A : Option Addr) (n c : Nat) (la : List UInt8) (X : Nat) (B : Option Addr) (m d : Nat) (lb : List UInt8) (C : Option Addr) (q f : Nat) (lc : List UInt8) (w : World)
    (ha : Bs w w.heap.size A n c la) (hb : Bs w w.heap.size B m d lb) (hc : Bs w w.heap.size C q f lc) (hX : X ≤ 255) (hn30 : n ≤ 30) (hsm : m + q ≤ 600) :
    Calls Try.prog 9 #[.slice A n c, .int .u8 (X : Int), .slice B m d, .slice C q f] w fun e w' => e = .returned (.bool true) ∧ Below w.heap.size w w' := by
  obtain ⟨k, hk⟩ : ∃ k, k = X % 30 := ⟨_, rfl⟩
  have hk30 : k < 30 := by omega
  have r1 : (X : Int) % 30 = (k : Int) := by omega
  have r1t : (X : Int).tmod 30 = (k : Int) := by rw [Int.tmod_eq_emod_of_nonneg (by omega)]; exact r1
  have HOk : Kp (okI (k : Int)) := ⟨WalkArith.wf_i64 (by omega)⟩
  have HA : Kp _ := ⟨ha⟩
  have HB : Kp _ := ⟨hb⟩
  have HC : Kp _ := ⟨hc⟩
  have HLa : Kp (la.length = n) := ⟨ha.len⟩
  have hsum : ¬ ((600 : Int) < (m : Int) + (q : Int)) := by omega
  have hsum2 : ¬ ((30 : Int) < (n : Int)) := by omega
  clear ha hb hc hk
  go_enter Try.func9, Try.ntmps9
  go_wp2_with fail
  refine (st_new (St.start w) 3 (by omega)).mono ?_
  rintro e w1 ⟨b, rfl, S1⟩
  have H1 : Kp _ := ⟨S1⟩
  clear S1
  go_wp2_with fail
  refine (st_new H1.out 3 (by omega)).mono ?_
  rintro e w2 ⟨v, rfl, S2⟩
  have H2 : Kp _ := ⟨(((S2.hold HC.out (by omega)).hold HB.out (by omega)).hold HA.out (by omega)).swap⟩
  clear S2 H1
  go_wp2_with fail
  refine (st_lie H2.out (by omega) (k : Int) HOk.out B m d lb (by simp)).mono ?_
  rintro e w3 ⟨rfl, S3⟩
  have H3 : Kp _ := ⟨S3⟩
  clear S3 H2
  go_wp2_with fail
  refine (st_lie H3.out (by omega) (k : Int) HOk.out C q f lc (by simp)).mono ?_
  rintro e w4 ⟨rfl, S4⟩
  have H4 : Kp (∃ t u, St w w4 2 [(b, t), (v, u)] [(A, n, c, la), (B, m, d, lb), (C, q, f, lc)] ∧ Twin 0 k lc t u) := ⟨_, _, S4, Twin.start k lb lc⟩
  clear S4 H3
  go_wp2
  go_loopg [12] n (fun gk v12 wr => ∃ i : Nat, i + gk = n ∧ v12 = .int .i64 i ∧ Kp (∃ t u, St w wr (2 + 4 * i) [(b, t), (v, u)] [(A, n, c, la), (B, m, d, lb), (C, q, f, lc)] ∧ Twin i k lc t u))
  case atStart => exact ⟨0, by omega, rfl, H4⟩
  case round =>
    clear H4
    obtain ⟨i, hi, rfl, HI⟩ := hrel
    obtain ⟨t, u, S, T⟩ := HI.out
    have HS : Kp _ := ⟨S⟩
    have HT : Kp _ := ⟨T⟩
    clear S T HI
    cases gk with
    | zero =>
      have hlt : ¬ ((i : Int) < (n : Int)) := by omega
      have hB := HS.out.below
      go_wp2_with fail
      refine (known6_any _).mono ?_
      rintro e w9 ⟨rfl, hB9⟩
      go_wp2
      go_ret
      exact ⟨rfl, hB.trans (hB9.mono hB.size)⟩
    | succ g2 =>
      have hlt : (i : Int) < (n : Int) := by omega
      have hin : i < n := by omega
      obtain ⟨ba, oa, hAe, hca⟩ := (HS.out.heldM (A := A) (n := n) (c := c) (l := la) (by simp)).1.gat hin
      obtain ⟨z, hz⟩ : ∃ z, z = la.getD i 0 := ⟨_, rfl⟩
      rw [← hz] at hca
      obtain ⟨Z, hZ⟩ : ∃ Z, Z = z.toNat := ⟨_, rfl⟩
      have hZ255 : Z < 256 := by rw [hZ]; exact z.toNat_lt
      rw [← hZ] at hca
      obtain ⟨p, hp⟩ : ∃ p, p = Z % 3 := ⟨_, rfl⟩
      obtain ⟨Q, hQ⟩ : ∃ Q, Q = Z / 3 := ⟨_, rfl⟩
      obtain ⟨s, hs⟩ : ∃ s, s = Q % 2 := ⟨_, rfl⟩
      have p3 : p < 3 := by omega
      have s2 : s < 2 := by omega
      have x1 : (Z : Int) % 3 = (p : Int) := by omega
      have x1t : (Z : Int).tmod 3 = (p : Int) := by rw [Int.tmod_eq_emod_of_nonneg (by omega)]; exact x1
      have x2 : (Z : Int) / 3 = (Q : Int) := by omega
      have x2t : (Z : Int).tdiv 3 = (Q : Int) := by rw [Int.tdiv_eq_ediv_of_nonneg (by omega)]; exact x2
      have x3 : (Q : Int) % 2 = (s : Int) := by omega
      have x3t : (Q : Int).tmod 2 = (s : Int) := by rw [Int.tmod_eq_emod_of_nonneg (by omega)]; exact x3
      have hZi : (Z : Int) ≤ 255 := by omega
      have hQi : (Q : Int) ≤ 255 := by omega
      have HX : Kp (inR 3 ((p : Int), (s : Int)) = true ∧ okP ((p : Int), (s : Int))) := ⟨inR3 p s p3 s2, WalkArith.wf_i64 (by omega), WalkArith.wf_i64 (by omega)⟩
      have HZ : Kp (z.toNat = Z) := ⟨hZ.symm⟩
      have HZz : Kp (z = la.getD i 0) := ⟨hz⟩
      have HAe : Kp _ := ⟨hAe⟩
      clear hp hQ hs hz hZ
      by_cases hbig : (128 : Int) ≤ (Z : Int)
      · subst hAe
        go_wp2_with fail
        have L1 : Kp _ := ⟨HS.out.laid ((Below.refl _ _).alloc (Nat.le_refl _) _) (two_laid wr z Z HZ.out) (by omega)⟩
        refine (st_write L1.out (by omega) (p : Int) (s : Int) HX.out.2 _ 2 2 [z, 7] (by simp)).mono ?_
        rintro e w5 ⟨rfl, S5⟩
        have HS1 : Kp _ := ⟨(S5.forget (hs' := [(some ⟨ba, oa, none⟩, n, c, la), (B, m, d, lb), (C, q, f, lc)]) (fun x h => by simp at h ⊢; exact .inr h)).swap⟩
        have hca5 := (HS1.out.heldM (A := some ⟨ba, oa, none⟩) (n := n) (c := c) (l := la) (by simp)).1.gatc hin
        rw [← HZz.out, HZ.out] at hca5
        clear S5 L1 HS hca
        go_wp2_with fail
        have L2 : Kp _ := ⟨HS1.out.laid ((Below.refl _ _).alloc (Nat.le_refl _) _) (two_laid w5 z Z HZ.out) (by omega)⟩
        refine (st_write L2.out (by omega) (p : Int) (s : Int) HX.out.2 _ 2 2 [z, 7] (by simp)).mono ?_
        rintro e w6 ⟨rfl, S6⟩
        obtain ⟨t5, ht5⟩ : ∃ t5, t5 = writeW t ((p : Int), (s : Int)) [z, 7] := ⟨_, rfl⟩
        obtain ⟨u5, hu5⟩ : ∃ u5, u5 = writeW u ((p : Int), (s : Int)) [z, 7] := ⟨_, rfl⟩
        have HT5 : Kp (Twin i k lc t5 u5) := ⟨by rw [ht5, hu5]; exact HT.out.write HX.out.1 [z, 7]⟩
        rw [← ht5, ← hu5] at S6
        have HS5 : Kp (St w w6 (2 + 4 * i + 1 + 1) [(b, t5), (v, u5)] [(some ⟨ba, oa, none⟩, n, c, la), (B, m, d, lb), (C, q, f, lc)]) := ⟨(S6.forget (fun x h => by simp at h ⊢; exact .inr h)).swap⟩
        clear S6 L2 HS1 ht5 hu5 hca5
        go_wp2_with fail
        refine (st_read HS5.out (by omega) (p : Int) (s : Int) HX.out.2).mono ?_
        rintro e w7 ⟨A7, n7, c7, rfl, S7⟩
        have H7 : Kp _ := ⟨S7.swap⟩
        clear S7 HS5
        go_wp2_with fail
        refine (st_read H7.out (by omega) (p : Int) (s : Int) HX.out.2).mono ?_
        rintro e w8 ⟨A8, n8, c8, rfl, S8⟩
        have H8 : Kp _ := ⟨S8.swap⟩
        clear S8 H7
        obtain ⟨T9, hy1, hy2⟩ := HT5.out.read HX.out.1
        have HT9 : Kp _ := ⟨T9⟩
        clear T9 HT5 hZi hQi x1 x1t x2 x2t x3 x3t
        by_cases hik : i = k
        · have q1 : ((i : Int) == (k : Int)) = true := by rw [beq_iff_eq]; omega
          have q2 : ((i : Int) != (k : Int)) = false := by simp only [bne, q1]; rfl
          have e1 : (readL t5 ((p : Int), (s : Int)) == lc) = true := by rw [hy1 hik]; simp
          have HI : Kp _ := ⟨hik⟩
          clear hik hy1 hy2
          go_wp2_with fail
          refine (st_same H8.out (A := A7) (n := n7) (c := c7) (l := readL t5 ((p : Int), (s : Int))) (B := C) (m := q) (d := f) (l' := lc) (by simp) (by simp)).mono ?_
          rintro e w9 ⟨rfl, rfl⟩
          rw [e1]
          go_wp2
          go_roundg g2
          case measure => omega
          case rel => exact ⟨i + 1, by omega, by go_num, ⟨_, _, (H8.out.forget (fun x h => by simp at h ⊢; exact .inr (.inr h))).more (by omega), HT9.out⟩⟩
        · have q1 : ((i : Int) == (k : Int)) = false := by rw [beq_eq_false_iff_ne]; omega
          have q2 : ((i : Int) != (k : Int)) = true := by simp only [bne, q1]; rfl
          have e1 : (readL t5 ((p : Int), (s : Int)) == readL u5 ((p : Int), (s : Int))) = true := by rw [hy2 hik]; simp
          have HI : Kp _ := ⟨hik⟩
          clear hik hy1 hy2
          go_wp2_with fail
          refine (st_same H8.out (A := A7) (n := n7) (c := c7) (l := readL t5 ((p : Int), (s : Int))) (B := A8) (m := n8) (d := c8) (l' := readL u5 ((p : Int), (s : Int))) (by simp) (by simp)).mono ?_
          rintro e w9 ⟨rfl, rfl⟩
          rw [e1]
          go_wp2
          go_roundg g2
          case measure => omega
          case rel => exact ⟨i + 1, by omega, by go_num, ⟨_, _, (H8.out.forget (fun x h => by simp at h ⊢; exact .inr (.inr h))).more (by omega), HT9.out⟩⟩
      · subst hAe
        have hbg2 : ¬ ((128 : Int) ≤ (Z : Int)) := hbig
        go_wp2_with fail
        obtain ⟨t5, ht5⟩ : ∃ t5, t5 = t := ⟨_, rfl⟩
        obtain ⟨u5, hu5⟩ : ∃ u5, u5 = u := ⟨_, rfl⟩
        rw [← ht5, ← hu5] at HS HT
        have HT5 : Kp (Twin i k lc t5 u5) := HT
        have HS5 : Kp (St w wr (2 + 4 * i + 1 + 1) [(b, t5), (v, u5)] [(some ⟨ba, oa, none⟩, n, c, la), (B, m, d, lb), (C, q, f, lc)]) := ⟨HS.out.more (by omega)⟩
        clear HS ht5 hu5 hca
        refine (st_read HS5.out (by omega) (p : Int) (s : Int) HX.out.2).mono ?_
        rintro e w7 ⟨A7, n7, c7, rfl, S7⟩
        have H7 : Kp _ := ⟨S7.swap⟩
        clear S7 HS5
        go_wp2_with fail
        refine (st_read H7.out (by omega) (p : Int) (s : Int) HX.out.2).mono ?_
        rintro e w8 ⟨A8, n8, c8, rfl, S8⟩
        have H8 : Kp _ := ⟨S8.swap⟩
        clear S8 H7
        obtain ⟨T9, hy1, hy2⟩ := HT5.out.read HX.out.1
        have HT9 : Kp _ := ⟨T9⟩
        clear T9 HT5 hZi hQi x1 x1t x2 x2t x3 x3t
        by_cases hik : i = k
        · have q1 : ((i : Int) == (k : Int)) = true := by rw [beq_iff_eq]; omega
          have q2 : ((i : Int) != (k : Int)) = false := by simp only [bne, q1]; rfl
          have e1 : (readL t5 ((p : Int), (s : Int)) == lc) = true := by rw [hy1 hik]; simp
          have HI : Kp _ := ⟨hik⟩
          clear hik hy1 hy2
          go_wp2_with fail
          refine (st_same H8.out (A := A7) (n := n7) (c := c7) (l := readL t5 ((p : Int), (s : Int))) (B := C) (m := q) (d := f) (l' := lc) (by simp) (by simp)).mono ?_
          rintro e w9 ⟨rfl, rfl⟩
          rw [e1]
          go_wp2
          go_roundg g2
          case measure => omega
          case rel => exact ⟨i + 1, by omega, by go_num, ⟨_, _, (H8.out.forget (fun x h => by simp at h ⊢; exact .inr (.inr h))).more (by omega), HT9.out⟩⟩
        · have q1 : ((i : Int) == (k : Int)) = false := by rw [beq_eq_false_iff_ne]; omega
          have q2 : ((i : Int) != (k : Int)) = true := by simp only [bne, q1]; rfl
          have e1 : (readL t5 ((p : Int), (s : Int)) == readL u5 ((p : Int), (s : Int))) = true := by rw [hy2 hik]; simp
          have HI : Kp _ := ⟨hik⟩
          clear hik hy1 hy2
          go_wp2_with fail
          refine (st_same H8.out (A := A7) (n := n7) (c := c7) (l := readL t5 ((p : Int), (s : Int))) (B := A8) (m := n8) (d := c8) (l' := readL u5 ((p : Int), (s : Int))) (by simp) (by simp)).mono ?_
          rintro e w9 ⟨rfl, rfl⟩
          rw [e1]
          go_wp2
          go_roundg g2
          case measure => omega
          case rel => exact ⟨i + 1, by omega, by go_num, ⟨_, _, (H8.out.forget (fun x h => by simp at h ⊢; exact .inr (.inr h))).more (by omega), HT9.out⟩⟩
set_option maxHeartbeats 1000000 in
theorem law_worldLies (A : Option Addr) (n c : Nat) (la : List UInt8) (x : Int) (B : Option Addr) (m d : Nat) (lb : List UInt8) (C : Option Addr) (q f : Nat) (lc : List UInt8) (w : World)
    (ha : Bs w w.heap.size A n c la ∧ c ≤ 140737488351232) (hx : (Lit.int .u8 x).wf = true) (hb : Bs w w.heap.size B m d lb ∧ d ≤ 140737488351232) (hc : Bs w w.heap.size C q f lc ∧ f ≤ 140737488351232) :
    Calls Try.prog 9 #[.slice A n c, .int .u8 x, .slice B m d, .slice C q f] w fun e w' => e = .returned (.bool true) ∧ Below w.heap.size w w' := by
  have hx2 : 0 ≤ x ∧ x ≤ 255 := by simpa [Lit.wf, IntKind.min, IntKind.max, IntKind.signed, IntKind.bits] using hx
  obtain ⟨X, rfl⟩ := Int.eq_ofNat_of_zero_le hx2.1
  have hn := Nat.le_trans ha.1.cap ha.2
  have hm := Nat.le_trans hb.1.cap hb.2
  have hq := Nat.le_trans hc.1.cap hc.2
  by_cases h30 : (30 : Int) < (n : Int)
  · clear ha hb hc hx hx2
    go_enter Try.func9, Try.ntmps9
    go_wp2_with fail
    refine (known6_any _).mono ?_
    rintro e w1 ⟨rfl, hB1⟩
    go_wp2
    go_ret
    exact ⟨rfl, hB1⟩
  · by_cases hbig : (600 : Int) < (m : Int) + (q : Int)
    · clear ha hb hc hx hx2
      go_enter Try.func9, Try.ntmps9
      go_wp2_with fail
      refine (known6_any _).mono ?_
      rintro e w1 ⟨rfl, hB1⟩
      go_wp2
      go_ret
      exact ⟨rfl, hB1⟩
    · exact wlies A n c la X B m d lb C q f lc w ha.1 hb.1 hc.1 (by omega) (by omega) (by omega)
end Go.Proofs.Ytockhfgjkhpphaa
