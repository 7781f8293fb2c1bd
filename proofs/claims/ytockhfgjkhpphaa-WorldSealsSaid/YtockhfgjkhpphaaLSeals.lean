/- The walk of WorldSeals. -/
import Derived.Test.YtockhfgjkhpphaaWsP
namespace Go.Proofs.Ytockhfgjkhpphaa
open Go.RowKit

set_option maxRecDepth 100000 in
set_option maxHeartbeats 4000000 in
theorem wseals0 (A : Option Addr) (n c : Nat) (la : List UInt8) (B : Option Addr) (m d : Nat) (lb : List UInt8) (P X : Nat) (w : World)
    (ha : Bs w w.heap.size A n c la) (hb : Bs w w.heap.size B m d lb) (hP : P ≤ 65535) (hX : X ≤ 255) (hsm : n + m ≤ 600) (hx : X % 2 = 0) :
    Calls Try.prog 6 #[.slice A n c, .slice B m d, .int .u16 (P : Int), .int .u8 (X : Int)] w fun e w' => e = .returned (.bool true) ∧ Below w.heap.size w w' := by
  obtain ⟨k, hk⟩ : ∃ k, k = P % (m + 3) := ⟨_, rfl⟩
  have hkm : k < m + 3 := by rw [hk]; exact Nat.mod_lt _ (by omega)
  have hk6 : k ≤ 603 := by omega
  have hmod : (X : Int).tmod 2 = 0 := by rw [Int.tmod_eq_emod_of_nonneg (by omega)]; omega
  have hmod2 : (X : Int) % 2 = 0 := by omega
  have hpm : (P : Int) % ((m : Int) + 3) = (k : Int) := by rw [hk, Int.natCast_emod]; rfl
  have hpt : (P : Int).tmod ((m : Int) + 3) = (k : Int) := by rw [Int.tmod_eq_emod_of_nonneg (by omega)]; exact hpm
  have HA : Kp _ := ⟨ha⟩
  have HB : Kp _ := ⟨hb⟩
  have HLa : Kp (la.length = n) := ⟨ha.len⟩
  have HLb : Kp (lb.length = m) := ⟨hb.len⟩
  have hsum : ¬ ((600 : Int) < (n : Int) + (m : Int)) := by omega
  have F1 := ws0_1 la
  have F2 := ws0_2 la
  have F3 := ws0_3 la
  have F5 : sealB (wsT4 0 la k) 0 lb = decide (m ≤ k) := by rw [ws0_5 la lb k (by omega), HLb.out]
  have F7 : Kp (lookL (wsT6 0 la lb k) 0 = lb.take (min k m) ++ (if k < m ∧ k < n then la.drop k else [])) := ⟨by rw [ws0_7 la lb k (by omega), HLb.out, HLa.out]⟩
  have F8 : Kp _ := ⟨ws0_8 la lb k⟩
  clear ha hb hk hx
  go_enter Try.func6, Try.ntmps6
  go_wp2_with fail
  refine (st_new (St.start w) 1 (by omega)).mono ?_
  rintro e w1 ⟨b, rfl, S1⟩
  have H1 : Kp _ := ⟨(S1.hold HB.out (by omega)).hold HA.out (by omega)⟩
  clear S1
  go_wp2_with fail
  refine (st_seal H1.out (by omega) 0 A n c la (by simp)).mono ?_
  rintro e w2 ⟨rfl, S2⟩
  have H2 : Kp (St w w2 1 [(b, wsT1 0 la)] [(A, n, c, la), (B, m, d, lb)]) := ⟨S2⟩
  clear S2 H1
  go_wp2_with (with_reducible refine wpList_lit (o := ⟨some 36, _, _, _, _, _⟩) el8 Try.underlying5 (by kernel_rfl) (.tmp 35) rfl [111, 116, 104, 101, 114] rfl 5 rfl (by decide) rfl ?_)
  intro w3 hB3 hb3
  have H3 : Kp _ := ⟨H2.out.laid hb3 hB3 (by omega)⟩
  clear hB3 hb3 H2
  go_wp2_with fail
  refine (st_seal H3.out (by omega) 1 _ 5 5 [111, 116, 104, 101, 114] (by simp)).mono ?_
  rintro e w4 ⟨rfl, S4⟩
  have H4 : Kp (St w w4 2 [(b, wsT2 0 la)] [(A, n, c, la), (B, m, d, lb)]) := ⟨S4.forget (fun x h => by simp at h ⊢; exact .inr h)⟩
  have F2' : sealB (wsT1 0 la) 1 [111, 116, 104, 101, 114] = true := F2
  clear S4 H3
  go_wp2_with fail
  refine (st_look H4.out (by omega) 0).mono ?_
  rintro e w5 ⟨A5, n5, c5, rfl, S5⟩
  rw [F3] at S5
  have H5 : Kp (St w w5 3 [(b, wsT3 0 la)] [(A5, n5, c5, la), (A, n, c, la), (B, m, d, lb)]) := ⟨S5⟩
  have hself : (la == la) = true := by simp
  clear S5 H4
  go_wp2_with fail
  refine (st_same H5.out (A := A5) (n := n5) (c := c5) (l := la) (B := A) (m := n) (d := c) (l' := la) (by simp) (by simp)).mono ?_
  rintro e w6 ⟨rfl, rfl⟩
  go_wp2_with fail
  refine (st_arm H5.out (k : Int)).mono ?_
  rintro e w6 ⟨rfl, S6⟩
  have H6 : Kp (St w w6 4 [(b, wsT4 0 la k)] [(A, n, c, la), (B, m, d, lb)]) := ⟨S6.forget (fun x h => by simp at h ⊢; exact .inr h)⟩
  clear S6 H5
  go_wp2_with fail
  refine (st_seal H6.out (by omega) 0 B m d lb (by simp)).mono ?_
  rintro e w7 ⟨rfl, S7⟩
  have H7 : Kp (St w w7 5 [(b, wsT5 0 la lb k)] [(A, n, c, la), (B, m, d, lb)]) := ⟨S7⟩
  clear S7 H6
  go_wp2_with fail
  refine (st_restart H7.out).mono ?_
  rintro e w8 ⟨rfl, S8⟩
  have H8 : Kp (St w w8 6 [(b, wsT6 0 la lb k)] [(A, n, c, la), (B, m, d, lb)]) := ⟨S8⟩
  clear S8 H7
  go_wp2_with fail
  refine (st_look H8.out (by omega) 0).mono ?_
  rintro e w9 ⟨A9, n9, c9, rfl, S9⟩
  have H9 : Kp (St w w9 7 [(b, wsT7 0 la lb k)] [(A9, n9, c9, lookL (wsT6 0 la lb k) 0), (A, n, c, la), (B, m, d, lb)]) := ⟨S9⟩
  have HB9 : Kp _ := ⟨(S9.heldM (A := B) (n := m) (c := d) (l := lb) (by simp)).1⟩
  have HA9 : Kp _ := ⟨(S9.heldM (A := A) (n := n) (c := c) (l := la) (by simp)).1⟩
  have HN9 : Kp _ := ⟨(S9.heldM (A := A9) (n := n9) (c := c9) (l := lookL (wsT6 0 la lb k) 0) (by simp)).1⟩
  clear S9 H8
  rcases (by omega : (m < k) ∨ (m = k) ∨ (k < m ∧ n ≤ k) ∨ (k < m ∧ k < n)) with hc | hc | ⟨hc, hc2⟩ | ⟨hc, hc2⟩
  · have HC : Kp _ := ⟨hc⟩
    have hci : (m : Int) < (k : Int) := by omega
    have hmk : m ≤ k := by omega
    have F7' : lookL (wsT6 0 la lb k) 0 = lb.take m := by rw [F7.out, Nat.min_eq_right (by omega), if_neg (by omega), List.append_nil]
    rw [F7'] at HN9
    have heq : (lb.take m == lb.take m) = true := by simp
    go_wp2_with (with_reducible refine wpList_cut_h (o := ⟨some 72, _, _, _, _, _⟩) el8 rfl (.tmp 67) (.tmp 71) rfl rfl HB9.out _ _ m rfl rfl (by have := HC.out; omega) ?_)
    intro A10 hb10
    have HB10 : Kp _ := ⟨hb10⟩
    have HL10 : Kp ((lb.take m).length = m) := ⟨hb10.len⟩
    clear hb10
    go_wp2_with (at_builtin; refine wpList_app el8 rfl _ _ rfl w9.heap.size _ 0 [] rfl (own_nil _ _ _) A10 m d (cells8 (lb.take m)) rfl (by rw [cells8_length, HL10.out]) (fun h => ⟨by have := HB10.out.nil h; have := HB10.out.cap; omega, HB10.out.nil h⟩) HB10.out.news (cells8_one _) (by simp only [maxLen]; omega) (by omega) (Nat.le_refl _) ?_)
    intro v11 w11 hown11 hg11 _
    have hb11 : Below w9.heap.size w9 w11 := below_of_grown (own_nil w9 w9.heap.size 5) (Nat.le_refl _) hg11
    have H11 : Kp (w11.ownsRow w9.heap.size 5 1 v11 m (cells8 (lb.take m))) := ⟨by simpa using hown11⟩
    clear hown11 hg11 HB10
    have H12 : Kp _ := ⟨H9.out.grow hb11⟩
    have HN12 : Kp _ := ⟨HN9.out.below hb11⟩
    obtain ⟨A13, c13, rfl, hb13⟩ := Bs.of_own H11.out
    have HB13 : Kp _ := ⟨hb13⟩
    clear hb13 F7'
    go_wp2_with fail
    refine (same_any A9 A13 n9 c9 _ c13 _ _ _ _ _ HN12.out HB13.out).mono ?_
    rintro e w14 ⟨rfl, rfl⟩
    go_wp2_with fail
    refine (st_look H12.out (by omega) 1).mono ?_
    rintro e w15 ⟨A15, n15, c15, rfl, S15⟩
    rw [F8.out] at S15
    have e15 := (S15.heldM (A := A15) (n := n15) (c := c15) (l := oth) (by simp)).1.text Try.underlying22 Try.underlying5 Try.underlying9
    have hB15 := S15.below
    simp only [oth] at e15
    clear S15
    go_wp2_with fail
    refine (known6_any _).mono ?_
    rintro e w16 ⟨rfl, hB16⟩
    go_wp2
    go_ret
    exact ⟨rfl, hB15.trans (hB16.mono hB15.size)⟩
  · subst hc
    have HC : Kp (m ≤ m) := ⟨Nat.le_refl _⟩
    have F7' : lookL (wsT6 0 la lb m) 0 = lb.take m := by rw [F7.out, Nat.min_self, if_neg (by omega), List.append_nil]
    rw [F7'] at HN9
    have heq : (lb.take m == lb.take m) = true := by simp
    go_wp2_with (with_reducible refine wpList_cut_h (o := ⟨some 72, _, _, _, _, _⟩) el8 rfl (.tmp 67) (.tmp 71) rfl rfl HB9.out _ _ m rfl rfl (by have := HC.out; omega) ?_)
    intro A10 hb10
    have HB10 : Kp _ := ⟨hb10⟩
    have HL10 : Kp ((lb.take m).length = m) := ⟨hb10.len⟩
    clear hb10
    go_wp2_with (at_builtin; refine wpList_app el8 rfl _ _ rfl w9.heap.size _ 0 [] rfl (own_nil _ _ _) A10 m d (cells8 (lb.take m)) rfl (by rw [cells8_length, HL10.out]) (fun h => ⟨by have := HB10.out.nil h; have := HB10.out.cap; omega, HB10.out.nil h⟩) HB10.out.news (cells8_one _) (by simp only [maxLen]; omega) (by omega) (Nat.le_refl _) ?_)
    intro v11 w11 hown11 hg11 _
    have hb11 : Below w9.heap.size w9 w11 := below_of_grown (own_nil w9 w9.heap.size 5) (Nat.le_refl _) hg11
    have H11 : Kp (w11.ownsRow w9.heap.size 5 1 v11 m (cells8 (lb.take m))) := ⟨by simpa using hown11⟩
    clear hown11 hg11 HB10
    have H12 : Kp _ := ⟨H9.out.grow hb11⟩
    have HN12 : Kp _ := ⟨HN9.out.below hb11⟩
    obtain ⟨A13, c13, rfl, hb13⟩ := Bs.of_own H11.out
    have HB13 : Kp _ := ⟨hb13⟩
    clear hb13 F7'
    go_wp2_with fail
    refine (same_any A9 A13 n9 c9 _ c13 _ _ _ _ _ HN12.out HB13.out).mono ?_
    rintro e w14 ⟨rfl, rfl⟩
    go_wp2_with fail
    refine (st_look H12.out (by omega) 1).mono ?_
    rintro e w15 ⟨A15, n15, c15, rfl, S15⟩
    rw [F8.out] at S15
    have e15 := (S15.heldM (A := A15) (n := n15) (c := c15) (l := oth) (by simp)).1.text Try.underlying22 Try.underlying5 Try.underlying9
    have hB15 := S15.below
    simp only [oth] at e15
    clear S15
    go_wp2_with fail
    refine (known6_any _).mono ?_
    rintro e w16 ⟨rfl, hB16⟩
    go_wp2
    go_ret
    exact ⟨rfl, hB15.trans (hB16.mono hB15.size)⟩
  · have HC : Kp _ := ⟨And.intro hc hc2⟩
    have hci : (k : Int) < (m : Int) := by omega
    have hcn : (n : Int) ≤ (k : Int) := by omega
    have F7' : lookL (wsT6 0 la lb k) 0 = lb.take k := by rw [F7.out, Nat.min_eq_left (by omega), if_neg (by omega), List.append_nil]
    rw [F7'] at HN9
    have heq : (lb.take k == lb.take k) = true := by simp
    go_wp2_with (with_reducible refine wpList_cut_h (o := ⟨some 72, _, _, _, _, _⟩) el8 rfl (.tmp 67) (.tmp 71) rfl rfl HB9.out _ _ k rfl rfl (by have := HC.out; omega) ?_)
    intro A10 hb10
    have HB10 : Kp _ := ⟨hb10⟩
    have HL10 : Kp ((lb.take k).length = k) := ⟨hb10.len⟩
    clear hb10
    go_wp2_with (at_builtin; refine wpList_app el8 rfl _ _ rfl w9.heap.size _ 0 [] rfl (own_nil _ _ _) A10 k d (cells8 (lb.take k)) rfl (by rw [cells8_length, HL10.out]) (fun h => ⟨by have := HB10.out.nil h; have := HB10.out.cap; omega, HB10.out.nil h⟩) HB10.out.news (cells8_one _) (by simp only [maxLen]; omega) (by omega) (Nat.le_refl _) ?_)
    intro v11 w11 hown11 hg11 _
    have hb11 : Below w9.heap.size w9 w11 := below_of_grown (own_nil w9 w9.heap.size 5) (Nat.le_refl _) hg11
    have H11 : Kp (w11.ownsRow w9.heap.size 5 1 v11 k (cells8 (lb.take k))) := ⟨by simpa using hown11⟩
    clear hown11 hg11 HB10
    have H12 : Kp _ := ⟨H9.out.grow hb11⟩
    have HN12 : Kp _ := ⟨HN9.out.below hb11⟩
    obtain ⟨A13, c13, rfl, hb13⟩ := Bs.of_own H11.out
    have HB13 : Kp _ := ⟨hb13⟩
    clear hb13 F7'
    go_wp2_with fail
    refine (same_any A9 A13 n9 c9 _ c13 _ _ _ _ _ HN12.out HB13.out).mono ?_
    rintro e w14 ⟨rfl, rfl⟩
    go_wp2_with fail
    refine (st_look H12.out (by omega) 1).mono ?_
    rintro e w15 ⟨A15, n15, c15, rfl, S15⟩
    rw [F8.out] at S15
    have e15 := (S15.heldM (A := A15) (n := n15) (c := c15) (l := oth) (by simp)).1.text Try.underlying22 Try.underlying5 Try.underlying9
    have hB15 := S15.below
    simp only [oth] at e15
    clear S15
    go_wp2_with fail
    refine (known6_any _).mono ?_
    rintro e w16 ⟨rfl, hB16⟩
    go_wp2
    go_ret
    exact ⟨rfl, hB15.trans (hB16.mono hB15.size)⟩
  · have HC : Kp _ := ⟨And.intro hc hc2⟩
    have hci : (k : Int) < (m : Int) := by omega
    have hcn : (k : Int) < (n : Int) := by omega
    have F7' : lookL (wsT6 0 la lb k) 0 = lb.take k ++ la.drop k := by rw [F7.out, Nat.min_eq_left (by omega), if_pos ⟨hc, hc2⟩]
    rw [F7'] at HN9
    have heq : (lb.take k ++ la.drop k == lb.take k ++ la.drop k) = true := by simp
    go_wp2_with (with_reducible refine wpList_cut_h (o := ⟨some 72, _, _, _, _, _⟩) el8 rfl (.tmp 67) (.tmp 71) rfl rfl HB9.out _ _ k rfl rfl (by have := HC.out; omega) ?_)
    intro A10 hb10
    have HB10 : Kp _ := ⟨hb10⟩
    have HL10 : Kp ((lb.take k).length = k) := ⟨hb10.len⟩
    clear hb10
    go_wp2_with (at_builtin; refine wpList_app el8 rfl _ _ rfl w9.heap.size _ 0 [] rfl (own_nil _ _ _) A10 k d (cells8 (lb.take k)) rfl (by rw [cells8_length, HL10.out]) (fun h => ⟨by have := HB10.out.nil h; have := HB10.out.cap; omega, HB10.out.nil h⟩) HB10.out.news (cells8_one _) (by simp only [maxLen]; omega) (by omega) (Nat.le_refl _) ?_)
    intro v11 w11 hown11 hg11 _
    have hb11 : Below w9.heap.size w9 w11 := below_of_grown (own_nil w9 w9.heap.size 5) (Nat.le_refl _) hg11
    have H11 : Kp (w11.ownsRow w9.heap.size 5 1 v11 k (cells8 (lb.take k))) := ⟨by simpa using hown11⟩
    clear hown11 hg11 HB10
    have H12 : Kp _ := ⟨H9.out.grow hb11⟩
    have HN12 : Kp _ := ⟨HN9.out.below hb11⟩
    have HA12 : Kp _ := ⟨(HA9.out.below hb11).more hb11.size⟩
    obtain ⟨A20, c20, rfl, hc20, hm20, hn20, _⟩ := own_form H11.out
    go_wp2_with (with_reducible refine wpList_cut_l (o := ⟨some 87, _, _, _, _, _⟩) el8 rfl (.tmp 85) (.tmp 86) rfl rfl HA12.out _ _ k rfl rfl (by have := HC.out; omega) ?_)
    intro A17 m17 c17 hb17
    obtain rfl : m17 = n - k := by have h17 := hb17.len; rw [List.length_drop, HLa.out] at h17; exact h17.symm
    have HB17 : Kp _ := ⟨hb17⟩
    have HL17 : Kp ((la.drop k).length = n - k) := ⟨hb17.len⟩
    clear hb17
    go_wp2_with (at_builtin; refine wpList_app el8 rfl _ _ rfl w9.heap.size _ k (cells8 (lb.take k)) rfl H11.out A17 (n - k) c17 (cells8 (la.drop k)) rfl (by rw [cells8_length, HL17.out]) (fun h => ⟨by have := HB17.out.nil h; have := HB17.out.cap; omega, HB17.out.nil h⟩) HB17.out.news (cells8_one _) (by simp only [maxLen]; omega) (by omega) hb11.size ?_)
    intro v18 w18 hown18 hg18 _
    have hb18 : Below w9.heap.size w9 w18 := hb11.trans (below_of_grown H11.out hb11.size hg18)
    have H18 : Kp (w18.ownsRow w9.heap.size 5 1 v18 (k + (n - k)) (cells8 (lb.take k ++ la.drop k))) := ⟨by rw [cells8_append]; exact hown18⟩
    have H19 : Kp _ := ⟨H9.out.grow hb18⟩
    have HN19 : Kp _ := ⟨HN9.out.below hb18⟩
    clear hown18 hg18 HB17 H12 HN12
    obtain ⟨A13, c13, rfl, hb13⟩ := Bs.of_own H18.out
    have HB13 : Kp _ := ⟨hb13⟩
    clear hb13 F7'
    go_wp2_with fail
    refine (same_any A9 A13 n9 c9 _ c13 _ _ _ _ _ HN19.out HB13.out).mono ?_
    rintro e w14 ⟨rfl, rfl⟩
    go_wp2_with fail
    refine (st_look H19.out (by omega) 1).mono ?_
    rintro e w15 ⟨A15, n15, c15, rfl, S15⟩
    rw [F8.out] at S15
    have e15 := (S15.heldM (A := A15) (n := n15) (c := c15) (l := oth) (by simp)).1.text Try.underlying22 Try.underlying5 Try.underlying9
    have hB15 := S15.below
    simp only [oth] at e15
    clear S15
    go_wp2_with fail
    refine (known6_any _).mono ?_
    rintro e w16 ⟨rfl, hB16⟩
    go_wp2
    go_ret
    exact ⟨rfl, hB15.trans (hB16.mono hB15.size)⟩
set_option maxRecDepth 100000 in
set_option maxHeartbeats 4000000 in
theorem wseals1 (A : Option Addr) (n c : Nat) (la : List UInt8) (B : Option Addr) (m d : Nat) (lb : List UInt8) (P X : Nat) (w : World)
    (ha : Bs w w.heap.size A n c la) (hb : Bs w w.heap.size B m d lb) (hP : P ≤ 65535) (hX : X ≤ 255) (hsm : n + m ≤ 600) (hx : X % 2 = 1) :
    Calls Try.prog 6 #[.slice A n c, .slice B m d, .int .u16 (P : Int), .int .u8 (X : Int)] w fun e w' => e = .returned (.bool true) ∧ Below w.heap.size w w' := by
  obtain ⟨k, hk⟩ : ∃ k, k = P % (m + 3) := ⟨_, rfl⟩
  have hkm : k < m + 3 := by rw [hk]; exact Nat.mod_lt _ (by omega)
  have hk6 : k ≤ 603 := by omega
  have hmod : (X : Int).tmod 2 = 1 := by rw [Int.tmod_eq_emod_of_nonneg (by omega)]; omega
  have hmod2 : (X : Int) % 2 = 1 := by omega
  have hpm : (P : Int) % ((m : Int) + 3) = (k : Int) := by rw [hk, Int.natCast_emod]; rfl
  have hpt : (P : Int).tmod ((m : Int) + 3) = (k : Int) := by rw [Int.tmod_eq_emod_of_nonneg (by omega)]; exact hpm
  have HA : Kp _ := ⟨ha⟩
  have HB : Kp _ := ⟨hb⟩
  have HLa : Kp (la.length = n) := ⟨ha.len⟩
  have HLb : Kp (lb.length = m) := ⟨hb.len⟩
  have hsum : ¬ ((600 : Int) < (n : Int) + (m : Int)) := by omega
  have F1 := ws1_1 la
  have F2 := ws1_2 la
  have F3 := ws1_3 la
  have F5 : sealB (wsT4 1 la k) 1 lb = decide (m ≤ k) := by rw [ws1_5 la lb k (by omega), HLb.out]
  have F7 : Kp (lookL (wsT6 1 la lb k) 1 = lb.take (min k m) ++ (if k < m ∧ k < n then la.drop k else [])) := ⟨by rw [ws1_7 la lb k (by omega), HLb.out, HLa.out]⟩
  have F8 : Kp _ := ⟨ws1_8 la lb k⟩
  clear ha hb hk hx
  go_enter Try.func6, Try.ntmps6
  go_wp2_with fail
  refine (st_new (St.start w) 1 (by omega)).mono ?_
  rintro e w1 ⟨b, rfl, S1⟩
  have H1 : Kp _ := ⟨(S1.hold HB.out (by omega)).hold HA.out (by omega)⟩
  clear S1
  go_wp2_with fail
  refine (st_seal H1.out (by omega) 1 A n c la (by simp)).mono ?_
  rintro e w2 ⟨rfl, S2⟩
  have H2 : Kp (St w w2 1 [(b, wsT1 1 la)] [(A, n, c, la), (B, m, d, lb)]) := ⟨S2⟩
  clear S2 H1
  go_wp2_with (with_reducible refine wpList_lit (o := ⟨some 36, _, _, _, _, _⟩) el8 Try.underlying5 (by kernel_rfl) (.tmp 35) rfl [111, 116, 104, 101, 114] rfl 5 rfl (by decide) rfl ?_)
  intro w3 hB3 hb3
  have H3 : Kp _ := ⟨H2.out.laid hb3 hB3 (by omega)⟩
  clear hB3 hb3 H2
  go_wp2_with fail
  refine (st_seal H3.out (by omega) 0 _ 5 5 [111, 116, 104, 101, 114] (by simp)).mono ?_
  rintro e w4 ⟨rfl, S4⟩
  have H4 : Kp (St w w4 2 [(b, wsT2 1 la)] [(A, n, c, la), (B, m, d, lb)]) := ⟨S4.forget (fun x h => by simp at h ⊢; exact .inr h)⟩
  have F2' : sealB (wsT1 1 la) 0 [111, 116, 104, 101, 114] = true := F2
  clear S4 H3
  go_wp2_with fail
  refine (st_look H4.out (by omega) 1).mono ?_
  rintro e w5 ⟨A5, n5, c5, rfl, S5⟩
  rw [F3] at S5
  have H5 : Kp (St w w5 3 [(b, wsT3 1 la)] [(A5, n5, c5, la), (A, n, c, la), (B, m, d, lb)]) := ⟨S5⟩
  have hself : (la == la) = true := by simp
  clear S5 H4
  go_wp2_with fail
  refine (st_same H5.out (A := A5) (n := n5) (c := c5) (l := la) (B := A) (m := n) (d := c) (l' := la) (by simp) (by simp)).mono ?_
  rintro e w6 ⟨rfl, rfl⟩
  go_wp2_with fail
  refine (st_arm H5.out (k : Int)).mono ?_
  rintro e w6 ⟨rfl, S6⟩
  have H6 : Kp (St w w6 4 [(b, wsT4 1 la k)] [(A, n, c, la), (B, m, d, lb)]) := ⟨S6.forget (fun x h => by simp at h ⊢; exact .inr h)⟩
  clear S6 H5
  go_wp2_with fail
  refine (st_seal H6.out (by omega) 1 B m d lb (by simp)).mono ?_
  rintro e w7 ⟨rfl, S7⟩
  have H7 : Kp (St w w7 5 [(b, wsT5 1 la lb k)] [(A, n, c, la), (B, m, d, lb)]) := ⟨S7⟩
  clear S7 H6
  go_wp2_with fail
  refine (st_restart H7.out).mono ?_
  rintro e w8 ⟨rfl, S8⟩
  have H8 : Kp (St w w8 6 [(b, wsT6 1 la lb k)] [(A, n, c, la), (B, m, d, lb)]) := ⟨S8⟩
  clear S8 H7
  go_wp2_with fail
  refine (st_look H8.out (by omega) 1).mono ?_
  rintro e w9 ⟨A9, n9, c9, rfl, S9⟩
  have H9 : Kp (St w w9 7 [(b, wsT7 1 la lb k)] [(A9, n9, c9, lookL (wsT6 1 la lb k) 1), (A, n, c, la), (B, m, d, lb)]) := ⟨S9⟩
  have HB9 : Kp _ := ⟨(S9.heldM (A := B) (n := m) (c := d) (l := lb) (by simp)).1⟩
  have HA9 : Kp _ := ⟨(S9.heldM (A := A) (n := n) (c := c) (l := la) (by simp)).1⟩
  have HN9 : Kp _ := ⟨(S9.heldM (A := A9) (n := n9) (c := c9) (l := lookL (wsT6 1 la lb k) 1) (by simp)).1⟩
  clear S9 H8
  rcases (by omega : (m < k) ∨ (m = k) ∨ (k < m ∧ n ≤ k) ∨ (k < m ∧ k < n)) with hc | hc | ⟨hc, hc2⟩ | ⟨hc, hc2⟩
  · have HC : Kp _ := ⟨hc⟩
    have hci : (m : Int) < (k : Int) := by omega
    have hmk : m ≤ k := by omega
    have F7' : lookL (wsT6 1 la lb k) 1 = lb.take m := by rw [F7.out, Nat.min_eq_right (by omega), if_neg (by omega), List.append_nil]
    rw [F7'] at HN9
    have heq : (lb.take m == lb.take m) = true := by simp
    go_wp2_with (with_reducible refine wpList_cut_h (o := ⟨some 72, _, _, _, _, _⟩) el8 rfl (.tmp 67) (.tmp 71) rfl rfl HB9.out _ _ m rfl rfl (by have := HC.out; omega) ?_)
    intro A10 hb10
    have HB10 : Kp _ := ⟨hb10⟩
    have HL10 : Kp ((lb.take m).length = m) := ⟨hb10.len⟩
    clear hb10
    go_wp2_with (at_builtin; refine wpList_app el8 rfl _ _ rfl w9.heap.size _ 0 [] rfl (own_nil _ _ _) A10 m d (cells8 (lb.take m)) rfl (by rw [cells8_length, HL10.out]) (fun h => ⟨by have := HB10.out.nil h; have := HB10.out.cap; omega, HB10.out.nil h⟩) HB10.out.news (cells8_one _) (by simp only [maxLen]; omega) (by omega) (Nat.le_refl _) ?_)
    intro v11 w11 hown11 hg11 _
    have hb11 : Below w9.heap.size w9 w11 := below_of_grown (own_nil w9 w9.heap.size 5) (Nat.le_refl _) hg11
    have H11 : Kp (w11.ownsRow w9.heap.size 5 1 v11 m (cells8 (lb.take m))) := ⟨by simpa using hown11⟩
    clear hown11 hg11 HB10
    have H12 : Kp _ := ⟨H9.out.grow hb11⟩
    have HN12 : Kp _ := ⟨HN9.out.below hb11⟩
    obtain ⟨A13, c13, rfl, hb13⟩ := Bs.of_own H11.out
    have HB13 : Kp _ := ⟨hb13⟩
    clear hb13 F7'
    go_wp2_with fail
    refine (same_any A9 A13 n9 c9 _ c13 _ _ _ _ _ HN12.out HB13.out).mono ?_
    rintro e w14 ⟨rfl, rfl⟩
    go_wp2_with fail
    refine (st_look H12.out (by omega) 0).mono ?_
    rintro e w15 ⟨A15, n15, c15, rfl, S15⟩
    rw [F8.out] at S15
    have e15 := (S15.heldM (A := A15) (n := n15) (c := c15) (l := oth) (by simp)).1.text Try.underlying22 Try.underlying5 Try.underlying9
    have hB15 := S15.below
    simp only [oth] at e15
    clear S15
    go_wp2_with fail
    refine (known6_any _).mono ?_
    rintro e w16 ⟨rfl, hB16⟩
    go_wp2
    go_ret
    exact ⟨rfl, hB15.trans (hB16.mono hB15.size)⟩
  · subst hc
    have HC : Kp (m ≤ m) := ⟨Nat.le_refl _⟩
    have F7' : lookL (wsT6 1 la lb m) 1 = lb.take m := by rw [F7.out, Nat.min_self, if_neg (by omega), List.append_nil]
    rw [F7'] at HN9
    have heq : (lb.take m == lb.take m) = true := by simp
    go_wp2_with (with_reducible refine wpList_cut_h (o := ⟨some 72, _, _, _, _, _⟩) el8 rfl (.tmp 67) (.tmp 71) rfl rfl HB9.out _ _ m rfl rfl (by have := HC.out; omega) ?_)
    intro A10 hb10
    have HB10 : Kp _ := ⟨hb10⟩
    have HL10 : Kp ((lb.take m).length = m) := ⟨hb10.len⟩
    clear hb10
    go_wp2_with (at_builtin; refine wpList_app el8 rfl _ _ rfl w9.heap.size _ 0 [] rfl (own_nil _ _ _) A10 m d (cells8 (lb.take m)) rfl (by rw [cells8_length, HL10.out]) (fun h => ⟨by have := HB10.out.nil h; have := HB10.out.cap; omega, HB10.out.nil h⟩) HB10.out.news (cells8_one _) (by simp only [maxLen]; omega) (by omega) (Nat.le_refl _) ?_)
    intro v11 w11 hown11 hg11 _
    have hb11 : Below w9.heap.size w9 w11 := below_of_grown (own_nil w9 w9.heap.size 5) (Nat.le_refl _) hg11
    have H11 : Kp (w11.ownsRow w9.heap.size 5 1 v11 m (cells8 (lb.take m))) := ⟨by simpa using hown11⟩
    clear hown11 hg11 HB10
    have H12 : Kp _ := ⟨H9.out.grow hb11⟩
    have HN12 : Kp _ := ⟨HN9.out.below hb11⟩
    obtain ⟨A13, c13, rfl, hb13⟩ := Bs.of_own H11.out
    have HB13 : Kp _ := ⟨hb13⟩
    clear hb13 F7'
    go_wp2_with fail
    refine (same_any A9 A13 n9 c9 _ c13 _ _ _ _ _ HN12.out HB13.out).mono ?_
    rintro e w14 ⟨rfl, rfl⟩
    go_wp2_with fail
    refine (st_look H12.out (by omega) 0).mono ?_
    rintro e w15 ⟨A15, n15, c15, rfl, S15⟩
    rw [F8.out] at S15
    have e15 := (S15.heldM (A := A15) (n := n15) (c := c15) (l := oth) (by simp)).1.text Try.underlying22 Try.underlying5 Try.underlying9
    have hB15 := S15.below
    simp only [oth] at e15
    clear S15
    go_wp2_with fail
    refine (known6_any _).mono ?_
    rintro e w16 ⟨rfl, hB16⟩
    go_wp2
    go_ret
    exact ⟨rfl, hB15.trans (hB16.mono hB15.size)⟩
  · have HC : Kp _ := ⟨And.intro hc hc2⟩
    have hci : (k : Int) < (m : Int) := by omega
    have hcn : (n : Int) ≤ (k : Int) := by omega
    have F7' : lookL (wsT6 1 la lb k) 1 = lb.take k := by rw [F7.out, Nat.min_eq_left (by omega), if_neg (by omega), List.append_nil]
    rw [F7'] at HN9
    have heq : (lb.take k == lb.take k) = true := by simp
    go_wp2_with (with_reducible refine wpList_cut_h (o := ⟨some 72, _, _, _, _, _⟩) el8 rfl (.tmp 67) (.tmp 71) rfl rfl HB9.out _ _ k rfl rfl (by have := HC.out; omega) ?_)
    intro A10 hb10
    have HB10 : Kp _ := ⟨hb10⟩
    have HL10 : Kp ((lb.take k).length = k) := ⟨hb10.len⟩
    clear hb10
    go_wp2_with (at_builtin; refine wpList_app el8 rfl _ _ rfl w9.heap.size _ 0 [] rfl (own_nil _ _ _) A10 k d (cells8 (lb.take k)) rfl (by rw [cells8_length, HL10.out]) (fun h => ⟨by have := HB10.out.nil h; have := HB10.out.cap; omega, HB10.out.nil h⟩) HB10.out.news (cells8_one _) (by simp only [maxLen]; omega) (by omega) (Nat.le_refl _) ?_)
    intro v11 w11 hown11 hg11 _
    have hb11 : Below w9.heap.size w9 w11 := below_of_grown (own_nil w9 w9.heap.size 5) (Nat.le_refl _) hg11
    have H11 : Kp (w11.ownsRow w9.heap.size 5 1 v11 k (cells8 (lb.take k))) := ⟨by simpa using hown11⟩
    clear hown11 hg11 HB10
    have H12 : Kp _ := ⟨H9.out.grow hb11⟩
    have HN12 : Kp _ := ⟨HN9.out.below hb11⟩
    obtain ⟨A13, c13, rfl, hb13⟩ := Bs.of_own H11.out
    have HB13 : Kp _ := ⟨hb13⟩
    clear hb13 F7'
    go_wp2_with fail
    refine (same_any A9 A13 n9 c9 _ c13 _ _ _ _ _ HN12.out HB13.out).mono ?_
    rintro e w14 ⟨rfl, rfl⟩
    go_wp2_with fail
    refine (st_look H12.out (by omega) 0).mono ?_
    rintro e w15 ⟨A15, n15, c15, rfl, S15⟩
    rw [F8.out] at S15
    have e15 := (S15.heldM (A := A15) (n := n15) (c := c15) (l := oth) (by simp)).1.text Try.underlying22 Try.underlying5 Try.underlying9
    have hB15 := S15.below
    simp only [oth] at e15
    clear S15
    go_wp2_with fail
    refine (known6_any _).mono ?_
    rintro e w16 ⟨rfl, hB16⟩
    go_wp2
    go_ret
    exact ⟨rfl, hB15.trans (hB16.mono hB15.size)⟩
  · have HC : Kp _ := ⟨And.intro hc hc2⟩
    have hci : (k : Int) < (m : Int) := by omega
    have hcn : (k : Int) < (n : Int) := by omega
    have F7' : lookL (wsT6 1 la lb k) 1 = lb.take k ++ la.drop k := by rw [F7.out, Nat.min_eq_left (by omega), if_pos ⟨hc, hc2⟩]
    rw [F7'] at HN9
    have heq : (lb.take k ++ la.drop k == lb.take k ++ la.drop k) = true := by simp
    go_wp2_with (with_reducible refine wpList_cut_h (o := ⟨some 72, _, _, _, _, _⟩) el8 rfl (.tmp 67) (.tmp 71) rfl rfl HB9.out _ _ k rfl rfl (by have := HC.out; omega) ?_)
    intro A10 hb10
    have HB10 : Kp _ := ⟨hb10⟩
    have HL10 : Kp ((lb.take k).length = k) := ⟨hb10.len⟩
    clear hb10
    go_wp2_with (at_builtin; refine wpList_app el8 rfl _ _ rfl w9.heap.size _ 0 [] rfl (own_nil _ _ _) A10 k d (cells8 (lb.take k)) rfl (by rw [cells8_length, HL10.out]) (fun h => ⟨by have := HB10.out.nil h; have := HB10.out.cap; omega, HB10.out.nil h⟩) HB10.out.news (cells8_one _) (by simp only [maxLen]; omega) (by omega) (Nat.le_refl _) ?_)
    intro v11 w11 hown11 hg11 _
    have hb11 : Below w9.heap.size w9 w11 := below_of_grown (own_nil w9 w9.heap.size 5) (Nat.le_refl _) hg11
    have H11 : Kp (w11.ownsRow w9.heap.size 5 1 v11 k (cells8 (lb.take k))) := ⟨by simpa using hown11⟩
    clear hown11 hg11 HB10
    have H12 : Kp _ := ⟨H9.out.grow hb11⟩
    have HN12 : Kp _ := ⟨HN9.out.below hb11⟩
    have HA12 : Kp _ := ⟨(HA9.out.below hb11).more hb11.size⟩
    obtain ⟨A20, c20, rfl, hc20, hm20, hn20, _⟩ := own_form H11.out
    go_wp2_with (with_reducible refine wpList_cut_l (o := ⟨some 87, _, _, _, _, _⟩) el8 rfl (.tmp 85) (.tmp 86) rfl rfl HA12.out _ _ k rfl rfl (by have := HC.out; omega) ?_)
    intro A17 m17 c17 hb17
    obtain rfl : m17 = n - k := by have h17 := hb17.len; rw [List.length_drop, HLa.out] at h17; exact h17.symm
    have HB17 : Kp _ := ⟨hb17⟩
    have HL17 : Kp ((la.drop k).length = n - k) := ⟨hb17.len⟩
    clear hb17
    go_wp2_with (at_builtin; refine wpList_app el8 rfl _ _ rfl w9.heap.size _ k (cells8 (lb.take k)) rfl H11.out A17 (n - k) c17 (cells8 (la.drop k)) rfl (by rw [cells8_length, HL17.out]) (fun h => ⟨by have := HB17.out.nil h; have := HB17.out.cap; omega, HB17.out.nil h⟩) HB17.out.news (cells8_one _) (by simp only [maxLen]; omega) (by omega) hb11.size ?_)
    intro v18 w18 hown18 hg18 _
    have hb18 : Below w9.heap.size w9 w18 := hb11.trans (below_of_grown H11.out hb11.size hg18)
    have H18 : Kp (w18.ownsRow w9.heap.size 5 1 v18 (k + (n - k)) (cells8 (lb.take k ++ la.drop k))) := ⟨by rw [cells8_append]; exact hown18⟩
    have H19 : Kp _ := ⟨H9.out.grow hb18⟩
    have HN19 : Kp _ := ⟨HN9.out.below hb18⟩
    clear hown18 hg18 HB17 H12 HN12
    obtain ⟨A13, c13, rfl, hb13⟩ := Bs.of_own H18.out
    have HB13 : Kp _ := ⟨hb13⟩
    clear hb13 F7'
    go_wp2_with fail
    refine (same_any A9 A13 n9 c9 _ c13 _ _ _ _ _ HN19.out HB13.out).mono ?_
    rintro e w14 ⟨rfl, rfl⟩
    go_wp2_with fail
    refine (st_look H19.out (by omega) 0).mono ?_
    rintro e w15 ⟨A15, n15, c15, rfl, S15⟩
    rw [F8.out] at S15
    have e15 := (S15.heldM (A := A15) (n := n15) (c := c15) (l := oth) (by simp)).1.text Try.underlying22 Try.underlying5 Try.underlying9
    have hB15 := S15.below
    simp only [oth] at e15
    clear S15
    go_wp2_with fail
    refine (known6_any _).mono ?_
    rintro e w16 ⟨rfl, hB16⟩
    go_wp2
    go_ret
    exact ⟨rfl, hB15.trans (hB16.mono hB15.size)⟩
set_option maxHeartbeats 1000000 in
theorem walk_worldSeals (A : Option Addr) (n c : Nat) (la : List UInt8) (B : Option Addr) (m d : Nat) (lb : List UInt8) (P X : Nat) (w : World)
    (ha : Bs w w.heap.size A n c la) (hb : Bs w w.heap.size B m d lb) (hP : P ≤ 65535) (hX : X ≤ 255) (hn : n ≤ 140737488351232) (hm : m ≤ 140737488351232) :
    Calls Try.prog 6 #[.slice A n c, .slice B m d, .int .u16 (P : Int), .int .u8 (X : Int)] w fun e w' => e = .returned (.bool true) ∧ Below w.heap.size w w' := by
  by_cases hbig : (600 : Int) < (n : Int) + (m : Int)
  · clear ha hb
    go_enter Try.func6, Try.ntmps6
    go_wp2_with fail
    refine (known6_any _).mono ?_
    rintro e w1 ⟨rfl, hB1⟩
    go_wp2
    go_ret
    exact ⟨rfl, hB1⟩
  · rcases (by omega : X % 2 = 0 ∨ X % 2 = 1) with hx | hx
    · exact wseals0 A n c la B m d lb P X w ha hb hP hX (by omega) hx
    · exact wseals1 A n c la B m d lb P X w ha hb hP hX (by omega) hx
theorem law_worldSeals (A : Option Addr) (n c : Nat) (la : List UInt8) (B : Option Addr) (m d : Nat) (lb : List UInt8) (x y : Int) (w : World)
    (ha : Bs w w.heap.size A n c la ∧ c ≤ 140737488351232) (hb : Bs w w.heap.size B m d lb ∧ d ≤ 140737488351232) (hx : (Lit.int .u16 x).wf = true) (hy : (Lit.int .u8 y).wf = true) :
    Calls Try.prog 6 #[.slice A n c, .slice B m d, .int .u16 x, .int .u8 y] w fun e w' => e = .returned (.bool true) ∧ Below w.heap.size w w' := by
  have hx2 : 0 ≤ x ∧ x ≤ 65535 := by simpa [Lit.wf, IntKind.min, IntKind.max, IntKind.signed, IntKind.bits] using hx
  have hy2 : 0 ≤ y ∧ y ≤ 255 := by simpa [Lit.wf, IntKind.min, IntKind.max, IntKind.signed, IntKind.bits] using hy
  obtain ⟨P, rfl⟩ := Int.eq_ofNat_of_zero_le hx2.1
  obtain ⟨X, rfl⟩ := Int.eq_ofNat_of_zero_le hy2.1
  exact walk_worldSeals A n c la B m d lb P X w ha.1 hb.1 (by omega) (by omega) (Nat.le_trans ha.1.cap ha.2) (Nat.le_trans hb.1.cap hb.2)
end Go.Proofs.Ytockhfgjkhpphaa
