/- The contract of sacristanref00's Copy.
   The walk of SealBack.
   'append' upon bytes whose row is told by its cells (so '[]byte(s)', whose row bears a mark behind its last cell). No program is named here. -/
import Derived.Test.YtadpfbjpkbpanaaG01
import Derived.Test.YtadpfbjpkbpanaaG16
import Derived.Deep.Upon
import Derived.Deep.MidRow
namespace Go.Proofs.Ytadpfbjpkbpanaa
open Go.RowKit

set_option maxHeartbeats 400000 in
theorem cop_any (A : Option Addr) (n c : Nat) (xs : List UInt8) (w : World) (ha : Bs w w.heap.size A n c xs) (hn : n ≤ 4294967296) :
    Calls Try.prog 29 #[.slice A n c] w fun e w' => ∃ v, e = .returned v ∧ w'.ownsRow w.heap.size 5 1 v n (cells8 xs) ∧ Below w.heap.size w w' := by
  have HL := Lib.hid ha.len
  go_enter Try.func29, Try.ntmps29
  go_wp2_with (at_builtin; refine wpList_app el8 rfl _ _ rfl w.heap.size _ 0 [] rfl (own_nil _ _ _) A n c (cells8 xs) rfl ?_ ?_ ha.news (cells8_one _) ?_ ?_ (Nat.le_refl _) ?_)
  · rw [cells8_length, HL.out]
  · exact fun h => ⟨by have := ha.nil h; have := ha.cap; omega, ha.nil h⟩
  · simp only [maxLen]; omega
  · omega
  intro v1 w1 hown hg hb
  have hbel : Below w.heap.size w w1 := (Below.refl _ _).grown hg (Nat.le_refl _) (by simp [Value.ownBlock])
  have hown : w1.ownsRow w.heap.size 5 1 v1 n (cells8 xs) := by simpa using hown
  have H := Lib.hid hown
  clear hown hg hb
  go_wp2
  go_ret
  exact ⟨_, rfl, H.out, hbel⟩
end Go.Proofs.Ytadpfbjpkbpanaa

namespace Go.Proofs.Ytadpfbjpkbpanaa
open Go.RowKit

/-- bytes that begin as a record's, and end otherwise, are none -/
theorem dec_tail {key : List UInt8} {r : Rc} (hg : Rg r) (ht : Rt r) (t : List UInt8) (hne : t ≠ hmacL key (bodyL r)) : decO key (bodyL r ++ t) = none :=
  dec_no fun h => by
    have h1 := h.2.2
    rw [readL_body r hg ht t] at h1
    unfold encL at h1
    exact hne (List.append_cancel_left h1).symm
theorem hmac_len (key b : List UInt8) : (hmacL key b).length = 32 := shaL_len _
theorem dec_more {key : List UInt8} {r : Rc} (hg : Rg r) (ht : Rt r) (z : UInt8) : decO key (encL key r ++ [z]) = none := by
  unfold encL
  rw [List.append_assoc]
  refine dec_tail hg ht _ fun h => ?_
  have := congrArg List.length h
  simp at this
theorem dec_less {key : List UInt8} {r : Rc} (hg : Rg r) (ht : Rt r) (N : Nat) (hN : (encL key r).length = N) : decO key ((encL key r).take (N - 1)) = none := by
  have hb := bodyL_len r hg
  have he := encL_len key r hg
  have hm := hmac_len key (bodyL r)
  unfold encL at hN ⊢
  rw [List.length_append] at hN
  rw [List.take_append, List.take_of_length_le (by omega)]
  refine dec_tail hg ht _ fun h => ?_
  have := congrArg List.length h
  rw [List.length_take] at this
  omega
theorem dec_bit {key : List UInt8} {r : Rc} (hg : Rg r) (ht : Rt r) (N : Nat) (hN : (encL key r).length = N) (k : Nat) (h1 : N ≤ k + 32) (h2 : k < N) (v : UInt8) (hv : v ≠ (encL key r)[k]'(by omega)) : decO key ((encL key r).set k v) = none := by
  have hm := hmac_len key (bodyL r)
  have hk : (bodyL r).length ≤ k := by
    have := hN
    unfold encL at this
    rw [List.length_append] at this
    omega
  have e : (encL key r).set k v = bodyL r ++ (hmacL key (bodyL r)).set (k - (bodyL r).length) v := by
    unfold encL
    rw [List.set_append_right _ _ hk]
  rw [e]
  refine dec_tail hg ht _ fun h => hv ?_
  have hlt : k - (bodyL r).length < (hmacL key (bodyL r)).length := by
    unfold encL at hN
    rw [List.length_append] at hN
    omega
  have h3 : ((hmacL key (bodyL r)).set (k - (bodyL r).length) v)[k - (bodyL r).length]'(by simpa using hlt) = v := List.getElem_set_self _
  have h4 : (hmacL key (bodyL r))[k - (bodyL r).length] = v := by
    rw [← h3]
    congr 1
    exact h.symm
  rw [← h4]
  unfold encL
  rw [List.getElem_append_right hk]
/-- Decode of what is none -/
theorem decode_no (key : List UInt8) (KA : Option Addr) (kn kc : Nat) (A : Option Addr) (n c : Nat) (l : List UInt8) (w : World) (hK : Bs w w.heap.size KA kn kc key) (ha : Bs w w.heap.size A n c l) (hkn : kn ≤ 524288) (hn : n ≤ 1000000) (hd : decO key l = none) :
    Calls Try.prog 23 #[.slice KA kn kc, .slice A n c] w fun x w' => ∃ A' n' c' D m e, x = .returned (.tuple #[rcV rc0 A' n' c' D m e, .int .i64 5]) ∧ Below w.heap.size w w' := by
  refine (decode_any key KA kn kc A n c l w hK ha hkn hn).mono ?_
  rintro x w' ⟨A', n', c', D, m, e, rfl, _, _, _, hb⟩
  rw [hd]
  exact ⟨A', n', c', D, m, e, rfl, hb⟩
theorem decode_yes (key : List UInt8) (KA : Option Addr) (kn kc : Nat) (A : Option Addr) (n c : Nat) (l : List UInt8) (r : Rc) (w : World) (hK : Bs w w.heap.size KA kn kc key) (ha : Bs w w.heap.size A n c l) (hkn : kn ≤ 524288) (hn : n ≤ 1000000) (hd : decO key l = some r) :
    Calls Try.prog 23 #[.slice KA kn kc, .slice A n c] w fun x w' => ∃ A' n' c' D m e, x = .returned (.tuple #[rcV r A' n' c' D m e, .int .i64 0]) ∧ Rs w' w'.heap.size A' n' c' D m e r ∧ Below w.heap.size w w' := by
  refine (decode_any key KA kn kc A n c l w hK ha hkn hn).mono ?_
  rintro x w' ⟨A', n', c', D, m, e, rfl, hr, _, _, hb⟩
  rw [hd] at hr ⊢
  exact ⟨A', n', c', D, m, e, rfl, hr, hb⟩

set_option maxRecDepth 100000 in
set_option maxHeartbeats 8000000 in
theorem law_sealBack (KA : Option Addr) (kn kc : Nat) (key : List UInt8) (r : Rc) (A : Option Addr) (n c : Nat) (D : Option Addr) (m e : Nat) (z1 z2 z3 : Int) (w : World) (hK0 : Bs w w.heap.size KA kn kc key ∧ kc ≤ 140737488351232)
    (hR : Rs w w.heap.size A n c D m e r) (hn : n ≤ 140737488351232) (hm : m * 32 ≤ 140737488351232) (hz1 : (Lit.int .u16 z1).wf = true) (hz2 : (Lit.int .u8 z2).wf = true) (hz3 : (Lit.int .u8 z3).wf = true) :
    Calls Try.prog 5 #[.slice KA kn kc, rcV r A n c D m e, .int .u16 z1, .int .u8 z2, .int .u8 z3] w fun x w' => x = .returned (.bool true) ∧ Below w.heap.size w w' := by
  have hK := hK0.1
  clear hK0
  obtain ⟨p, rfl, hp⟩ := u16_nat hz1
  have hu3 := byte_back hz3
  obtain ⟨more, hmore⟩ : ∃ x, x = UInt8.ofNat z3.toNat := ⟨_, rfl⟩
  rw [← hmore] at hu3
  rw [← hu3]
  have hz2' := bounds_u8 hz2
  obtain ⟨bt, rfl⟩ : ∃ b : Nat, z2 = (b : Int) := ⟨z2.toNat, by omega⟩
  have HBt : Kp (bt ≤ 255) := ⟨by omega⟩
  obtain ⟨S1, hS1⟩ : ∃ S, n + 32 * m = S := ⟨_, rfl⟩
  have HR : Kp _ := ⟨hR⟩
  have HK : Kp _ := ⟨hK⟩
  have HP : Kp _ := ⟨hp⟩
  have hk63 := hK.le
  have HS1 : Kp _ := ⟨hS1⟩
  have HN : Kp (n ≤ 140737488351232 ∧ m * 32 ≤ 140737488351232) := ⟨⟨hn, hm⟩⟩
  clear hR hn hm hK hS1 hz1 hz2 hz3 hu3 hmore hz2' hp
  go_enter Try.func5, Try.ntmps5
  go_wp2_with (with_reducible refine wpList_box (o := ⟨some 6, _, _, _, _, _⟩) (cs := rcL r.num r.blk A n c D m e) rfl (.tmp 1) rfl rfl ?_)
  intro w1 hk1 hb1 hs1
  have HX1 : Kp _ := ⟨hk1⟩
  have HB1 : Kp _ := ⟨hb1⟩
  have HR1 : Kp _ := ⟨HR.out.next hb1 (Nat.le_refl _)⟩
  have HK1 : Kp _ := ⟨HK.out.next hb1 (Nat.le_refl _)⟩
  clear hk1 hb1 hs1 HR HK
  by_cases hk : 100 < kn
  · have dk : decide ((100 : Int) < (kn : Int)) = true := decide_eq_true (by omega)
    clear hk
    go_wp2_with fail
    refine (known8_any w1).mono ?_
    rintro xk wk ⟨rfl, hbk⟩
    have HBk : Kp (Below w.heap.size w wk) := ⟨HB1.out.trans (hbk.mono HB1.out.size)⟩
    clear hbk
    go_wp2
    go_ret
    exact ⟨rfl, HBk.out⟩
  · have dk : decide ((100 : Int) < (kn : Int)) = false := decide_eq_false (by omega)
    have HK100 : Kp (kn ≤ 100) := ⟨by omega⟩
    clear hk
    go_wp2_with (with_reducible refine wpList_loadAll_g (o := ⟨some 27, _, _, _, _, _⟩) rwSeal (by kernel_rfl) (.tmp 6) rfl rfl HX1.out rfl ?_)
    refine (reflong_as S1 r A n c D m e w1 HN.out.1 HN.out.2 HS1.out).mono ?_
    rintro x w2 ⟨rfl, hb2⟩
    have HX2 : Kp _ := ⟨HX1.out.below hb2 HX1.out.lt⟩
    have HR2 : Kp _ := ⟨HR1.out.next hb2 (Nat.le_refl _)⟩
    have HK2 : Kp _ := ⟨HK1.out.next hb2 (Nat.le_refl _)⟩
    have HB2 : Kp (Below w.heap.size w w2) := ⟨HB1.out.trans (hb2.mono HB1.out.size)⟩
    clear hb2 HX1 HR1 HK1 HB1
    by_cases hs : 1000 < S1
    · have ds : decide ((1000 : Int) < (S1 : Int)) = true := decide_eq_true (by omega)
      clear hs
      go_wp2_with fail
      refine (known8_any w2).mono ?_
      rintro xk wk ⟨rfl, hbk⟩
      have HBk : Kp (Below w.heap.size w wk) := ⟨HB2.out.trans (hbk.mono HB2.out.size)⟩
      clear hbk
      go_wp2
      go_ret
      exact ⟨rfl, HBk.out⟩
    · have ds : decide ((1000 : Int) < (S1 : Int)) = false := decide_eq_false (by omega)
      have HSm : Kp (n ≤ 1000 ∧ m ≤ 31) := ⟨by have := HS1.out; omega⟩
      clear hs
      go_wp2_with (with_reducible refine wpList_loadAll (o := ⟨some 34, _, _, _, _, _⟩) rwSeal rfl (.tmp 6) rfl rfl HX2.out rfl ?_)
      clear dk ds hk63
      refine (encode_own key KA kn kc r A n c D m e w2 HK2.out HR2.out (by have := HK100.out; omega)).mono ?_
      rintro x w3 ⟨hb3, hcase⟩
      have HX3 : Kp _ := ⟨HX2.out.below hb3 HX2.out.lt⟩
      have HR3 : Kp _ := ⟨HR2.out.next hb3 (Nat.le_refl _)⟩
      have HK3 : Kp _ := ⟨HK2.out.next hb3 (Nat.le_refl _)⟩
      have HB3 : Kp (Below w.heap.size w w3) := ⟨HB2.out.trans (hb3.mono HB2.out.size)⟩
      have HKo : Kp (∀ W, Below w2.heap.size w2 W → Bs W W.heap.size KA kn kc key) := ⟨fun W h => HK2.out.next h (Nat.le_refl _)⟩
      have HB23 : Kp _ := ⟨hb3⟩
      clear hb3 HX2 HR2 HK2
      rcases hcase with ⟨ht, rfl⟩ | ⟨ht, Ab, cb, rfl, hown⟩
      · have hd : decide (Rt r) = false := decide_eq_false ht
        clear ht
        go_wp2_with (with_reducible refine wpList_loadAll (o := ⟨some 38, _, _, _, _, _⟩) rwSeal rfl (.tmp 6) rfl rfl HX3.out rfl ?_)
        refine (right_any r A n c D m e w3 HR3.out).mono ?_
        rintro x w4 ⟨rfl, hb4⟩
        rw [hd]
        have HB4 : Kp (Below w.heap.size w w4) := ⟨HB3.out.trans (hb4.mono HB3.out.size)⟩
        clear hb4 hd
        go_wp2_with fail
        refine (known8_any w4).mono ?_
        rintro xk wk ⟨rfl, hbk⟩
        have HBk : Kp (Below w.heap.size w wk) := ⟨HB4.out.trans (hbk.mono HB4.out.size)⟩
        clear hbk
        go_wp2
        go_ret
        exact ⟨rfl, HBk.out⟩
      · have HT : Kp _ := ⟨ht⟩
        have HO3 : Kp _ := ⟨hown⟩
        obtain ⟨N, hN⟩ : ∃ N, (encL key r).length = N := ⟨_, rfl⟩
        have HE : Kp _ := ⟨hN⟩
        rw [hN] at HO3 ⊢
        have HNl : Kp (N = 48 + n + 32 * m) := ⟨by rw [← hN, encL_len key r (rg_of HR3.out), HR3.out.sl.len, HR3.out.su.len]⟩
        have HG : Kp _ := ⟨rg_of HR3.out⟩
        have HD : Kp (decO key (encL key r) = some r) := ⟨decO_of _ _ r ⟨HG.out, HT.out, rfl⟩⟩
        have hd : decide (Rt r) = true := decide_eq_true ht
        clear ht hown hN
        go_wp2_with (with_reducible refine wpList_loadAll (o := ⟨some 38, _, _, _, _, _⟩) rwSeal rfl (.tmp 6) rfl rfl HX3.out rfl ?_)
        refine (right_any r A n c D m e w3 HR3.out).mono ?_
        rintro x w4 ⟨rfl, hb4⟩
        rw [hd]
        have HX4 : Kp _ := ⟨HX3.out.below hb4 HX3.out.lt⟩
        have HR4 : Kp _ := ⟨HR3.out.next hb4 (Nat.le_refl _)⟩
        have HO4 : Kp _ := ⟨own_below HO3.out hb4⟩
        have HW4 : Kp (Below w2.heap.size w2 w4) := ⟨HB23.out.trans (hb4.mono HB23.out.size)⟩
        have HBs4 : Kp _ := ⟨Bs.of_own' HO4.out⟩
        have HKe4 : Kp _ := ⟨HKo.out w4 HW4.out⟩
        clear hb4 hd HX3 HR3 HK3 HB3 HO3 HB23
        go_wp2_with fail
        refine (decode_yes key KA kn kc Ab N cb (encL key r) r w4 HKe4.out HBs4.out (by have := HK100.out; omega) (by have := HNl.out; have := HSm.out; omega) HD.out).mono ?_
        rintro x w5 ⟨A5, n5, c5, D5, m5, e5, rfl, hr5, hb5⟩
        have HX5 : Kp _ := ⟨HX4.out.below hb5 HX4.out.lt⟩
        have HR5 : Kp _ := ⟨HR4.out.next hb5 (Nat.le_refl _)⟩
        have HO5 : Kp _ := ⟨own_below HO4.out hb5⟩
        have HW5 : Kp (Below w2.heap.size w2 w5) := ⟨HW4.out.trans (hb5.mono HW4.out.size)⟩
        have HY5 : Kp _ := ⟨hr5⟩
        clear hb5 hr5 HX4 HR4 HO4 HW4 HBs4 HKe4
        go_wp2_with (with_reducible refine wpList_alloc (o := ⟨some 13, _, _, _, _, _⟩) tySeal rfl rfl ?_)
        intro w6 hk6 hb6 hs6
        have HK6 : Kp _ := ⟨hk6⟩
        have HB6 : Kp _ := ⟨hb6⟩
        clear hk6 hb6 hs6
        go_wp2_with (with_reducible refine wpList_storeAll (o := ⟨none, _, _, _, _, _⟩) (vs := rcL r.num r.blk A5 n5 c5 D5 m5 e5) rwSeal rfl (.tmp 13) (.tmp 55) rfl rfl HK6.out rfl rfl (rcL_one _ _ _ _ _ _ _ _) rfl ?_)
        intro w7 hk7 ho7
        have hb57 : Below w5.heap.size w5 w7 := HB6.out.trans (ho7.below (Nat.le_refl _))
        have HX7 : Kp _ := ⟨HX5.out.below hb57 HX5.out.lt⟩
        have HYx7 : Kp _ := ⟨hk7⟩
        have HR7 : Kp _ := ⟨HR5.out.next hb57 (Nat.le_refl _)⟩
        have HY7 : Kp _ := ⟨HY5.out.next hb57 (Nat.le_refl _)⟩
        have HO7 : Kp _ := ⟨own_below HO5.out hb57⟩
        have HW7 : Kp (Below w2.heap.size w2 w7) := ⟨HW5.out.trans (hb57.mono HW5.out.size)⟩
        have HRx : Kp _ := ⟨Blk.range (off := 0) (n := 4) HX7.out rfl⟩
        have HRy : Kp _ := ⟨Blk.range (off := 0) (n := 4) HYx7.out rfl⟩
        have HLx : Kp _ := ⟨HX7.out.lt⟩
        have HLy : Kp _ := ⟨HYx7.out.lt⟩
        have HRv : Kp (∀ W, Below w7.heap.size w7 W → Rs W W.heap.size A n c D m e r) := ⟨fun W h => HR7.out.next h (Nat.le_refl _)⟩
        have HYv : Kp (∀ W, Below w7.heap.size w7 W → Rs W W.heap.size A5 n5 c5 D5 m5 e5 r) := ⟨fun W h => HY7.out.next h (Nat.le_refl _)⟩
        have wp : IntKind.i64.wrap (p : Int) = (p : Int) := by rw [IntKind.wrap_i64]; have := HP.out; omega
        have HP63 : Kp (-9223372036854775808 ≤ (p : Int) ∧ (p : Int) < 9223372036854775808) := ⟨by have := HP.out; omega⟩
        clear hk7 ho7 hb57 HK6 HB6 HX5 HR5 HO5 HW5 HY5
        go_upto_region 7 with fail
        go_cut [80] from 57 to 79 (fun v80 wx => v80 = .bool false ∧ Kp (Below w7.heap.size w7 wx))
        case first =>
          go_wp2_with fail
          refine wp_region_held_drew (S := fun W => Below w7.heap.size w7 W) (by kernel_rfl) ((Below.refl _ _).drew) (fun hHeld => ?_)
          generalize w7.drew = wS at *
          refine wpAnyH_take (i := 0) (oi := ⟨some 57, _, _, _, _, _⟩) (v := ?_) rfl (by kernel_rfl) (by kernel_rfl) (by kernel_rfl) (fun _ _ _ h => h) (Or.inl ⟨by rfl, by intro w hSw; go_simp; try rfl⟩) (by assumption) ?_
          try simp only [Act.put, List.setIfInBounds_toArray, List.set_cons_zero, List.set_cons_succ]
          refine wpAnyH_take (i := 1) (oi := ⟨some 58, _, _, _, _, _⟩) (v := ?_) rfl (by kernel_rfl) (by kernel_rfl) (by kernel_rfl) (fun _ _ _ h => h) (Or.inl ⟨by rfl, by intro w hSw; go_simp; try rfl⟩) (by assumption) ?_
          try simp only [Act.put, List.setIfInBounds_toArray, List.set_cons_zero, List.set_cons_succ]
          refine wpAnyH_take (i := 2) (oi := ⟨some 59, _, _, _, _, _⟩) (v := ?_) rfl (by kernel_rfl) (by kernel_rfl) (by kernel_rfl) (fun _ _ _ h => h) (Or.inl ⟨by rfl, by intro w hSw; go_simp; try rfl⟩) (by assumption) ?_
          try simp only [Act.put, List.setIfInBounds_toArray, List.set_cons_zero, List.set_cons_succ]
          refine wpAnyH_take (i := 3) (oi := ⟨some 60, _, _, _, _, _⟩) (v := ?_) rfl (by kernel_rfl) (by kernel_rfl) (by kernel_rfl) (fun _ _ _ h => h) (Or.inl ⟨by rfl, by intro w hSw; go_simp; try rfl⟩) (by assumption) ?_
          try simp only [Act.put, List.setIfInBounds_toArray, List.set_cons_zero, List.set_cons_succ]
          refine wpAnyH_take (i := 4) (oi := ⟨some 61, _, _, _, _, _⟩) (v := ?_) rfl (by kernel_rfl) (by kernel_rfl) (by kernel_rfl) (fun _ _ _ h => h) (Or.inl ⟨by rfl, by intro w hSw; go_simp; try rfl⟩) (by assumption) ?_
          try simp only [Act.put, List.setIfInBounds_toArray, List.set_cons_zero, List.set_cons_succ]
          refine wpAnyH_take (i := 5) (oi := ⟨some 62, _, _, _, _, _⟩) (v := ?_) rfl (by kernel_rfl) (by kernel_rfl) (by kernel_rfl) (fun _ _ _ h => h) (Or.inl ⟨by rfl, by intro w hSw; go_simp; try rfl⟩) (by assumption) ?_
          try simp only [Act.put, List.setIfInBounds_toArray, List.set_cons_zero, List.set_cons_succ]
          refine wpAnyH_take (i := 6) (oi := ⟨some 63, _, _, _, _, _⟩) (v := ?_) rfl (by kernel_rfl) (by kernel_rfl) (by kernel_rfl) (fun _ _ _ h => h) (Or.inl ⟨by rfl, by intro w hSw; go_simp; try rfl⟩) (by assumption) ?_
          try simp only [Act.put, List.setIfInBounds_toArray, List.set_cons_zero, List.set_cons_succ]
          refine wpAnyH_take (i := 7) (oi := ⟨some 64, _, _, _, _, _⟩) (v := _) rfl (by kernel_rfl) (by kernel_rfl) (by kernel_rfl) (fun _ _ _ h => h) (yieldsIf_load_mid (by rfl) _ (.tmp 6) rfl _ _ rfl (rcL r.num r.blk A n c D m e) _ (fun W hW => range_below HRx.out hW (HLx.out)) rwSeal.ty rwSeal.row rwSeal.size) (by assumption) ?_
          try simp only [Act.put, List.setIfInBounds_toArray, List.set_cons_zero, List.set_cons_succ]
          refine wpAnyH_take (i := 8) (oi := ⟨some 65, _, _, _, _, _⟩) (v := _) rfl (by kernel_rfl) (by kernel_rfl) (by kernel_rfl) (fun _ _ _ h => h) (yieldsIf_load_mid (by rfl) _ (.tmp 13) rfl _ _ rfl (rcL r.num r.blk A5 n5 c5 D5 m5 e5) _ (fun W hW => range_below HRy.out hW (HLy.out)) rwSeal.ty rwSeal.row rwSeal.size) (by assumption) ?_
          try simp only [Act.put, List.setIfInBounds_toArray, List.set_cons_zero, List.set_cons_succ]
          refine wpAnyH_ready (rs := [9]) (by kernel_rfl) (by simp) ?_
          refine AllReadyH.cons (o := ⟨some 66, _, _, _, _, _⟩) rfl (fun K hK => ?_) AllReadyH.nil
          go_simp
          refine (refsame_as true r r A n c D m e A5 n5 c5 D5 m5 e5 wS (HRv.out wS hHeld) (HYv.out wS hHeld) (sameB_rfl r)).mono ?_
          rintro e w51 ⟨rfl, hb'⟩
          refine hK.out _ _ (hHeld.trans (hb'.mono hHeld.size)) (fun hHeld2 => ?_)
          clear hb'
          clear hK K hHeld
          have hHeld := hHeld2
          clear hHeld2
          try simp only [Act.put, List.setIfInBounds_toArray, List.set_cons_zero, List.set_cons_succ]
          refine wpAnyH_take (i := 10) (oi := ⟨some 67, _, _, _, _, _⟩) (v := ?_) rfl (by kernel_rfl) (by kernel_rfl) (by kernel_rfl) (fun _ _ _ h => h) (Or.inl ⟨by rfl, by intro w hSw; go_simp; try rfl⟩) (by assumption) ?_
          try simp only [Act.put, List.setIfInBounds_toArray, List.set_cons_zero, List.set_cons_succ]
          refine wpAnyH_take (i := 11) (oi := ⟨some 68, _, _, _, _, _⟩) (v := ?_) rfl (by kernel_rfl) (by kernel_rfl) (by kernel_rfl) (fun _ _ _ h => h) (Or.inl ⟨by rfl, by intro w hSw; go_simp; try rfl⟩) (by assumption) ?_
          try simp only [Act.put, List.setIfInBounds_toArray, List.set_cons_zero, List.set_cons_succ]
          refine wpAnyH_take (i := 12) (oi := ⟨some 69, _, _, _, _, _⟩) (v := ?_) rfl (by kernel_rfl) (by kernel_rfl) (by kernel_rfl) (fun _ _ _ h => h) (Or.inl ⟨by rfl, by intro w hSw; go_simp; try rfl⟩) (by assumption) ?_
          try simp only [Act.put, List.setIfInBounds_toArray, List.set_cons_zero, List.set_cons_succ]
          refine wpAnyH_take (i := 13) (oi := ⟨some 70, _, _, _, _, _⟩) (v := _) rfl (by kernel_rfl) (by kernel_rfl) (by kernel_rfl) (fun _ _ _ h => h) (yieldsIf_load_mid (by rfl) _ (.tmp 6) rfl _ _ rfl (rcL r.num r.blk A n c D m e) _ (fun W hW => range_below HRx.out hW (HLx.out)) rwSeal.ty rwSeal.row rwSeal.size) (by assumption) ?_
          try simp only [Act.put, List.setIfInBounds_toArray, List.set_cons_zero, List.set_cons_succ]
          refine wpAnyH_take (i := 14) (oi := ⟨some 71, _, _, _, _, _⟩) (v := ?_) rfl (by kernel_rfl) (by kernel_rfl) (by kernel_rfl) (fun _ _ _ h => h) (Or.inl ⟨by rfl, by intro w hSw; go_simp; try rfl⟩) (by assumption) ?_
          try simp only [Act.put, List.setIfInBounds_toArray, List.set_cons_zero, List.set_cons_succ]
          refine wpAnyH_take (i := 15) (oi := ⟨some 72, _, _, _, _, _⟩) (v := ?_) rfl (by kernel_rfl) (by kernel_rfl) (by kernel_rfl) (fun _ _ _ h => h) (Or.inl ⟨by rfl, by intro w hSw; go_simp; try rfl⟩) (by assumption) ?_
          try simp only [Act.put, List.setIfInBounds_toArray, List.set_cons_zero, List.set_cons_succ]
          refine wpAnyH_take (i := 17) (oi := ⟨some 74, _, _, _, _, _⟩) (v := ?_) rfl (by kernel_rfl) (by kernel_rfl) (by kernel_rfl) (fun _ _ _ h => h) (Or.inl ⟨by rfl, by intro w hSw; go_simp; try rfl⟩) (by assumption) ?_
          try simp only [Act.put, List.setIfInBounds_toArray, List.set_cons_zero, List.set_cons_succ]
          refine wpAnyH_take (i := 18) (oi := ⟨some 75, _, _, _, _, _⟩) (v := ?_) rfl (by kernel_rfl) (by kernel_rfl) (by kernel_rfl) (fun _ _ _ h => h) (Or.inl ⟨by rfl, by intro w hSw; go_simp; try rfl⟩) (by assumption) ?_
          try simp only [Act.put, List.setIfInBounds_toArray, List.set_cons_zero, List.set_cons_succ]
          refine wpAnyH_take (i := 20) (oi := ⟨some 77, _, _, _, _, _⟩) (v := _) rfl (by kernel_rfl) (by kernel_rfl) (by kernel_rfl) (fun _ _ _ h => h) (yieldsIf_load_mid (by rfl) _ (.tmp 6) rfl _ _ rfl (rcL r.num r.blk A n c D m e) _ (fun W hW => range_below HRx.out hW (HLx.out)) rwSeal.ty rwSeal.row rwSeal.size) (by assumption) ?_
          try simp only [Act.put, List.setIfInBounds_toArray, List.set_cons_zero, List.set_cons_succ]
          refine wpAnyH_ready (rs := [16]) (by kernel_rfl) (by simp) ?_
          refine AllReadyH.cons (o := ⟨some 73, _, _, _, _, _⟩) rfl (fun K hK => ?_) AllReadyH.nil
          go_simp
          refine (flip_any r A n c D m e (p : Int) w51 (HRv.out w51 hHeld) HP63.out (by have := HSm.out; omega) (by have := HSm.out; omega)).mono ?_
          rintro e w52 ⟨A8, c8, D8, e8, rfl, hr8, hb'⟩
          refine hK.out _ _ (hHeld.trans (hb'.mono hHeld.size)) (fun hHeld2 => ?_)
          have HF8 : Kp _ := ⟨hr8⟩
          clear hr8
          clear hb'
          clear hK K hHeld
          have hHeld := hHeld2
          clear hHeld2
          try simp only [Act.put, List.setIfInBounds_toArray, List.set_cons_zero, List.set_cons_succ]
          refine wpAnyH_ready (rs := [19]) (by kernel_rfl) (by simp) ?_
          refine AllReadyH.cons (o := ⟨some 76, _, _, _, _, _⟩) rfl (fun K hK => ?_) AllReadyH.nil
          go_simp
          refine (flip_any (flipR r (p : Int)) A8 n c8 D8 m e8 (p : Int) w52 HF8.out HP63.out (by have := HSm.out; omega) (by have := HSm.out; omega)).mono ?_
          rintro e w53 ⟨A9, c9, D9, e9, rfl, hr9, hb'⟩
          refine hK.out _ _ (hHeld.trans (hb'.mono hHeld.size)) (fun hHeld2 => ?_)
          have HF9 : Kp (Rs w53 w53.heap.size A9 n c9 D9 m e9 r) := ⟨by rw [flipR_flipR] at hr9; exact hr9⟩
          have hff := flipR_flipR r (p : Int)
          rw [hff]
          clear hr9 hff
          clear hb'
          clear hK K hHeld
          have hHeld := hHeld2
          clear hHeld2
          try simp only [Act.put, List.setIfInBounds_toArray, List.set_cons_zero, List.set_cons_succ]
          refine wpAnyH_ready (rs := [21]) (by kernel_rfl) (by simp) ?_
          refine AllReadyH.cons (o := ⟨some 78, _, _, _, _, _⟩) rfl (fun K hK => ?_) AllReadyH.nil
          go_simp
          refine (refsame_as true r r A9 n c9 D9 m e9 A n c D m e w53 HF9.out (HRv.out w53 hHeld) (sameB_rfl r)).mono ?_
          rintro e w54 ⟨rfl, hb'⟩
          refine hK.out _ _ (hHeld.trans (hb'.mono hHeld.size)) (fun hHeld2 => ?_)
          clear hb'
          clear hK K hHeld
          have hHeld := hHeld2
          clear hHeld2
          try simp only [Act.put, List.setIfInBounds_toArray, List.set_cons_zero, List.set_cons_succ]
          refine wpAnyH_take (i := 22) (oi := ⟨some 79, _, _, _, _, _⟩) (v := ?_) rfl (by kernel_rfl) (by kernel_rfl) (by kernel_rfl) (fun _ _ _ h => h) (Or.inl ⟨by rfl, by intro w hSw; go_simp; try rfl⟩) (by assumption) ?_
          try simp only [Act.put, List.setIfInBounds_toArray, List.set_cons_zero, List.set_cons_succ]
          refine wpAnyH_take (i := 23) (oi := ⟨some 80, _, _, _, _, _⟩) (v := ?_) rfl (by kernel_rfl) (by kernel_rfl) (by kernel_rfl) (fun _ _ _ h => h) (Or.inl ⟨by rfl, by intro w hSw; go_simp; try rfl⟩) (by assumption) ?_
          try simp only [Act.put, List.setIfInBounds_toArray, List.set_cons_zero, List.set_cons_succ]
          refine wpAnyH_done (by kernel_rfl) ?_ _
          have HWe : Kp _ := ⟨hHeld⟩
          clear hHeld
          go_wp2_with fail
          go_meet
          case rel => exact ⟨rfl, HWe⟩
        case rest =>
          obtain ⟨rfl, HW⟩ := hcut
          have HO8 : Kp _ := ⟨own_below HO7.out HW.out⟩
          have HW8 : Kp (Below w2.heap.size w2 wc) := ⟨HW7.out.trans (HW.out.mono HW7.out.size)⟩
          have HBs8 : Kp _ := ⟨Bs.of_own' HO8.out⟩
          have HKv : Kp (∀ W, Below wc.heap.size wc W → Bs W W.heap.size KA kn kc key) := ⟨fun W h => HKo.out W (HW8.out.trans (h.mono HW8.out.size))⟩
          have HOv : Kp (∀ W, Below wc.heap.size wc W → W.ownsRow w2.heap.size 5 1 (.slice Ab N cb) N (cells8 (encL key r))) := ⟨fun W h => own_below HO8.out h⟩
          clear HRx HRy HLx HLy HRv HYv HX7 HYx7 HR7 HY7 HO7 HW7 HW wp HP63
          go_wp2_with fail
          refine (cop_any Ab N cb (encL key r) wc HBs8.out (by have := HNl.out; have := HSm.out; omega)).mono ?_
          rintro x w9 ⟨v9, rfl, hown9, hb9⟩
          have HC9 : Kp _ := ⟨hown9⟩
          have HW9 : Kp (Below wc.heap.size wc w9) := ⟨hb9⟩
          have hN9 : N ≤ 100000 := by have := HNl.out; have := HSm.out; omega
          clear hown9 hb9 HBs8
          go_wp2_with (at_builtin; refine wpList_app1 el8 rfl _ _ rfl wc.heap.size _ N _ rfl HC9.out rfl rfl (by simp only [maxLen]; omega) (by omega) HW9.out.size ?_)
          intro v10 w10 H10 hb10 hz1 hz2
          have hc10 : w10.ownsRow wc.heap.size 5 1 v10 (N + 1) (cells8 (encL key r ++ [more])) := by rw [cells8_append]; exact H10.out
          obtain ⟨A10, c10, rfl, hbs10⟩ := Bs.of_own hc10
          have HL10 : Kp _ := ⟨hbs10⟩
          have HW10 : Kp (Below wc.heap.size wc w10) := ⟨HW9.out.trans hb10⟩
          have HKy10 : Kp _ := ⟨HKv.out w10 HW10.out⟩
          have HDm : Kp _ := ⟨dec_more (key := key) HG.out HT.out more⟩
          clear H10 hb10 hz1 hz2 hc10 hbs10 HC9 HW9
          go_wp2_with fail
          refine (decode_no key KA kn kc A10 (N + 1) c10 _ w10 HKy10.out HL10.out (by have := HK100.out; omega) (by omega) HDm.out).mono ?_
          rintro x w11 ⟨A11, n11, c11, D11, m11, e11, rfl, hb11⟩
          have HW11 : Kp (Below wc.heap.size wc w11) := ⟨HW10.out.trans (hb11.mono HW10.out.size)⟩
          clear hb11 HL10 HKy10 HDm HW10
          go_wp2_with (with_reducible refine wpList_alloc (o := ⟨some 16, _, _, _, _, _⟩) tySeal rfl rfl ?_)
          intro w12 hk12 hb12 hs12
          have HK12 : Kp _ := ⟨hk12⟩
          have HB12 : Kp _ := ⟨hb12⟩
          clear hk12 hb12 hs12
          go_wp2_with (with_reducible refine wpList_storeAll (o := ⟨none, _, _, _, _, _⟩) (vs := rcL 0 0 A11 n11 c11 D11 m11 e11) rwSeal rfl (.tmp 16) (.tmp 91) rfl rfl HK12.out rfl rfl (rcL_one _ _ _ _ _ _ _ _) rfl ?_)
          intro w13 hk13 ho13
          have HW13 : Kp (Below wc.heap.size wc w13) := ⟨HW11.out.trans ((HB12.out.trans (ho13.below (Nat.le_refl _))).mono HW11.out.size)⟩
          obtain ⟨N1, hN1⟩ : ∃ x, x = N - 1 := ⟨_, rfl⟩
          have hN48 : 48 ≤ N := by have := HNl.out; omega
          have wN : IntKind.i64.wrap ((N : Int) - 1) = (N1 : Int) := by rw [IntKind.wrap_i64]; omega
          have hNN : (N : Int) - 1 = (N1 : Int) := by omega
          have HN1 : Kp (N1 ≤ N ∧ N1 + 1 = N) := ⟨by omega⟩
          have HB13 : Kp _ := ⟨Bs.of_own' (HOv.out w13 HW13.out)⟩
          have HKy13 : Kp _ := ⟨HKv.out w13 HW13.out⟩
          have HDl : Kp (decO key ((encL key r).take N1) = none) := ⟨by rw [hN1]; exact dec_less HG.out HT.out N HE.out⟩
          clear hk13 ho13 HK12 HB12 HW11 hN1
          go_wp2_with (with_reducible refine wpList_cut_h (o := ⟨some 99, _, _, _, _, _⟩) el8 rfl _ _ rfl rfl HB13.out _ _ N1 rfl rfl HN1.out.1 ?_)
          intro A14 hbs14
          have HB14 : Kp _ := ⟨hbs14⟩
          clear hbs14
          go_wp2_with fail
          refine (decode_no key KA kn kc A14 N1 cb _ w13 HKy13.out HB14.out (by have := HK100.out; omega) (by have := HN1.out; omega) HDl.out).mono ?_
          rintro x w15 ⟨A15, n15, c15, D15, m15, e15, rfl, hb15⟩
          have HW15 : Kp (Below wc.heap.size wc w15) := ⟨HW13.out.trans (hb15.mono HW13.out.size)⟩
          clear hb15 HB14 HB13 HKy13 HDl HW13
          go_wp2_with (with_reducible refine wpList_alloc (o := ⟨some 18, _, _, _, _, _⟩) tySeal rfl rfl ?_)
          intro w16 hk16 hb16 hs16
          have HK16 : Kp _ := ⟨hk16⟩
          have HB16 : Kp _ := ⟨hb16⟩
          clear hk16 hb16 hs16
          go_wp2_with (with_reducible refine wpList_storeAll (o := ⟨none, _, _, _, _, _⟩) (vs := rcL 0 0 A15 n15 c15 D15 m15 e15) rwSeal rfl (.tmp 18) (.tmp 101) rfl rfl HK16.out rfl rfl (rcL_one _ _ _ _ _ _ _ _) rfl ?_)
          intro w17 hk17 ho17
          have HW17 : Kp (Below wc.heap.size wc w17) := ⟨HW15.out.trans ((HB16.out.trans (ho17.below (Nat.le_refl _))).mono HW15.out.size)⟩
          obtain ⟨q, hq⟩ : ∃ x, x = p % 32 := ⟨_, rfl⟩
          obtain ⟨k, hkk⟩ : ∃ x, x = N1 - q := ⟨_, rfl⟩
          obtain ⟨j, hj⟩ : ∃ x, x = bt % 8 := ⟨_, rfl⟩
          have hk48 : N ≤ k + 32 ∧ k < N := by have := HN1.out; omega
          have wp : IntKind.i64.wrap (p : Int) = (p : Int) := by rw [IntKind.wrap_i64]; have := HP.out; omega
          have tp : ((p : Int)).tmod 32 = (q : Int) := by rw [Int.tmod_eq_emod_of_nonneg (by omega)]; omega
          have tp2 : (p : Int) % 32 = (q : Int) := by omega
          have wq : IntKind.i64.wrap (q : Int) = (q : Int) := by rw [IntKind.wrap_i64]; omega
          have wk : IntKind.i64.wrap ((N1 : Int) - (q : Int)) = (k : Int) := by rw [IntKind.wrap_i64]; have := HN1.out; omega
          have wk2 : (N1 : Int) - (q : Int) = (k : Int) := by have := HN1.out; omega
          have w64 : ∀ z : Int, wrap64 z = IntKind.i64.wrap z := fun z => by simp only [wrap64, IntKind.wrap_i64]
          have w64a : wrap64 ((N : Int) - 1) = (N1 : Int) := by rw [w64]; exact wN
          have w64b : wrap64 ((N1 : Int) - (q : Int)) = (k : Int) := by rw [w64]; exact wk
          have w64c : wrap64 (k : Int) = (k : Int) := by rw [w64, IntKind.wrap_i64]; omega
          have w64d : wrap64 (N1 : Int) = (N1 : Int) := by rw [w64, IntKind.wrap_i64]; have := HN1.out; omega
          clear w64
          have HK48 : Kp (N ≤ k + 32 ∧ k < N) := ⟨hk48⟩
          have HJ : Kp (j = bt % 8) := ⟨hj⟩
          have W64c : Kp _ := ⟨w64c⟩
          clear hq hkk hj hk48 hN9 hN48 w64c
          go_upto_region 14 with fail
          rw [W64c.out]
          clear wp tp tp2 wq wk wk2 w64a w64b w64d W64c wN hNN
          have hk48 := HK48.out
          have hj := HJ.out
          have hbt0 := HBt.out
          have tj : ((bt : Int)).tmod 8 = (j : Int) := by rw [Int.tmod_eq_emod_of_nonneg (by omega)]; omega
          have tj2 : (bt : Int) % 8 = (j : Int) := by omega
          have wj : IntKind.u8.wrap (j : Int) = (j : Int) := by rw [IntKind.wrap_u8]; omega
          have hO17 := HOv.out w17 HW17.out
          obtain ⟨g, cb', e8, _, hg2, hgl⟩ := own_some hO17 (by omega)
          cases e8
          have hks : k < (encL key r).length := by rw [HE.out]; exact hk48.2
          have c1 : w17.cell? ⟨g, k, none⟩ = some (.int .u8 ((encL key r)[k].toNat : Int)) := by rw [World.ownsRow.cellAt hO17 k (by omega)]; exact cells8_at _ k hks
          have f1 : w17.frozen? ⟨g, k, none⟩ = false := World.ownsRow.frozenAt hO17 k
          have HDb : Kp (decO key ((encL key r).set k (flip8 (encL key r)[k] j)) = none) := ⟨dec_bit HG.out HT.out N HE.out k hk48.1 hk48.2 _ (flip8_ne _ _ (by omega))⟩
          have HO18 : Kp (((w17.setCell ⟨g, k, none⟩ (.int .u8 ((flip8 (encL key r)[k] j).toNat : Int)))).ownsRow w2.heap.size 5 1 (.slice (some ⟨g, 0, none⟩) N cb) N (cells8 ((encL key r).set k (flip8 (encL key r)[k] j)))) := ⟨by rw [← cells8_set]; exact (hO17.stored k _).1⟩
          have HW18 : Kp (Below w2.heap.size w2 (w17.setCell ⟨g, k, none⟩ (.int .u8 ((flip8 (encL key r)[k] j).toNat : Int)))) := ⟨(HW8.out.trans (HW17.out.mono HW8.out.size)).setCell (p := ⟨g, k, none⟩) hg2 _⟩
          have hv : bits .xor .u8 ((encL key r)[k].toNat : Int) (2 ^ j % 256) = ((flip8 (encL key r)[k] j).toNat : Int) := flip8_val _ (j : Int)
          have hv2 : bits .xor .u8 ((encL key r)[k].toNat : Int) (IntKind.u8.wrap (2 ^ j)) = ((flip8 (encL key r)[k] j).toNat : Int) := by rw [← hv]; rfl
          have hx8 : (encL key r)[k].toNat < 256 := (encL key r)[k].toNat_lt
          have hbt : bt ≤ 255 := HBt.out
          have hkN : (k : Int) < (N : Int) := by omega
          generalize (encL key r).set k (flip8 (encL key r)[k] j) = enc2 at *
          generalize (flip8 (encL key r)[k] j).toNat = y at *
          generalize (encL key r)[k].toNat = x8 at *
          clear hk17 ho17 HK16 HB16 HW15 hj hk48 hO17 hg2 hgl hks HOv hbt0
          go_wp2_with fail
          have HB18 : Kp _ := ⟨Bs.of_own' HO18.out⟩
          have HKy18 : Kp _ := ⟨HKo.out _ HW18.out⟩
          have HBz : Kp _ := ⟨HB2.out.trans (HW18.out.mono HB2.out.size)⟩
          clear c1 f1 hv hv2 hx8 hbt hkN HO18 HW18
          generalize w17.setCell ⟨g, k, none⟩ (.int .u8 (y : Int)) = w18 at *
          refine (decode_no key KA kn kc (some ⟨g, 0, none⟩) N cb _ w18 HKy18.out HB18.out (by have := HK100.out; omega) (by have := HNl.out; have := HSm.out; omega) HDb.out).mono ?_
          rintro x w19 ⟨A19, n19, c19, D19, m19, e19, rfl, hb19⟩
          have HBe : Kp (Below w.heap.size w w19) := ⟨HBz.out.trans (hb19.mono HBz.out.size)⟩
          clear hb19 HB18 HKy18 HDb HBz
          go_wp2_with (with_reducible refine wpList_alloc (o := ⟨some 21, _, _, _, _, _⟩) tySeal rfl rfl ?_)
          intro w20 hk20 hb20 hs20
          have HK20 : Kp _ := ⟨hk20⟩
          have HB20 : Kp _ := ⟨hb20⟩
          clear hk20 hb20 hs20
          go_wp2_with (with_reducible refine wpList_storeAll (o := ⟨none, _, _, _, _, _⟩) (vs := rcL 0 0 A19 n19 c19 D19 m19 e19) rwSeal rfl (.tmp 21) (.tmp 125) rfl rfl HK20.out rfl rfl (rcL_one _ _ _ _ _ _ _ _) rfl ?_)
          intro w21 hk21 ho21
          have HB21 : Kp (Below w.heap.size w w21) := ⟨HBe.out.trans ((HB20.out.trans (ho21.below (Nat.le_refl _))).mono HBe.out.size)⟩
          clear hk21 ho21 HK20 HB20
          go_wp2_with fail
          refine (known8_any w21).mono ?_
          rintro xk wk ⟨rfl, hbk⟩
          have HBk : Kp (Below w.heap.size w wk) := ⟨HB21.out.trans (hbk.mono HB21.out.size)⟩
          clear hbk
          go_wp2
          go_ret
          exact ⟨rfl, HBk.out⟩
end Go.Proofs.Ytadpfbjpkbpanaa

namespace Go.Proofs.Ytadpfbjpkbpanaa
open Go.RowKit
variable {P : Program} {t e : TypeId} {z : Value} {bytes : Nat}

theorem tape_setCells (b : Nat) : ∀ (vs : List Value) (o : Nat) (w : World), (w.setCells b o vs).tape = w.tape
  | [], _, _ => rfl
  | _ :: vs, o, _ => (tape_setCells b vs (o + 1) _).trans rfl
theorem below_setCells {w : World} {g B : Nat} (o : Nat) (vs : List Value) (hB : B ≤ g) (hg : g < w.heap.size) : Below B w (w.setCells g o vs) :=
  ⟨World.os_setCells w g o vs, tape_setCells g vs o w, World.output_setCells w g o vs, (World.keptBut_setCells g (may := fun _ => True) vs o w (fun _ _ => trivial)).size, fun k hk => World.heap_setCells_other w g o vs (by omega) (by omega)⟩
theorem Came.below {w w' : World} {g n c B : Nat} {xs : List Value} (h : Came w 1 (some ⟨g, 0, none⟩) g 0 n c xs) (hb : Below B w w') (hg : g < B) : Came w' 1 (some ⟨g, 0, none⟩) g 0 n c xs :=
  ⟨h.le, h.addr, fun h0 => Nat.lt_of_lt_of_le (h.lt h0) hb.size, h.oldsLen, fun j u hu => (hb.cell (p := ⟨g, _, none⟩) hg).trans (h.olds j u hu),
    fun j hj => ⟨by rw [hb.cell (p := ⟨g, _, none⟩) hg]; exact (h.spare j hj).1, (World.frozen?_of_block (a := ⟨g, _, none⟩) (hb.block g hg)).trans (h.spare j hj).2⟩⟩

theorem Came.bs {w : World} {g n c : Nat} {l : List UInt8} (h : Came w 1 (some ⟨g, 0, none⟩) g 0 n c (cells8 l)) (hg : g < w.heap.size) (hc : c ≤ maxLen) : Bs w w.heap.size (some ⟨g, 0, none⟩) n c l := by
  have hl : l.length = n := by have := h.oldsLen; rw [cells8_length] at this; omega
  exact ⟨hl, h.le, hc, (fun h => by cases h), fun _ => ⟨g, 0, rfl, hg, fun j hj => h.olds j _ (cells8_at l j hj)⟩⟩

theorem str_came (w : World) (l : List UInt8) (e : TypeId) (cap : Nat) (hcap : l.length ≤ cap) (hi : Nat) :
    Came (w.alloc (.cells (bytesRow ⟨l.toArray⟩ cap) e ((bytesRow ⟨l.toArray⟩ cap).size, hi))) 1 (some ⟨w.heap.size, 0, none⟩) w.heap.size 0 l.length cap (cells8 l) := by
  have hs : (bytesRow ⟨l.toArray⟩ cap).size = cap := by
    simp [bytesRow, ByteArray.size]; omega
  refine ⟨hcap, fun _ => rfl, fun _ => by simp, by rw [cells8_length]; omega, fun j u hu => ?_, fun j hj => ⟨?_, ?_⟩⟩
  · obtain ⟨hj, rfl⟩ := cells8_some hu
    rw [World.cell?_alloc_mark, Nat.zero_add, bytesRow_at _ _ _ (by simpa using hj)]
    simp
  · rw [World.cell?_alloc_mark, Array.getElem?_eq_getElem (by rw [hs]; omega)]; rfl
  · rw [World.frozen?_alloc_mark, hs]
    have : decide (cap ≤ 0 + l.length * 1 + j) = false := by rw [decide_eq_false_iff_not]; omega
    rw [this]; rfl

theorem run_app_came (E : El P t e z bytes) (ty : TypeId) {w : World} {g n c : Nat} {l : List UInt8} (h : Came w 1 (some ⟨g, 0, none⟩) g 0 n c (cells8 l)) (hg : g < w.heap.size) (hc : c ≤ maxLen)
    {L : Nat} {A : Option Addr} {m d : Nat} {l2 : List UInt8} (h2 : Bs w L A m d l2) (h0 : A ≠ none) {B : Nat} (hB : B ≤ g) (h63 : n + m ≤ maxLen) (hbytes : (n + m) * bytes ≤ 140737488355328) :
    ∃ A' c' w', (Builtin.append_ #[t, t] ty #[.slice (some ⟨g, 0, none⟩) n c, .slice A m d]).run P w = .ok (.slice A' (n + m) c') w' ∧ Bs w' w'.heap.size A' (n + m) c' (l ++ l2) ∧ Below B w w' := by
  obtain ⟨i, hi, hz0, hz1, hz2⟩ := info_parts E.info
  obtain ⟨a, rfl⟩ := Option.ne_none_iff_exists'.1 h0
  have hl : l.length = n := by have := h.oldsLen; rw [cells8_length] at this; omega
  have hlc : (cells8 l).length = n := by rw [cells8_length, hl]
  have hl2 : (cells8 l2).length = m := by rw [cells8_length, h2.len]
  have hsrc : Src P i.size t (.slice (some a) m d) m (cells8 l2) w := Src.ofSlice w E.ty a m d _ (by rw [hz1]; omega) (h2.news a rfl) (cells8_one _)
  by_cases hroom : n + m ≤ c
  · have hsp := h.spare
    have hr := run_append_room_src (P := P) w t t ty e i E.ty hi g 0 n c _ m _ hsrc hroom (fun j hj => by rw [hz1]; exact (hsp j (by omega)).1) (fun j hj => by rw [hz1]; exact (hsp j (by omega)).2)
    refine ⟨_, _, _, hr, ?_, below_setCells _ _ hB hg⟩
    rw [hz1]
    refine ⟨by simp [hl, h2.len], hroom, hc, (fun h => by cases h), fun _ => ⟨g, 0, rfl, ?_, fun j hj => ?_⟩⟩
    · exact Nat.lt_of_lt_of_le hg (below_setCells (B := B) _ _ hB hg).size
    · by_cases hjn : j < n
      · have h1 : w.rangeAt g 0 (cells8 l) := fun j u hu => h.olds j u hu
        have h3 := World.rangeAt_setCells_apart h1 g (0 + n * 1) (cells8 l2) (.inr (.inl (by omega)))
        rw [List.getElem_append_left (by omega)]
        exact h3 j _ (cells8_at l j (by omega))
      · have h3 := World.rangeAt_setCells_same w g (0 + n * 1) (cells8 l2) (fun j hj => hsp j (by omega))
        have hj2 : j - n < l2.length := by simp at hj; omega
        have h4 := h3 (j - n) _ (cells8_at l2 (j - n) hj2)
        rw [List.getElem_append_right (by omega)]
        rw [show 0 + n * 1 + (j - n) = 0 + j by omega] at h4
        simpa [hl] using h4
  · have hold : (Builtin.firstCells i.size n (.slice (some ⟨g, 0, none⟩) n c)).run P w.drew = .ok (cells8 l).toArray w.drew :=
      run_firstCells_some w.drew i.size n ⟨g, 0, none⟩ n c _ (by rw [hz1]; omega) (fun j u hu => by rw [Addr.add_lit]; exact h.olds j u hu)
    have hr := run_append_grow_src (P := P) w t t ty e i z E.ty hi hz0 (some ⟨g, 0, none⟩) n c _ hold _ m _ hsrc (by omega) (by simp only [maxLen] at h63; omega) (growslice_fits (by omega) (by rw [hz2]; exact hbytes))
    have hge := grownCap_ge w (n + m) c e
    have hcm2 : grownCap w (n + m) c e ≤ maxLen := grownCap_le_maxLen w (n + m) c e h63
    have hown : (w.drew.alloc (.cells ((cells8 l ++ cells8 l2).toArray ++ Builtin.zeroCells z.cells (grownCap w (n + m) c e - (n + m))) e)).ownsRow w.heap.size e 1 (.slice (some ⟨w.heap.size, 0, none⟩) (n + m) (grownCap w (n + m) c e)) (n + m) (cells8 (l ++ l2)) := by
      refine ⟨by rw [cells8_append]; simp; omega, .inr ⟨w.heap.size, _, _, rfl, Nat.le_refl _, heap_alloc_new w.drew _, hge, hcm2, ?_, ?_⟩⟩
      · simp only [Array.size_append, List.size_toArray, size_zeroCells, E.one, List.length_append, hlc, hl2, List.length_singleton]
        omega
      · simp only [Array.toList_append]
        rw [cells8_append, Nat.mul_one, List.take_append_of_le_length (by simp; omega), List.take_of_length_le (by simp; omega)]
    obtain ⟨A', c', e', hbs⟩ := Bs.of_own hown
    cases e'
    exact ⟨_, _, _, hr, hbs, ((Below.refl B w).drew).alloc (Nat.le_of_lt (Nat.lt_of_le_of_lt hB hg)) _⟩

section
variable {ops : Array Oper} {rest : List Oper} {o : Oper} {a : Act} {Q : Exit → Act → World → Prop} {w : World}
theorem wpList_bytesOf {src : TypeId} (hs : P.underlying src = some .string) (ht : P.underlying t = some (.slice e)) (he : P.underlying e = some (.int .u8)) (hgd : o.guard = none) (x : Operand) (hop : o.op = .convert src t x)
    {l : List UInt8} (hx : a.eval x = .string ⟨l.toArray⟩) (hm : l.length ≤ maxLen)
    (h : ∀ c w', Came w' 1 (some ⟨w.heap.size, 0, none⟩) w.heap.size 0 l.length c (cells8 l) → c ≤ maxLen → Below w.heap.size w w' → w'.heap.size = w.heap.size + 1 → wpList P ops Q rest (a.put o.dst (.slice (some ⟨w.heap.size, 0, none⟩) l.length c)) w') : wpList P ops Q (o :: rest) a w := by
  refine wpList_plain hgd fun K hK => ?_
  have hrun := run_bytes_of_string (P := P) w src t e ⟨l.toArray⟩ hs ht he
  have hsz : (⟨l.toArray⟩ : ByteArray).size = l.length := by simp [ByteArray.size]
  rw [hsz] at hrun
  unfold Oper.wp
  simp [execOp, hop, hx, hrun, Result.andThen]
  exact hK _ _ (h _ _ (str_came w.drew l e _ (grownCap_ge w l.length 0 e) _) (grownCap_le_maxLen w l.length 0 e hm) (((Below.refl _ w).drew).alloc (Nat.le_refl _) _) (by simp))

theorem wpList_bytesOf_g {src : TypeId} (hs : P.underlying src = some .string) (ht : P.underlying t = some (.slice e)) (he : P.underlying e = some (.int .u8)) (hgd : Region.wanted o (yielded ops a.tmps) = true) (x : Operand) (hop : o.op = .convert src t x)
    {l : List UInt8} (hx : a.eval x = .string ⟨l.toArray⟩) (hm : l.length ≤ maxLen)
    (h : ∀ c w', Came w' 1 (some ⟨w.heap.size, 0, none⟩) w.heap.size 0 l.length c (cells8 l) → c ≤ maxLen → Below w.heap.size w w' → w'.heap.size = w.heap.size + 1 → wpList P ops Q rest (a.put o.dst (.slice (some ⟨w.heap.size, 0, none⟩) l.length c)) w') : wpList P ops Q (o :: rest) a w := by
  refine wpList_step fun K hK => ?_
  rw [if_pos hgd]
  have hrun := run_bytes_of_string (P := P) w src t e ⟨l.toArray⟩ hs ht he
  have hsz : (⟨l.toArray⟩ : ByteArray).size = l.length := by simp [ByteArray.size]
  rw [hsz] at hrun
  unfold Oper.wp
  simp [execOp, hop, hx, hrun, Result.andThen]
  exact hK _ _ (h _ _ (str_came w.drew l e _ (grownCap_ge w l.length 0 e) _) (grownCap_le_maxLen w l.length 0 e hm) (((Below.refl _ w).drew).alloc (Nat.le_refl _) _) (by simp))

theorem wpList_app_came (E : El P t e z bytes) (hgd : o.guard = none) (s x : Operand) (ho : o.op = .call { callee := .builtin .append, args := #[s, x], argTypes := #[t, t] })
    {g n c : Nat} {l : List UInt8} (hs : a.eval s = .slice (some ⟨g, 0, none⟩) n c) (h : Came w 1 (some ⟨g, 0, none⟩) g 0 n c (cells8 l)) (hg : g < w.heap.size) (hc : c ≤ maxLen)
    {L : Nat} {A : Option Addr} {m d : Nat} {l2 : List UInt8} (hx : a.eval x = .slice A m d) (h2 : Bs w L A m d l2) (h0 : A ≠ none) (B : Nat) (hB : B ≤ g) (h63 : n + m ≤ maxLen) (hbytes : (n + m) * bytes ≤ 140737488355328)
    (hk : ∀ A' c' w', Bs w' w'.heap.size A' (n + m) c' (l ++ l2) → Below B w w' → wpList P ops Q rest (a.put o.dst (.slice A' (n + m) c')) w') : wpList P ops Q (o :: rest) a w := by
  refine wpList_plain hgd fun K hK => ?_
  obtain ⟨A', c', w', hrun, hbs, hb⟩ := run_app_came E o.type h hg hc h2 h0 hB h63 hbytes
  unfold Oper.wp
  simp [execOp, ho, resolve, invoke, builtin, hs, hx, hrun, Result.andThen]
  exact hK _ _ (hk _ _ _ hbs hb)
end
end Go.Proofs.Ytadpfbjpkbpanaa
