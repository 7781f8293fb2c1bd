/- The walks of MacDerives and MacBegins. -/
import Derived.Test.YtnpodomdagodbaaKnown3
import Derived.Test.YtnpodomdagodbaaMacDerive
import Derived.Test.YtnpodomdagodbaaSame
namespace Go.Proofs.Ytnpodomdagodbaa
open Go.RowKit

theorem deriveL_take (key lab : List UInt8) (a n : Int) (h : clipN a ≤ clipN n) : (deriveL key lab n).take (clipN a) = deriveL key lab a := by
  have h1 := tags_any key lab n ((clipN n + 31) / 32) (by omega)
  rw [← h1, List.take_take, Nat.min_eq_left h]
  exact tags_any key lab a _ (by omega)

set_option maxRecDepth 100000 in
set_option maxHeartbeats 4000000 in
theorem walk_macDerives (A : Option Addr) (m c : Nat) (key : List UInt8) (lab : List UInt8) (n : Int) (w : World) (ha : Bs w w.heap.size A m c key) :
    Calls Try.prog 10 #[.slice A m c, .string ⟨lab.toArray⟩, .int .i64 n] w fun e w' => e = .returned (.bool true) ∧ Below w.heap.size w w' := by
  have hm63 := ha.le
  have HA : Kp _ := ⟨ha⟩
  clear ha
  have hsz : (⟨lab.toArray⟩ : ByteArray).size = lab.length := by simp [ByteArray.size]
  by_cases h200 : (200 : Int) < m
  · go_enter Try.func10, Try.ntmps10
    go_wp2_with fail
    refine (known3_any _).mono ?_
    rintro e w1 ⟨rfl, hB1⟩
    go_wp2
    go_ret
    exact ⟨rfl, hB1⟩
  by_cases h100 : (100 : Int) < lab.length
  · go_enter Try.func10, Try.ntmps10
    go_wp2_with fail
    refine (known3_any _).mono ?_
    rintro e w1 ⟨rfl, hB1⟩
    go_wp2
    go_ret
    exact ⟨rfl, hB1⟩
  by_cases h400 : (400 : Int) < n
  · by_cases h1000 : n < 1000
    · go_enter Try.func10, Try.ntmps10
      go_wp2_with fail
      refine (known3_any _).mono ?_
      rintro e w1 ⟨rfl, hB1⟩
      go_wp2
      go_ret
      exact ⟨rfl, hB1⟩
    · have hge : (1000 : Int) ≤ n := by omega
      go_enter Try.func10, Try.ntmps10
      go_wp2_with fail
      refine (derive_any A m c key lab n w HA.out (by omega) (by omega)).mono ?_
      rintro e w1 ⟨A1, c1, rfl, hbs1, hB1⟩
      have HX1 : Kp _ := ⟨hbs1⟩
      have HA1 : Kp _ := ⟨HA.out.next hB1 (Nat.le_refl _)⟩
      clear hbs1 HA
      go_wp2_with fail
      refine (derive_any A m c key lab 64 w1 HA1.out (by omega) (by omega)).mono ?_
      rintro e w2 ⟨A2, c2, rfl, hbs2, hB2⟩
      have e64 : clipN 64 = 64 := by decide
      rw [e64] at hbs2 ⊢
      have HY2 : Kp _ := ⟨hbs2⟩
      have HX2 : Kp _ := ⟨HX1.out.next hB2 (Nat.le_refl _)⟩
      have hB02 := below_next hB1 hB2
      have HTk : Kp _ := ⟨deriveL_take key lab 64 n (by rw [e64]; unfold clipN; omega)⟩
      rw [e64] at HTk
      have hN64 : 64 ≤ clipN n := by unfold clipN; omega
      have hN : ((clipN n : Nat) : Int) = min n 1024 := by unfold clipN; omega
      clear hbs2 HX1 HA1 hB1 hB2 e64
      generalize clipN n = N at *
      by_cases hbig : n ≤ 1024
      · have hq : ((N : Int) == n) = true := by rw [beq_iff_eq]; omega
        clear hN
        go_wp2_with (with_reducible refine wpList_cut_h_g (o := ⟨some 42, _, _, _, _, _⟩) el8 (by kernel_rfl) _ _ rfl rfl HX2.out _ _ 64 rfl rfl hN64 ?_)
        intro A3 hbs3
        rw [HTk.out] at hbs3
        have HX3 : Kp _ := ⟨hbs3⟩
        clear hbs3
        go_wp2_with fail
        refine (same_any _ _ _ _ _ _ _ _ _ _ _ HX3.out HY2.out).mono ?_
        rintro e w3 ⟨rfl, rfl⟩
        rw [beq_self_eq_true]
        go_wp2_with fail
        refine (known3_any _).mono ?_
        rintro e w4 ⟨rfl, hB4⟩
        have hB := below_next hB02 hB4
        go_wp2
        go_ret
        exact ⟨rfl, hB⟩
      · have hbig2 : 1024 < n := by omega
        have hq : ((N : Int) == 1024) = true := by rw [beq_iff_eq]; omega
        clear hN
        go_wp2_with (with_reducible refine wpList_cut_h_g (o := ⟨some 42, _, _, _, _, _⟩) el8 (by kernel_rfl) _ _ rfl rfl HX2.out _ _ 64 rfl rfl hN64 ?_)
        intro A3 hbs3
        rw [HTk.out] at hbs3
        have HX3 : Kp _ := ⟨hbs3⟩
        clear hbs3
        go_wp2_with fail
        refine (same_any _ _ _ _ _ _ _ _ _ _ _ HX3.out HY2.out).mono ?_
        rintro e w3 ⟨rfl, rfl⟩
        rw [beq_self_eq_true]
        go_wp2_with fail
        refine (known3_any _).mono ?_
        rintro e w4 ⟨rfl, hB4⟩
        have hB := below_next hB02 hB4
        go_wp2
        go_ret
        exact ⟨rfl, hB⟩
  · have h1000 : ¬ (1000 : Int) ≤ n := by omega
    go_enter Try.func10, Try.ntmps10
    go_wp2_with fail
    refine (derive_any A m c key lab n w HA.out (by omega) (by omega)).mono ?_
    rintro e w1 ⟨A1, c1, rfl, hbs1, hB1⟩
    have HX1 : Kp _ := ⟨hbs1⟩
    have HA1 : Kp _ := ⟨HA.out.next hB1 (Nat.le_refl _)⟩
    clear hbs1 HA
    go_wp2_with fail
    refine (refderive_any A m c key lab n w1 HA1.out (by omega) (by omega)).mono ?_
    rintro e w2 ⟨A2, c2, rfl, hbs2, hB2⟩
    have HY2 : Kp _ := ⟨hbs2⟩
    have HX2 : Kp _ := ⟨HX1.out.next hB2 (Nat.le_refl _)⟩
    have hB02 := below_next hB1 hB2
    clear hbs2 HX1 HA1 hB1 hB2
    go_wp2_with fail
    refine (same_any _ _ _ _ _ _ _ _ _ _ _ HX2.out HY2.out).mono ?_
    rintro e w3 ⟨rfl, rfl⟩
    rw [beq_self_eq_true]
    go_wp2_with fail
    refine (known3_any _).mono ?_
    rintro e w4 ⟨rfl, hB4⟩
    have hB := below_next hB02 hB4
    go_wp2
    go_ret
    exact ⟨rfl, hB⟩

set_option maxRecDepth 100000 in
set_option maxHeartbeats 4000000 in
theorem walk_macBegins (A : Option Addr) (m c : Nat) (key : List UInt8) (lab : List UInt8) (x y : Int) (w : World) (ha : Bs w w.heap.size A m c key) (hx : (Lit.int .u8 x).wf = true) (hy : (Lit.int .u8 y).wf = true) :
    Calls Try.prog 12 #[.slice A m c, .string ⟨lab.toArray⟩, .int .u8 x, .int .u8 y] w fun e w' => e = .returned (.bool true) ∧ Below w.heap.size w w' := by
  have hxb : 0 ≤ x ∧ x ≤ 255 := by simpa [Lit.wf, IntKind.min, IntKind.max, IntKind.signed, IntKind.bits] using hx
  have hyb : 0 ≤ y ∧ y ≤ 255 := by simpa [Lit.wf, IntKind.min, IntKind.max, IntKind.signed, IntKind.bits] using hy
  obtain ⟨X, rfl⟩ := Int.eq_ofNat_of_zero_le hxb.1
  obtain ⟨Y, rfl⟩ := Int.eq_ofNat_of_zero_le hyb.1
  have hX : X ≤ 255 := by omega
  have hY : Y ≤ 255 := by omega
  have hm63 := ha.le
  have HA : Kp _ := ⟨ha⟩
  clear ha hx hy hxb hyb
  have hsz : (⟨lab.toArray⟩ : ByteArray).size = lab.length := by simp [ByteArray.size]
  by_cases h200 : (200 : Int) < m
  · go_enter Try.func12, Try.ntmps12
    go_wp2_with fail
    refine (known3_any _).mono ?_
    rintro e w1 ⟨rfl, hB1⟩
    go_wp2
    go_ret
    exact ⟨rfl, hB1⟩
  by_cases h100 : (100 : Int) < lab.length
  · go_enter Try.func12, Try.ntmps12
    go_wp2_with fail
    refine (known3_any _).mono ?_
    rintro e w1 ⟨rfl, hB1⟩
    go_wp2
    go_ret
    exact ⟨rfl, hB1⟩
  go_enter Try.func12, Try.ntmps12
  go_wp2_with fail
  refine (derive_mid A m c key lab X w HA.out (by omega) (by omega) (by omega)).mono ?_
  rintro e w1 ⟨A1, c1, rfl, hbs1, hB1⟩
  have HX1 : Kp _ := ⟨hbs1⟩
  have HA1 : Kp _ := ⟨HA.out.next hB1 (Nat.le_refl _)⟩
  clear hbs1 HA
  go_wp2_with fail
  refine ((derive_mid A m c key lab (X + Y) w1 HA1.out (by omega) (by omega) (by omega)) : Calls _ _ #[_, _, .int .i64 ((X : Int) + (Y : Int))] _ _).mono ?_
  rintro e w2 ⟨A2, c2, rfl, hbs2, hB2⟩
  have HY2 : Kp _ := ⟨hbs2⟩
  have HX2 : Kp _ := ⟨HX1.out.next hB2 (Nat.le_refl _)⟩
  have hB02 := below_next hB1 hB2
  have hq : (((X + Y : Nat) : Int) == (X : Int) + (Y : Int)) = true := by rw [beq_iff_eq]; omega
  have HTk : Kp ((deriveL key lab ((X + Y : Nat) : Int)).take X = deriveL key lab (X : Int)) := ⟨by
    have eX : clipN (X : Int) = X := by unfold clipN; omega
    have h := deriveL_take key lab X ((X + Y : Nat) : Int) (by unfold clipN; omega)
    rw [eX] at h
    exact h⟩
  clear hbs2 HX1 HA1 hB1 hB2
  obtain ⟨S, hS⟩ : ∃ S, S = X + Y := ⟨_, rfl⟩
  have hXS : X ≤ S := by omega
  have HS : Kp _ := ⟨hS⟩
  rw [← hS] at HY2 HTk hq ⊢
  clear hS
  go_wp2_with (with_reducible refine wpList_cut_h_g (o := ⟨some 52, _, _, _, _, _⟩) el8 (by kernel_rfl) _ _ rfl rfl HY2.out _ _ X rfl rfl hXS ?_)
  intro A3 hbs3
  rw [HTk.out] at hbs3
  have HX3 : Kp _ := ⟨hbs3⟩
  clear hbs3
  go_wp2_with fail
  refine (same_any _ _ _ _ _ _ _ _ _ _ _ HX3.out HX2.out).mono ?_
  rintro e w3 ⟨rfl, rfl⟩
  rw [beq_self_eq_true]
  go_wp2_with fail
  refine (known3_any _).mono ?_
  rintro e w4 ⟨rfl, hB4⟩
  have hB := below_next hB02 hB4
  go_wp2
  go_ret
  exact ⟨rfl, hB⟩
theorem law_macDerives (A : Option Addr) (m c : Nat) (key : List UInt8) (s : ByteArray) (n : Int) (w : World) (ha : Bs w w.heap.size A m c key ∧ c ≤ 140737488351232) (_hs : s.size ≤ maxLen) (_hn : (Lit.int .i64 n).wf = true) :
    Calls Try.prog 10 #[.slice A m c, .string s, .int .i64 n] w fun e w' => e = .returned (.bool true) ∧ Below w.heap.size w w' := by
  obtain ⟨⟨l⟩⟩ := s
  exact walk_macDerives A m c key l n w ha.1
theorem law_macBegins (A : Option Addr) (m c : Nat) (key : List UInt8) (s : ByteArray) (x y : Int) (w : World) (ha : Bs w w.heap.size A m c key ∧ c ≤ 140737488351232) (_hs : s.size ≤ maxLen) (hx : (Lit.int .u8 x).wf = true) (hy : (Lit.int .u8 y).wf = true) :
    Calls Try.prog 12 #[.slice A m c, .string s, .int .u8 x, .int .u8 y] w fun e w' => e = .returned (.bool true) ∧ Below w.heap.size w w' := by
  obtain ⟨⟨l⟩⟩ := s
  exact walk_macBegins A m c key l x y w ha.1 hx hy
end Go.Proofs.Ytnpodomdagodbaa
