/-  -/
import Derived.Test.YtcehkafddlfleaaGreatDoorG06
import Derived.Test.YtcehkafddlfleaaGreatDoorG16
import Derived.Test.YtcehkafddlfleaaGreatDoorG14
import Derived.Test.YtcehkafddlfleaaGreatDoorG05
import Derived.Deep.LoopGhost
import Derived.WalkMore
namespace Go.Proofs.YtcehkafddlfleaaGreatDoor
open Go.RowKit
theorem plain8 : Plain1 Tryz.prog 5 := ⟨by kernel_rfl, by kernel_rfl⟩
theorem put4 (k : Nat) (w : World) (hk : k < 18446744073709551616) :
  Calls Tryz.prog 123 #[.int .u64 k, .int .i64 4] w fun e w' => ∃ A c, e = .returned (.slice A 4 c) ∧ Bs w' w'.heap.size A 4 c (putN k 4) ∧ Below w.heap.size w w' := by
 have h := put_any k 4 w hk
 have e4 : (min (max (4 : Int) 0) 8).toNat = 4 := by decide
 rw [e4] at h
 refine h.mono ?_
 rintro e w' ⟨v, rfl, hown, hb⟩
 obtain ⟨A, c, rfl, hbs⟩ := Bs.of_own hown
 exact ⟨A, c, rfl, hbs, hb⟩
def gotL (key lab : List UInt8) (i j : Nat) : List UInt8 := tagsL key lab i ++ (hmacL key (lab ++ putN (i + 1) 4)).take j
theorem gotL_zero (key lab : List UInt8) (i : Nat) : gotL key lab i 0 = tagsL key lab i := by simp [gotL]
theorem gotL_full (key lab : List UInt8) (i : Nat) : gotL key lab i 32 = tagsL key lab (i + 1) := by
 unfold gotL
 rw [List.take_of_length_le (by rw [hmacL_length]; exact Nat.le_refl _)]
 rfl
theorem gotL_next (key lab : List UInt8) (i j : Nat) (hj : j < (hmacL key (lab ++ putN (i + 1) 4)).length) : gotL key lab i (j + 1) = gotL key lab i j ++ [(hmacL key (lab ++ putN (i + 1) 4))[j]] := by
 unfold gotL
 rw [List.take_succ_eq_append_getElem hj, List.append_assoc]
theorem gotL_take (key lab : List UInt8) (i j : Nat) (hj : j ≤ 32) : gotL key lab i j = (tagsL key lab (i + 1)).take (32 * i + j) := by
 show _ = (tagsL key lab i ++ _).take _
 rw [List.take_append, tagsL_length, List.take_of_length_le (by rw [tagsL_length]; omega)]
 unfold gotL
 rw [show 32 * i + j - 32 * i = j by omega]
theorem gotL_done (key lab : List UInt8) (n : Int) (i j : Nat) (hj : j ≤ 32) (h : clipN n = 32 * i + j) : gotL key lab i j = deriveL key lab n := by
 rw [gotL_take _ _ _ _ hj, ← h]
 exact tags_any key lab n (i + 1) (by omega)
set_option maxRecDepth 100000 in
set_option maxHeartbeats 4000000 in
theorem derive_mid (A : Option Addr) (m c : Nat) (key : List UInt8) (lab : List UInt8) (N : Nat) (w : World) (ha : Bs w w.heap.size A m c key) (hm : m ≤ 524288) (hl : lab.length ≤ 500000) (hN : N ≤ 1024) :
  Calls Tryz.prog 68 #[.slice A m c, .string ⟨lab.toArray⟩, .int .i64 (N : Int)] w fun e w' => ∃ A' c', e = .returned (.slice A' N c') ∧ BsN w.heap.size w' A' N c' (deriveL key lab (N : Int)) ∧ Below w.heap.size w w' := by
 have HA : Kp _ := ⟨ha⟩
 have HN : Kp (clipN (N : Int) = N) := ⟨by unfold clipN; omega⟩
 have HLab : Kp (lab.length ≤ 500000) := ⟨hl⟩
 clear ha
 go_enter Tryz.func68, Tryz.ntmps68
 have h0 : (0 : Int) ≤ (N : Int) := by omega
 have h1 : (N : Int) ≤ 1024 := by omega
 go_wp2
 go_step3
 go_wp2_with (with_reducible refine wpList_mk0 (o := ⟨some 16, _, _, _, _, _⟩) el8 rfl _ _ rfl w.heap.size _ _ _ N rfl rfl (by omega) (by omega) (by simp only [maxLen]; omega) (Nat.le_refl _) ?_)
 intro w1 H1 hb1
 go_wp2
 go_step3
 go_wp2
 clear h0 h1
 go_loopg [8, 17] 32 (fun gk v8 v17 wr => ∃ i : Nat, i + gk = 32 ∧ v17 = .int .i64 i ∧ 32 * i ≤ N ∧ Hid (wr.ownsRow w.heap.size 5 1 v8 (32 * i) (cells8 (tagsL key lab i))) ∧ Below w.heap.size w wr)
 case atStart => exact ⟨0, by omega, rfl, by omega, H1, hb1⟩
 case round =>
  clear H1 hb1
  obtain ⟨i, hig, rfl, hiN, H, hB⟩ := hrel
  cases gk with
  | zero =>
   have hi : i = 32 := by omega
   have hi2 : ¬ ((i : Int) < 32) := by omega
   have hN2 : clipN (N : Int) = 32 * i := by rw [HN.out]; omega
   have HE : Kp (tagsL key lab i = deriveL key lab (N : Int)) := ⟨by
    have h := tags_any key lab N i (by omega)
    rw [hN2, List.take_of_length_le (by rw [tagsL_length]; exact Nat.le_refl _)] at h
    exact h⟩
   obtain ⟨A', c', rfl, hbs⟩ := BsN.of_own H.out
   have HBs : Kp (BsN w.heap.size wr A' N c' (deriveL key lab (N : Int))) := ⟨by rw [← HE.out]; rw [show 32 * i = N by omega] at hbs; exact hbs⟩
   have hN24 : N = 1024 := by omega
   clear hbs H hN2
   go_wp2
   try rw [Exit.noGoto_ret]
   go_ret
   exact ⟨A', c', by rw [hN24]; rfl, HBs.out, hB⟩
  | succ g2 =>
   have hi2 : (i : Int) < 32 := by omega
   have hs := hB.size
   go_wp2_with (with_reducible refine wpList_bytesOf (o := ⟨some 22, _, _, _, _, _⟩) (l := lab) (by kernel_rfl) el8.ty (by kernel_rfl) rfl _ rfl rfl (by simp only [maxLen]; omega) ?_)
   intro c1 w2 hc1 hm1 hb1 hz1
   have HC1 : Kp _ := ⟨Came.bs hc1 (by omega) hm1⟩
   have hB1 := below_next hB hb1
   have hk1 : i + 1 < 18446744073709551616 := by omega
   clear hc1
   go_wp2_with fail
   refine ((put4 (i + 1) _ hk1) : Calls _ _ #[.int .u64 ((i : Int) + 1), _] _ _).mono ?_
   rintro e w3 ⟨A3, c3, rfl, hbs3, hb3⟩
   have HC3 : Kp _ := ⟨HC1.out.next hb3 (by omega)⟩
   have H33 : Kp _ := ⟨hbs3⟩
   have hB3 := below_next hB1 hb3
   have hbr3 : Below wr.heap.size wr w3 := below_next hb1 hb3
   have HO3 : Kp _ := ⟨own_below H.out hbr3⟩
   have HA3 : Kp _ := ⟨HA.out.next hB3 (Nat.le_refl _)⟩
   clear hbs3 HC1 hb1 hb3 hB1 H
   go_wp2_with fail
   refine (tag2 A m c key _ _ c1 lab A3 4 c3 (putN (i + 1) 4) w3 29 HA3.out HC3.out H33.out hm (by rw [putN_length]; have := HLab.out; omega)).mono ?_
   rintro e w4 ⟨rfl, hb4⟩
   have HO4 : Kp _ := ⟨own_below HO3.out hb4⟩
   have hB4 := below_next hB3 hb4
   have HD : Kp _ := ⟨hmacL_length key (lab ++ putN (i + 1) 4)⟩
   have HG0 : Kp (gotL key lab i 0 = tagsL key lab i) := ⟨gotL_zero _ _ _⟩
   clear HA3 HO3 HC3 H33 hbr3 hB3 hb4 hB
   clear HLab
   go_wp2
   go_loopg [8, 29] 32 (fun g3 v8 v29 wx => ∃ j : Nat, j + g3 = 32 ∧ v29 = .int .i64 j ∧ 32 * i + j ≤ N ∧ Hid (wx.ownsRow w.heap.size 5 1 v8 (32 * i + j) (cells8 (gotL key lab i j))) ∧ Below w.heap.size w wx)
   case atStart => exact ⟨0, by omega, rfl, by omega, by show World.ownsRow _ _ _ _ _ _ _; rw [HG0.out]; exact HO4.out, hB4⟩
   case round =>
    clear HG0 HO4 hB4
    obtain ⟨j, hjg, rfl, hjN, H, hB⟩ := hrel
    cases gk with
    | zero =>
     have hj2 : ¬ ((j : Int) < 32) := by omega
     obtain rfl : j = 32 := by omega
     have HF : Kp _ := ⟨gotL_full key lab i⟩
     obtain ⟨Ak, ck, rfl, _⟩ := own_form H.out
     have H2 : Hid (wr.ownsRow w.heap.size 5 1 (.slice Ak (32 * i + 32) ck) (32 * (i + 1)) (cells8 (tagsL key lab (i + 1)))) := by
      have h := H.out
      rw [HF.out] at h
      exact h
     go_wp2
     go_roundg g2
     case rel => exact ⟨i + 1, by omega, by go_num, by omega, H2, hB⟩
     case measure => omega
    | succ g4 =>
     have hj2 : (j : Int) < 32 := by omega
     have hjD : j < (hmacL key (lab ++ putN (i + 1) 4)).length := by rw [HD.out]; omega
     have he : (cells8 (hmacL key (lab ++ putN (i + 1) 4)))[j]? = some (.int .u8 ((hmacL key (lab ++ putN (i + 1) 4))[j].toNat : Int)) := cells8_at _ j hjD
     have HNx : Kp _ := ⟨gotL_next key lab i j hjD⟩
     have HDn : Kp (∀ n : Int, clipN n = 32 * i + j → gotL key lab i j = deriveL key lab n) := ⟨fun n h => gotL_done key lab n i j (by omega) h⟩
     have HLc : Kp ((cells8 (hmacL key (lab ++ putN (i + 1) 4))).length = 32) := ⟨by rw [cells8_length]; exact HD.out⟩
     generalize (hmacL key (lab ++ putN (i + 1) 4))[j] = x at *
     have hsz := hB.size
     obtain ⟨Ak, ck, rfl, hck, hcm, _⟩ := own_form H.out
     by_cases hq : 32 * i + j = N
     ·have hq2 : (32 * (i : Int) + (j : Int) == (N : Int)) = true := by rw [beq_iff_eq]; omega
      obtain ⟨A', c', e', hbs⟩ := BsN.of_own H.out
      cases e'
      have HBs : Kp (BsN w.heap.size wr Ak N ck (deriveL key lab (N : Int))) := ⟨by
       rw [← HDn.out (N : Int) (by rw [HN.out, hq])]
       rw [hq] at hbs
       exact hbs⟩
      clear hbs H HNx HDn
      go_wp2_with (with_reducible refine wpList_index (o := ⟨some 31, _, _, _, _, _⟩) rwDig.ty plain8 rfl _ _ rfl rfl rfl j rfl (by omega) he ?_)
      try rw [Exit.noGoto_ret]
      go_ret
      exact ⟨Ak, ck, by rw [← hq]; rfl, HBs.out, hB⟩
     ·have hq2 : (32 * (i : Int) + (j : Int) == (N : Int)) = false := by rw [beq_eq_false_iff_ne]; omega
      go_wp2_with (first
       | (with_reducible refine wpList_index (o := ⟨some 31, _, _, _, _, _⟩) rwDig.ty plain8 rfl _ _ rfl rfl rfl j rfl (by omega) he ?_)
       | (at_builtin; refine wpList_app1 el8 rfl _ _ rfl w.heap.size _ (32 * i + j) _ rfl H.out rfl rfl (by simp only [maxLen]; omega) (by omega) hsz ?_))
      intro v' w' H' hb' _ _
      have H2 : Hid (w'.ownsRow w.heap.size 5 1 v' (32 * i + (j + 1)) (cells8 (gotL key lab i (j + 1)))) := by
       show World.ownsRow _ _ _ _ _ _ _
       rw [HNx.out, cells8_append]
       exact H'.out
      clear H H' HNx HDn
      go_wp2
      go_roundg g4
      case rel => exact ⟨j + 1, by omega, by go_num, by omega, H2, hB.trans hb'⟩
      case measure => omega
set_option maxRecDepth 100000 in
set_option maxHeartbeats 4000000 in
theorem derive_neg (A : Option Addr) (m c : Nat) (key : List UInt8) (lab : List UInt8) (n : Int) (w : World) (ha : Bs w w.heap.size A m c key) (hm : m ≤ 524288) (hl : lab.length ≤ 500000) (hn : n < 0) :
  Calls Tryz.prog 68 #[.slice A m c, .string ⟨lab.toArray⟩, .int .i64 n] w fun e w' => ∃ A' c', e = .returned (.slice A' 0 c') ∧ BsN w.heap.size w' A' 0 c' (deriveL key lab n) ∧ Below w.heap.size w w' := by
 have HA : Kp _ := ⟨ha⟩
 have HN : Kp (clipN n = 0) := ⟨by unfold clipN; omega⟩
 have HLab : Kp (lab.length ≤ 500000) := ⟨hl⟩
 clear ha
 go_enter Tryz.func68, Tryz.ntmps68
 go_wp2
 go_step3
 go_wp2_with (with_reducible refine wpList_mk0 (o := ⟨some 16, _, _, _, _, _⟩) el8 rfl _ _ rfl w.heap.size _ _ _ 0 rfl rfl (by omega) (by omega) (by simp only [maxLen]; omega) (Nat.le_refl _) ?_)
 intro w1 H1 hb1
 go_wp2
 go_step3
 go_wp2
 go_loopg [8, 17] 32 (fun gk v8 v17 wr => ∃ i : Nat, i + gk = 32 ∧ v17 = .int .i64 i ∧ 32 * i ≤ 0 ∧ Hid (wr.ownsRow w.heap.size 5 1 v8 (32 * i) (cells8 (tagsL key lab i))) ∧ Below w.heap.size w wr)
 case atStart => exact ⟨0, by omega, rfl, by omega, H1, hb1⟩
 case round =>
  clear H1 hb1
  obtain ⟨i, hig, rfl, hiN, H, hB⟩ := hrel
  cases gk with
  | zero =>
   have hi : i = 32 := by omega
   have hi2 : ¬ ((i : Int) < 32) := by omega
   have hN2 : clipN n = 32 * i := by rw [HN.out]; omega
   have HE : Kp (tagsL key lab i = deriveL key lab n) := ⟨by
    have h := tags_any key lab n i (by omega)
    rw [hN2, List.take_of_length_le (by rw [tagsL_length]; exact Nat.le_refl _)] at h
    exact h⟩
   obtain ⟨A', c', rfl, hbs⟩ := BsN.of_own H.out
   have HBs : Kp (BsN w.heap.size wr A' 0 c' (deriveL key lab n)) := ⟨by rw [← HE.out]; rw [show 32 * i = 0 by omega] at hbs; exact hbs⟩
   have hN24 : 0 = 1024 := by omega
   clear hbs H hN2
   go_wp2
   try rw [Exit.noGoto_ret]
   go_ret
   exact ⟨A', c', by rw [hN24]; rfl, HBs.out, hB⟩
  | succ g2 =>
   have hi2 : (i : Int) < 32 := by omega
   have hs := hB.size
   go_wp2_with (with_reducible refine wpList_bytesOf (o := ⟨some 22, _, _, _, _, _⟩) (l := lab) (by kernel_rfl) el8.ty (by kernel_rfl) rfl _ rfl rfl (by simp only [maxLen]; omega) ?_)
   intro c1 w2 hc1 hm1 hb1 hz1
   have HC1 : Kp _ := ⟨Came.bs hc1 (by omega) hm1⟩
   have hB1 := below_next hB hb1
   have hk1 : i + 1 < 18446744073709551616 := by omega
   clear hc1
   go_wp2_with fail
   refine ((put4 (i + 1) _ hk1) : Calls _ _ #[.int .u64 ((i : Int) + 1), _] _ _).mono ?_
   rintro e w3 ⟨A3, c3, rfl, hbs3, hb3⟩
   have HC3 : Kp _ := ⟨HC1.out.next hb3 (by omega)⟩
   have H33 : Kp _ := ⟨hbs3⟩
   have hB3 := below_next hB1 hb3
   have hbr3 : Below wr.heap.size wr w3 := below_next hb1 hb3
   have HO3 : Kp _ := ⟨own_below H.out hbr3⟩
   have HA3 : Kp _ := ⟨HA.out.next hB3 (Nat.le_refl _)⟩
   clear hbs3 HC1 hb1 hb3 hB1 H
   go_wp2_with fail
   refine (tag2 A m c key _ _ c1 lab A3 4 c3 (putN (i + 1) 4) w3 29 HA3.out HC3.out H33.out hm (by rw [putN_length]; have := HLab.out; omega)).mono ?_
   rintro e w4 ⟨rfl, hb4⟩
   have HO4 : Kp _ := ⟨own_below HO3.out hb4⟩
   have hB4 := below_next hB3 hb4
   have HD : Kp _ := ⟨hmacL_length key (lab ++ putN (i + 1) 4)⟩
   have HG0 : Kp (gotL key lab i 0 = tagsL key lab i) := ⟨gotL_zero _ _ _⟩
   clear HA3 HO3 HC3 H33 hbr3 hB3 hb4 hB
   clear HLab
   go_wp2
   go_loopg [8, 29] 32 (fun g3 v8 v29 wx => ∃ j : Nat, j + g3 = 32 ∧ v29 = .int .i64 j ∧ 32 * i + j ≤ 0 ∧ Hid (wx.ownsRow w.heap.size 5 1 v8 (32 * i + j) (cells8 (gotL key lab i j))) ∧ Below w.heap.size w wx)
   case atStart => exact ⟨0, by omega, rfl, by omega, by show World.ownsRow _ _ _ _ _ _ _; rw [HG0.out]; exact HO4.out, hB4⟩
   case round =>
    clear HG0 HO4 hB4
    obtain ⟨j, hjg, rfl, hjN, H, hB⟩ := hrel
    cases gk with
    | zero =>
     have hj2 : ¬ ((j : Int) < 32) := by omega
     obtain rfl : j = 32 := by omega
     have HF : Kp _ := ⟨gotL_full key lab i⟩
     obtain ⟨Ak, ck, rfl, _⟩ := own_form H.out
     have H2 : Hid (wr.ownsRow w.heap.size 5 1 (.slice Ak (32 * i + 32) ck) (32 * (i + 1)) (cells8 (tagsL key lab (i + 1)))) := by
      have h := H.out
      rw [HF.out] at h
      exact h
     go_wp2
     go_roundg g2
     case rel => exact ⟨i + 1, by omega, by go_num, by omega, H2, hB⟩
     case measure => omega
    | succ g4 =>
     have hj2 : (j : Int) < 32 := by omega
     have hjD : j < (hmacL key (lab ++ putN (i + 1) 4)).length := by rw [HD.out]; omega
     have he : (cells8 (hmacL key (lab ++ putN (i + 1) 4)))[j]? = some (.int .u8 ((hmacL key (lab ++ putN (i + 1) 4))[j].toNat : Int)) := cells8_at _ j hjD
     have HNx : Kp _ := ⟨gotL_next key lab i j hjD⟩
     have HDn : Kp (∀ n : Int, clipN n = 32 * i + j → gotL key lab i j = deriveL key lab n) := ⟨fun n h => gotL_done key lab n i j (by omega) h⟩
     have HLc : Kp ((cells8 (hmacL key (lab ++ putN (i + 1) 4))).length = 32) := ⟨by rw [cells8_length]; exact HD.out⟩
     generalize (hmacL key (lab ++ putN (i + 1) 4))[j] = x at *
     have hsz := hB.size
     obtain ⟨Ak, ck, rfl, hck, hcm, _⟩ := own_form H.out
     by_cases hq : 32 * i + j = 0
     ·have hq2 : (32 * (i : Int) + (j : Int) == 0) = true := by rw [beq_iff_eq]; omega
      obtain ⟨A', c', e', hbs⟩ := BsN.of_own H.out
      cases e'
      have HBs : Kp (BsN w.heap.size wr Ak 0 ck (deriveL key lab n)) := ⟨by
       rw [← HDn.out n (by rw [HN.out, hq])]
       rw [hq] at hbs
       exact hbs⟩
      clear hbs H HNx HDn
      go_wp2_with (with_reducible refine wpList_index (o := ⟨some 31, _, _, _, _, _⟩) rwDig.ty plain8 rfl _ _ rfl rfl rfl j rfl (by omega) he ?_)
      try rw [Exit.noGoto_ret]
      go_ret
      exact ⟨Ak, ck, by rw [← hq]; rfl, HBs.out, hB⟩
     ·exact absurd (by omega : 32 * i + j = 0) hq
set_option maxRecDepth 100000 in
set_option maxHeartbeats 4000000 in
theorem derive_big (A : Option Addr) (m c : Nat) (key : List UInt8) (lab : List UInt8) (n : Int) (w : World) (ha : Bs w w.heap.size A m c key) (hm : m ≤ 524288) (hl : lab.length ≤ 500000) (hn : 1024 < n) :
  Calls Tryz.prog 68 #[.slice A m c, .string ⟨lab.toArray⟩, .int .i64 n] w fun e w' => ∃ A' c', e = .returned (.slice A' 1024 c') ∧ BsN w.heap.size w' A' 1024 c' (deriveL key lab n) ∧ Below w.heap.size w w' := by
 have HA : Kp _ := ⟨ha⟩
 have HN : Kp (clipN n = 1024) := ⟨by unfold clipN; omega⟩
 have HLab : Kp (lab.length ≤ 500000) := ⟨hl⟩
 clear ha
 go_enter Tryz.func68, Tryz.ntmps68
 have h0 : 0 ≤ n := by omega
 go_wp2
 go_step3
 go_wp2_with (with_reducible refine wpList_mk0 (o := ⟨some 16, _, _, _, _, _⟩) el8 rfl _ _ rfl w.heap.size _ _ _ 1024 rfl rfl (by omega) (by omega) (by simp only [maxLen]; omega) (Nat.le_refl _) ?_)
 intro w1 H1 hb1
 go_wp2
 go_step3
 go_wp2
 go_loopg [8, 17] 32 (fun gk v8 v17 wr => ∃ i : Nat, i + gk = 32 ∧ v17 = .int .i64 i ∧ 32 * i ≤ 1024 ∧ Hid (wr.ownsRow w.heap.size 5 1 v8 (32 * i) (cells8 (tagsL key lab i))) ∧ Below w.heap.size w wr)
 case atStart => exact ⟨0, by omega, rfl, by omega, H1, hb1⟩
 case round =>
  clear H1 hb1
  obtain ⟨i, hig, rfl, hiN, H, hB⟩ := hrel
  cases gk with
  | zero =>
   have hi : i = 32 := by omega
   have hi2 : ¬ ((i : Int) < 32) := by omega
   have hN2 : clipN n = 32 * i := by rw [HN.out]; omega
   have HE : Kp (tagsL key lab i = deriveL key lab n) := ⟨by
    have h := tags_any key lab n i (by omega)
    rw [hN2, List.take_of_length_le (by rw [tagsL_length]; exact Nat.le_refl _)] at h
    exact h⟩
   obtain ⟨A', c', rfl, hbs⟩ := BsN.of_own H.out
   have HBs : Kp (BsN w.heap.size wr A' 1024 c' (deriveL key lab n)) := ⟨by rw [← HE.out]; rw [show 32 * i = 1024 by omega] at hbs; exact hbs⟩
   have hN24 : 1024 = 1024 := by omega
   clear hbs H hN2
   go_wp2
   try rw [Exit.noGoto_ret]
   go_ret
   exact ⟨A', c', rfl, HBs.out, hB⟩
  | succ g2 =>
   have hi2 : (i : Int) < 32 := by omega
   have hs := hB.size
   go_wp2_with (with_reducible refine wpList_bytesOf (o := ⟨some 22, _, _, _, _, _⟩) (l := lab) (by kernel_rfl) el8.ty (by kernel_rfl) rfl _ rfl rfl (by simp only [maxLen]; omega) ?_)
   intro c1 w2 hc1 hm1 hb1 hz1
   have HC1 : Kp _ := ⟨Came.bs hc1 (by omega) hm1⟩
   have hB1 := below_next hB hb1
   have hk1 : i + 1 < 18446744073709551616 := by omega
   clear hc1
   go_wp2_with fail
   refine ((put4 (i + 1) _ hk1) : Calls _ _ #[.int .u64 ((i : Int) + 1), _] _ _).mono ?_
   rintro e w3 ⟨A3, c3, rfl, hbs3, hb3⟩
   have HC3 : Kp _ := ⟨HC1.out.next hb3 (by omega)⟩
   have H33 : Kp _ := ⟨hbs3⟩
   have hB3 := below_next hB1 hb3
   have hbr3 : Below wr.heap.size wr w3 := below_next hb1 hb3
   have HO3 : Kp _ := ⟨own_below H.out hbr3⟩
   have HA3 : Kp _ := ⟨HA.out.next hB3 (Nat.le_refl _)⟩
   clear hbs3 HC1 hb1 hb3 hB1 H
   go_wp2_with fail
   refine (tag2 A m c key _ _ c1 lab A3 4 c3 (putN (i + 1) 4) w3 29 HA3.out HC3.out H33.out hm (by rw [putN_length]; have := HLab.out; omega)).mono ?_
   rintro e w4 ⟨rfl, hb4⟩
   have HO4 : Kp _ := ⟨own_below HO3.out hb4⟩
   have hB4 := below_next hB3 hb4
   have HD : Kp _ := ⟨hmacL_length key (lab ++ putN (i + 1) 4)⟩
   have HG0 : Kp (gotL key lab i 0 = tagsL key lab i) := ⟨gotL_zero _ _ _⟩
   clear HA3 HO3 HC3 H33 hbr3 hB3 hb4 hB
   clear HLab
   go_wp2
   go_loopg [8, 29] 32 (fun g3 v8 v29 wx => ∃ j : Nat, j + g3 = 32 ∧ v29 = .int .i64 j ∧ 32 * i + j ≤ 1024 ∧ Hid (wx.ownsRow w.heap.size 5 1 v8 (32 * i + j) (cells8 (gotL key lab i j))) ∧ Below w.heap.size w wx)
   case atStart => exact ⟨0, by omega, rfl, by omega, by show World.ownsRow _ _ _ _ _ _ _; rw [HG0.out]; exact HO4.out, hB4⟩
   case round =>
    clear HG0 HO4 hB4
    obtain ⟨j, hjg, rfl, hjN, H, hB⟩ := hrel
    cases gk with
    | zero =>
     have hj2 : ¬ ((j : Int) < 32) := by omega
     obtain rfl : j = 32 := by omega
     have HF : Kp _ := ⟨gotL_full key lab i⟩
     obtain ⟨Ak, ck, rfl, _⟩ := own_form H.out
     have H2 : Hid (wr.ownsRow w.heap.size 5 1 (.slice Ak (32 * i + 32) ck) (32 * (i + 1)) (cells8 (tagsL key lab (i + 1)))) := by
      have h := H.out
      rw [HF.out] at h
      exact h
     go_wp2
     go_roundg g2
     case rel => exact ⟨i + 1, by omega, by go_num, by omega, H2, hB⟩
     case measure => omega
    | succ g4 =>
     have hj2 : (j : Int) < 32 := by omega
     have hjD : j < (hmacL key (lab ++ putN (i + 1) 4)).length := by rw [HD.out]; omega
     have he : (cells8 (hmacL key (lab ++ putN (i + 1) 4)))[j]? = some (.int .u8 ((hmacL key (lab ++ putN (i + 1) 4))[j].toNat : Int)) := cells8_at _ j hjD
     have HNx : Kp _ := ⟨gotL_next key lab i j hjD⟩
     have HDn : Kp (∀ n : Int, clipN n = 32 * i + j → gotL key lab i j = deriveL key lab n) := ⟨fun n h => gotL_done key lab n i j (by omega) h⟩
     have HLc : Kp ((cells8 (hmacL key (lab ++ putN (i + 1) 4))).length = 32) := ⟨by rw [cells8_length]; exact HD.out⟩
     generalize (hmacL key (lab ++ putN (i + 1) 4))[j] = x at *
     have hsz := hB.size
     obtain ⟨Ak, ck, rfl, hck, hcm, _⟩ := own_form H.out
     by_cases hq : 32 * i + j = 1024
     ·have hq2 : (32 * (i : Int) + (j : Int) == 1024) = true := by rw [beq_iff_eq]; omega
      obtain ⟨A', c', e', hbs⟩ := BsN.of_own H.out
      cases e'
      have HBs : Kp (BsN w.heap.size wr Ak 1024 ck (deriveL key lab n)) := ⟨by
       rw [← HDn.out n (by rw [HN.out, hq])]
       rw [hq] at hbs
       exact hbs⟩
      clear hbs H HNx HDn
      go_wp2_with (with_reducible refine wpList_index (o := ⟨some 31, _, _, _, _, _⟩) rwDig.ty plain8 rfl _ _ rfl rfl rfl j rfl (by omega) he ?_)
      try rw [Exit.noGoto_ret]
      go_ret
      exact ⟨Ak, ck, by rw [← hq]; rfl, HBs.out, hB⟩
     ·have hq2 : (32 * (i : Int) + (j : Int) == 1024) = false := by rw [beq_eq_false_iff_ne]; omega
      go_wp2_with (first
       | (with_reducible refine wpList_index (o := ⟨some 31, _, _, _, _, _⟩) rwDig.ty plain8 rfl _ _ rfl rfl rfl j rfl (by omega) he ?_)
       | (at_builtin; refine wpList_app1 el8 rfl _ _ rfl w.heap.size _ (32 * i + j) _ rfl H.out rfl rfl (by simp only [maxLen]; omega) (by omega) hsz ?_))
      intro v' w' H' hb' _ _
      have H2 : Hid (w'.ownsRow w.heap.size 5 1 v' (32 * i + (j + 1)) (cells8 (gotL key lab i (j + 1)))) := by
       show World.ownsRow _ _ _ _ _ _ _
       rw [HNx.out, cells8_append]
       exact H'.out
      clear H H' HNx HDn
      go_wp2
      go_roundg g4
      case rel => exact ⟨j + 1, by omega, by go_num, by omega, H2, hB.trans hb'⟩
      case measure => omega
theorem derive_any (A : Option Addr) (m c : Nat) (key : List UInt8) (lab : List UInt8) (n : Int) (w : World) (ha : Bs w w.heap.size A m c key) (hm : m ≤ 524288) (hl : lab.length ≤ 500000) :
  Calls Tryz.prog 68 #[.slice A m c, .string ⟨lab.toArray⟩, .int .i64 n] w fun e w' => ∃ A' c', e = .returned (.slice A' (clipN n) c') ∧ BsN w.heap.size w' A' (clipN n) c' (deriveL key lab n) ∧ Below w.heap.size w w' := by
 rcases (by omega : n < 0 ∨ (0 ≤ n ∧ n ≤ 1024) ∨ 1024 < n) with h | ⟨h0, h⟩ | h
 ·have e1 : clipN n = 0 := by unfold clipN; omega
  rw [e1]; exact derive_neg A m c key lab n w ha hm hl h
 ·obtain ⟨N, rfl⟩ := Int.eq_ofNat_of_zero_le h0
  have e1 : clipN (N : Int) = N := by unfold clipN; omega
  rw [e1]; exact derive_mid A m c key lab N w ha hm hl (by omega)
 ·have e1 : clipN n = 1024 := by unfold clipN; omega
  rw [e1]; exact derive_big A m c key lab n w ha hm hl h
end Go.Proofs.YtcehkafddlfleaaGreatDoor
