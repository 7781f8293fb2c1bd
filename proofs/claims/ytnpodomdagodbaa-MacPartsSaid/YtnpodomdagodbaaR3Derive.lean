/- The contract of sacristanref03.Derive. -/
import Derived.Test.YtnpodomdagodbaaR3Tag
import Derived.Test.YtnpodomdagodbaaOnto
namespace Go.Proofs.Ytnpodomdagodbaa
open Go.RowKit

/-- the tags of a key, a label and 1 .. k, one behind the other -/
def tagsL (key lab : List UInt8) : Nat → List UInt8
  | 0 => []
  | k + 1 => tagsL key lab k ++ hmacL key (lab ++ putN (k + 1) 4)
theorem tagsL_length (key lab : List UInt8) (k : Nat) : (tagsL key lab k).length = 32 * k := by
  induction k with
  | zero => rfl
  | succ k ih => simp only [tagsL, List.length_append, ih]; unfold hmacL; rw [shaL_len]; omega
def clipN (n : Int) : Nat := (max 0 (min n 1024)).toNat
def deriveL (key lab : List UInt8) (n : Int) : List UInt8 := (tagsL key lab ((clipN n + 31) / 32)).take (clipN n)

theorem tagsL_take (key lab : List UInt8) (j k : Nat) (h : j ≤ k) : (tagsL key lab k).take (32 * j) = tagsL key lab j := by
  induction k with
  | zero => obtain rfl : j = 0 := by omega
            rfl
  | succ k ih =>
    by_cases hj : j ≤ k
    · rw [tagsL, List.take_append_of_le_length (by rw [tagsL_length]; omega), ih hj]
    · obtain rfl : j = k + 1 := by omega
      rw [List.take_of_length_le (by rw [tagsL_length]; exact Nat.le_refl _)]
/-- the first N bytes, of as many tags as there are -/
theorem tags_any (key lab : List UInt8) (n : Int) (k : Nat) (h : clipN n ≤ 32 * k) : (tagsL key lab k).take (clipN n) = deriveL key lab n := by
  unfold deriveL
  have hjk : (clipN n + 31) / 32 ≤ k := by omega
  rw [← tagsL_take key lab _ k hjk, List.take_take, Nat.min_eq_left (by omega)]
theorem refput4 (k : Nat) (w : World) (hk : k < 18446744073709551616) :
    Calls Try.prog 33 #[.int .u64 k, .int .i64 4] w fun e w' => ∃ A c, e = .returned (.slice A 4 c) ∧ A ≠ none ∧ Bs w' w'.heap.size A 4 c (putN k 4) ∧ Below w.heap.size w w' := by
  have h := refput_any k 4 w hk
  have e4 : (min (max (4 : Int) 0) 8).toNat = 4 := by decide
  rw [e4] at h
  refine h.mono ?_
  rintro e w' ⟨v, rfl, hown, hb⟩
  obtain ⟨A, c, rfl, hbs⟩ := Bs.of_own hown
  exact ⟨A, c, rfl, fun h0 => absurd (hbs.nil h0) (by have := hbs.cap; omega), hbs, hb⟩

set_option maxRecDepth 100000 in
set_option maxHeartbeats 4000000 in
theorem refderive_any (A : Option Addr) (m c : Nat) (key : List UInt8) (lab : List UInt8) (n : Int) (w : World) (ha : Bs w w.heap.size A m c key) (hm : m ≤ 1048000) (hl : lab.length ≤ 1000000) :
    Calls Try.prog 30 #[.slice A m c, .string ⟨lab.toArray⟩, .int .i64 n] w fun e w' => ∃ A' c', e = .returned (.slice A' (clipN n) c') ∧ Bs w' w'.heap.size A' (clipN n) c' (deriveL key lab n) ∧ Below w.heap.size w w' := by
  have HA : Kp _ := ⟨ha⟩
  clear ha
  go_enter Try.func30, Try.ntmps30
  have HNle : Kp (clipN n ≤ 1024) := ⟨by unfold clipN; omega⟩
  have HLab : Kp (lab.length ≤ 1000000) := ⟨hl⟩
  have hcase : n < 0 ∨ n = 0 ∨ (0 < n ∧ n < 1024) ∨ n = 1024 ∨ 1024 < n := by omega
  rcases hcase with h | rfl | ⟨h0, h⟩ | rfl | h
  · have HN : Kp (clipN n = 0) := ⟨by unfold clipN; omega⟩
    go_wp2_with fail
    go_loopw [7, 8] (fun v i wr => ∃ k : Nat, 32 * k ≤ clipN n + 31 ∧ i = .int .i64 ((k : Int) + 1) ∧ Hid (wr.ownsRow w.heap.size 5 1 v (32 * k) (cells8 (tagsL key lab k))) ∧ Below w.heap.size w wr) (fun _ i _ => (1025 - intOf i).toNat)
    case atStart => exact ⟨0, by omega, rfl, own_nil _ _ _, Below.refl _ _⟩
    case round =>
      obtain ⟨k, hk, rfl, H, hB⟩ := hrel
      have hNle := HNle.out
      have hs := hB.size
      obtain ⟨Ak, ck, rfl, _⟩ := own_form H.out
      by_cases hlt : (32 : Int) * (k : Int) < 0
      · exact absurd hlt (by omega)
      · have hk32 : clipN n ≤ 32 * k := by rw [HN.out]; omega
        have HT : Kp _ := ⟨tags_any key lab n k hk32⟩
        obtain ⟨A', c', e', hbs⟩ := Bs.of_own H.out
        cases e'
        rw [HN.out] at hk32 HT
        go_wp2_with (with_reducible refine wpList_cut_h (o := ⟨some 34, _, _, _, _, _⟩) el8 rfl _ _ rfl rfl hbs _ _ 0 rfl (by omega) (by omega) ?_)
        intro A4 h4
        have H4 : Kp (Bs wr wr.heap.size A4 0 ck (deriveL key lab n)) := ⟨by rw [← HT.out]; exact h4⟩
        go_wp2
        go_ret
        exact ⟨A4, ck, by rw [HN.out]; rfl, by rw [HN.out]; exact H4.out, hB⟩
  · have HN : Kp (clipN 0 = 0) := ⟨by unfold clipN; omega⟩
    go_wp2_with fail
    go_loopw [7, 8] (fun v i wr => ∃ k : Nat, 32 * k ≤ clipN 0 + 31 ∧ i = .int .i64 ((k : Int) + 1) ∧ Hid (wr.ownsRow w.heap.size 5 1 v (32 * k) (cells8 (tagsL key lab k))) ∧ Below w.heap.size w wr) (fun _ i _ => (1025 - intOf i).toNat)
    case atStart => exact ⟨0, by omega, rfl, own_nil _ _ _, Below.refl _ _⟩
    case round =>
      obtain ⟨k, hk, rfl, H, hB⟩ := hrel
      have hNle := HNle.out
      have hs := hB.size
      obtain ⟨Ak, ck, rfl, _⟩ := own_form H.out
      by_cases hlt : (32 : Int) * (k : Int) < 0
      · exact absurd hlt (by omega)
      · have hk32 : clipN 0 ≤ 32 * k := by rw [HN.out]; omega
        have HT : Kp _ := ⟨tags_any key lab 0 k hk32⟩
        obtain ⟨A', c', e', hbs⟩ := Bs.of_own H.out
        cases e'
        rw [HN.out] at hk32 HT
        go_wp2_with (with_reducible refine wpList_cut_h (o := ⟨some 34, _, _, _, _, _⟩) el8 rfl _ _ rfl rfl hbs _ _ 0 rfl (by omega) (by omega) ?_)
        intro A4 h4
        have H4 : Kp (Bs wr wr.heap.size A4 0 ck (deriveL key lab 0)) := ⟨by rw [← HT.out]; exact h4⟩
        go_wp2
        go_ret
        exact ⟨A4, ck, by rw [HN.out]; rfl, by rw [HN.out]; exact H4.out, hB⟩
  · obtain ⟨N, rfl⟩ := Int.eq_ofNat_of_zero_le (Int.le_of_lt h0)
    have HN : Kp (clipN (N : Int) = N) := ⟨by unfold clipN; omega⟩
    go_wp2_with fail
    go_loopw [7, 8] (fun v i wr => ∃ k : Nat, 32 * k ≤ clipN (N : Int) + 31 ∧ i = .int .i64 ((k : Int) + 1) ∧ Hid (wr.ownsRow w.heap.size 5 1 v (32 * k) (cells8 (tagsL key lab k))) ∧ Below w.heap.size w wr) (fun _ i _ => (1025 - intOf i).toNat)
    case atStart => exact ⟨0, by omega, rfl, own_nil _ _ _, Below.refl _ _⟩
    case round =>
      obtain ⟨k, hk, rfl, H, hB⟩ := hrel
      have hNle := HNle.out
      have hs := hB.size
      obtain ⟨Ak, ck, rfl, _⟩ := own_form H.out
      by_cases hlt : (32 : Int) * (k : Int) < (N : Int)
      · go_wp2_with (with_reducible refine wpList_bytesOf (o := ⟨some 20, _, _, _, _, _⟩) (l := lab) (by kernel_rfl) el8.ty (by kernel_rfl) rfl _ rfl rfl (by simp only [maxLen]; omega) ?_)
        intro c1 w1 hc1 hm1 hb1 hz1
        have HC1 : Kp _ := ⟨hc1⟩
        have hB1 := below_next hB hb1
        have hk1 : k + 1 < 18446744073709551616 := by omega
        clear hc1
        go_wp2_with fail
        refine ((refput4 (k + 1) _ hk1) : Calls _ _ #[.int .u64 ((k : Int) + 1), _] _ _).mono ?_
        rintro e w2 ⟨A2, c2, rfl, hne2, hbs2, hb2⟩
        have HC2 : Kp _ := ⟨Came.below HC1.out hb2 (by omega)⟩
        have H22 : Kp _ := ⟨hbs2⟩
        have hB2 := below_next hB1 hb2
        have hs2 := hb2.size
        have hbr2 : Below wr.heap.size wr w2 := below_next hb1 hb2
        clear hbs2 HC1 hb1 hb2 hB1
        go_wp2_with (at_builtin; refine wpList_app_came el8 rfl _ _ rfl rfl HC2.out (by omega) hm1 rfl H22.out hne2 wr.heap.size (Nat.le_refl _) (by simp only [maxLen]; omega) (by omega) ?_)
        intro A3 c3 w3 hbs3 hb3
        have H3 : Kp _ := ⟨hbs3⟩
        have hb03 : Below w.heap.size w w3 := hB2.trans (hb3.mono hs)
        have HO3 : Kp _ := ⟨own_below H.out (hbr2.trans hb3)⟩
        have hs3 := hb3.size
        have HA3 : Kp _ := ⟨HA.out.next hb03 (Nat.le_refl _)⟩
        have HTS : Kp (tagsL key lab (k + 1) = tagsL key lab k ++ hmacL key (lab ++ putN (k + 1) 4)) := ⟨rfl⟩
        clear hbs3 H hbr2 hb3 HC2 H22 hB2
        go_wp2_with fail
        refine (reftag_any _ _ _ _ _ _ _ _ _ HA3.out H3.out hm (by omega)).mono ?_
        rintro e w4 ⟨rfl, hb4⟩
        have HO4 : Kp _ := ⟨own_below HO3.out hb4⟩
        have hb04 := below_next hb03 hb4
        have hs4 := hb4.size
        have HL : Kp ((hmacL key (lab ++ putN (k + 1) 4)).length = 32) := ⟨shaL_len _⟩
        clear HO3 HA3 H3 hb03 hb4
        generalize hmacL key (lab ++ putN (k + 1) 4) = D at *
        go_wp2_with fail
        refine (slice_any D HL.out _).mono ?_
        rintro e w5 ⟨v5, rfl, hown5, hb5⟩
        obtain ⟨A5, c5, rfl, hbs5⟩ := Bs.of_own hown5
        have H5 : Kp _ := ⟨hbs5⟩
        have HO5 : Kp _ := ⟨own_below HO4.out hb5⟩
        have hb05 := below_next hb04 hb5
        have hs5 := hb5.size
        clear hown5 hbs5 HO4 hb04 hb5
        go_wp2_with (at_builtin; refine wpList_app el8 rfl _ _ rfl w.heap.size _ (32 * k) (cells8 (tagsL key lab k)) rfl HO5.out A5 32 c5 (cells8 D) rfl (by rw [cells8_length, HL.out]) ?_ H5.out.news (cells8_one _) (by simp only [maxLen]; omega) (by omega) (by omega) ?_)
        · exact fun h => absurd (H5.out.nil h) (by have := H5.out.cap; omega)
        intro v6 w6 hown6 hg6 _
        have hb6 : Below w.heap.size w5 w6 := below_of_grown HO5.out (by omega) hg6
        rw [← cells8_append, ← HTS.out] at hown6
        have H6 : Hid (w6.ownsRow w.heap.size 5 1 v6 (32 * (k + 1)) (cells8 (tagsL key lab (k + 1)))) := hown6
        have hb06 := hb05.trans hb6
        clear hown6 hg6 HO5 H5 hb05 hb6 HTS
        go_wp2
        go_roundw
        case rel => exact ⟨k + 1, by rw [HN.out]; omega, by go_num, H6, hb06⟩
        case measure => simp [intOf]; omega
      · have hk32 : clipN (N : Int) ≤ 32 * k := by rw [HN.out]; omega
        have HT : Kp _ := ⟨tags_any key lab (N : Int) k hk32⟩
        obtain ⟨A', c', e', hbs⟩ := Bs.of_own H.out
        cases e'
        rw [HN.out] at hk32 HT
        go_wp2_with (with_reducible refine wpList_cut_h (o := ⟨some 34, _, _, _, _, _⟩) el8 rfl _ _ rfl rfl hbs _ _ N rfl (by omega) (by omega) ?_)
        intro A4 h4
        have H4 : Kp (Bs wr wr.heap.size A4 N ck (deriveL key lab (N : Int))) := ⟨by rw [← HT.out]; exact h4⟩
        go_wp2
        go_ret
        exact ⟨A4, ck, by rw [HN.out]; rfl, by rw [HN.out]; exact H4.out, hB⟩
  · have HN : Kp (clipN 1024 = 1024) := ⟨by unfold clipN; omega⟩
    go_wp2_with fail
    go_loopw [7, 8] (fun v i wr => ∃ k : Nat, 32 * k ≤ clipN 1024 + 31 ∧ i = .int .i64 ((k : Int) + 1) ∧ Hid (wr.ownsRow w.heap.size 5 1 v (32 * k) (cells8 (tagsL key lab k))) ∧ Below w.heap.size w wr) (fun _ i _ => (1025 - intOf i).toNat)
    case atStart => exact ⟨0, by omega, rfl, own_nil _ _ _, Below.refl _ _⟩
    case round =>
      obtain ⟨k, hk, rfl, H, hB⟩ := hrel
      have hNle := HNle.out
      have hs := hB.size
      obtain ⟨Ak, ck, rfl, _⟩ := own_form H.out
      by_cases hlt : (32 : Int) * (k : Int) < 1024
      · go_wp2_with (with_reducible refine wpList_bytesOf (o := ⟨some 20, _, _, _, _, _⟩) (l := lab) (by kernel_rfl) el8.ty (by kernel_rfl) rfl _ rfl rfl (by simp only [maxLen]; omega) ?_)
        intro c1 w1 hc1 hm1 hb1 hz1
        have HC1 : Kp _ := ⟨hc1⟩
        have hB1 := below_next hB hb1
        have hk1 : k + 1 < 18446744073709551616 := by omega
        clear hc1
        go_wp2_with fail
        refine ((refput4 (k + 1) _ hk1) : Calls _ _ #[.int .u64 ((k : Int) + 1), _] _ _).mono ?_
        rintro e w2 ⟨A2, c2, rfl, hne2, hbs2, hb2⟩
        have HC2 : Kp _ := ⟨Came.below HC1.out hb2 (by omega)⟩
        have H22 : Kp _ := ⟨hbs2⟩
        have hB2 := below_next hB1 hb2
        have hs2 := hb2.size
        have hbr2 : Below wr.heap.size wr w2 := below_next hb1 hb2
        clear hbs2 HC1 hb1 hb2 hB1
        go_wp2_with (at_builtin; refine wpList_app_came el8 rfl _ _ rfl rfl HC2.out (by omega) hm1 rfl H22.out hne2 wr.heap.size (Nat.le_refl _) (by simp only [maxLen]; omega) (by omega) ?_)
        intro A3 c3 w3 hbs3 hb3
        have H3 : Kp _ := ⟨hbs3⟩
        have hb03 : Below w.heap.size w w3 := hB2.trans (hb3.mono hs)
        have HO3 : Kp _ := ⟨own_below H.out (hbr2.trans hb3)⟩
        have hs3 := hb3.size
        have HA3 : Kp _ := ⟨HA.out.next hb03 (Nat.le_refl _)⟩
        have HTS : Kp (tagsL key lab (k + 1) = tagsL key lab k ++ hmacL key (lab ++ putN (k + 1) 4)) := ⟨rfl⟩
        clear hbs3 H hbr2 hb3 HC2 H22 hB2
        go_wp2_with fail
        refine (reftag_any _ _ _ _ _ _ _ _ _ HA3.out H3.out hm (by omega)).mono ?_
        rintro e w4 ⟨rfl, hb4⟩
        have HO4 : Kp _ := ⟨own_below HO3.out hb4⟩
        have hb04 := below_next hb03 hb4
        have hs4 := hb4.size
        have HL : Kp ((hmacL key (lab ++ putN (k + 1) 4)).length = 32) := ⟨shaL_len _⟩
        clear HO3 HA3 H3 hb03 hb4
        generalize hmacL key (lab ++ putN (k + 1) 4) = D at *
        go_wp2_with fail
        refine (slice_any D HL.out _).mono ?_
        rintro e w5 ⟨v5, rfl, hown5, hb5⟩
        obtain ⟨A5, c5, rfl, hbs5⟩ := Bs.of_own hown5
        have H5 : Kp _ := ⟨hbs5⟩
        have HO5 : Kp _ := ⟨own_below HO4.out hb5⟩
        have hb05 := below_next hb04 hb5
        have hs5 := hb5.size
        clear hown5 hbs5 HO4 hb04 hb5
        go_wp2_with (at_builtin; refine wpList_app el8 rfl _ _ rfl w.heap.size _ (32 * k) (cells8 (tagsL key lab k)) rfl HO5.out A5 32 c5 (cells8 D) rfl (by rw [cells8_length, HL.out]) ?_ H5.out.news (cells8_one _) (by simp only [maxLen]; omega) (by omega) (by omega) ?_)
        · exact fun h => absurd (H5.out.nil h) (by have := H5.out.cap; omega)
        intro v6 w6 hown6 hg6 _
        have hb6 : Below w.heap.size w5 w6 := below_of_grown HO5.out (by omega) hg6
        rw [← cells8_append, ← HTS.out] at hown6
        have H6 : Hid (w6.ownsRow w.heap.size 5 1 v6 (32 * (k + 1)) (cells8 (tagsL key lab (k + 1)))) := hown6
        have hb06 := hb05.trans hb6
        clear hown6 hg6 HO5 H5 hb05 hb6 HTS
        go_wp2
        go_roundw
        case rel => exact ⟨k + 1, by rw [HN.out]; omega, by go_num, H6, hb06⟩
        case measure => simp [intOf]; omega
      · have hk32 : clipN 1024 ≤ 32 * k := by rw [HN.out]; omega
        have HT : Kp _ := ⟨tags_any key lab 1024 k hk32⟩
        obtain ⟨A', c', e', hbs⟩ := Bs.of_own H.out
        cases e'
        rw [HN.out] at hk32 HT
        go_wp2_with (with_reducible refine wpList_cut_h (o := ⟨some 34, _, _, _, _, _⟩) el8 rfl _ _ rfl rfl hbs _ _ 1024 rfl (by omega) (by omega) ?_)
        intro A4 h4
        have H4 : Kp (Bs wr wr.heap.size A4 1024 ck (deriveL key lab 1024)) := ⟨by rw [← HT.out]; exact h4⟩
        go_wp2
        go_ret
        exact ⟨A4, ck, by rw [HN.out]; rfl, by rw [HN.out]; exact H4.out, hB⟩
  · have HN : Kp (clipN n = 1024) := ⟨by unfold clipN; omega⟩
    go_wp2_with fail
    go_loopw [7, 8] (fun v i wr => ∃ k : Nat, 32 * k ≤ clipN n + 31 ∧ i = .int .i64 ((k : Int) + 1) ∧ Hid (wr.ownsRow w.heap.size 5 1 v (32 * k) (cells8 (tagsL key lab k))) ∧ Below w.heap.size w wr) (fun _ i _ => (1025 - intOf i).toNat)
    case atStart => exact ⟨0, by omega, rfl, own_nil _ _ _, Below.refl _ _⟩
    case round =>
      obtain ⟨k, hk, rfl, H, hB⟩ := hrel
      have hNle := HNle.out
      have hs := hB.size
      obtain ⟨Ak, ck, rfl, _⟩ := own_form H.out
      by_cases hlt : (32 : Int) * (k : Int) < 1024
      · go_wp2_with (with_reducible refine wpList_bytesOf (o := ⟨some 20, _, _, _, _, _⟩) (l := lab) (by kernel_rfl) el8.ty (by kernel_rfl) rfl _ rfl rfl (by simp only [maxLen]; omega) ?_)
        intro c1 w1 hc1 hm1 hb1 hz1
        have HC1 : Kp _ := ⟨hc1⟩
        have hB1 := below_next hB hb1
        have hk1 : k + 1 < 18446744073709551616 := by omega
        clear hc1
        go_wp2_with fail
        refine ((refput4 (k + 1) _ hk1) : Calls _ _ #[.int .u64 ((k : Int) + 1), _] _ _).mono ?_
        rintro e w2 ⟨A2, c2, rfl, hne2, hbs2, hb2⟩
        have HC2 : Kp _ := ⟨Came.below HC1.out hb2 (by omega)⟩
        have H22 : Kp _ := ⟨hbs2⟩
        have hB2 := below_next hB1 hb2
        have hs2 := hb2.size
        have hbr2 : Below wr.heap.size wr w2 := below_next hb1 hb2
        clear hbs2 HC1 hb1 hb2 hB1
        go_wp2_with (at_builtin; refine wpList_app_came el8 rfl _ _ rfl rfl HC2.out (by omega) hm1 rfl H22.out hne2 wr.heap.size (Nat.le_refl _) (by simp only [maxLen]; omega) (by omega) ?_)
        intro A3 c3 w3 hbs3 hb3
        have H3 : Kp _ := ⟨hbs3⟩
        have hb03 : Below w.heap.size w w3 := hB2.trans (hb3.mono hs)
        have HO3 : Kp _ := ⟨own_below H.out (hbr2.trans hb3)⟩
        have hs3 := hb3.size
        have HA3 : Kp _ := ⟨HA.out.next hb03 (Nat.le_refl _)⟩
        have HTS : Kp (tagsL key lab (k + 1) = tagsL key lab k ++ hmacL key (lab ++ putN (k + 1) 4)) := ⟨rfl⟩
        clear hbs3 H hbr2 hb3 HC2 H22 hB2
        go_wp2_with fail
        refine (reftag_any _ _ _ _ _ _ _ _ _ HA3.out H3.out hm (by omega)).mono ?_
        rintro e w4 ⟨rfl, hb4⟩
        have HO4 : Kp _ := ⟨own_below HO3.out hb4⟩
        have hb04 := below_next hb03 hb4
        have hs4 := hb4.size
        have HL : Kp ((hmacL key (lab ++ putN (k + 1) 4)).length = 32) := ⟨shaL_len _⟩
        clear HO3 HA3 H3 hb03 hb4
        generalize hmacL key (lab ++ putN (k + 1) 4) = D at *
        go_wp2_with fail
        refine (slice_any D HL.out _).mono ?_
        rintro e w5 ⟨v5, rfl, hown5, hb5⟩
        obtain ⟨A5, c5, rfl, hbs5⟩ := Bs.of_own hown5
        have H5 : Kp _ := ⟨hbs5⟩
        have HO5 : Kp _ := ⟨own_below HO4.out hb5⟩
        have hb05 := below_next hb04 hb5
        have hs5 := hb5.size
        clear hown5 hbs5 HO4 hb04 hb5
        go_wp2_with (at_builtin; refine wpList_app el8 rfl _ _ rfl w.heap.size _ (32 * k) (cells8 (tagsL key lab k)) rfl HO5.out A5 32 c5 (cells8 D) rfl (by rw [cells8_length, HL.out]) ?_ H5.out.news (cells8_one _) (by simp only [maxLen]; omega) (by omega) (by omega) ?_)
        · exact fun h => absurd (H5.out.nil h) (by have := H5.out.cap; omega)
        intro v6 w6 hown6 hg6 _
        have hb6 : Below w.heap.size w5 w6 := below_of_grown HO5.out (by omega) hg6
        rw [← cells8_append, ← HTS.out] at hown6
        have H6 : Hid (w6.ownsRow w.heap.size 5 1 v6 (32 * (k + 1)) (cells8 (tagsL key lab (k + 1)))) := hown6
        have hb06 := hb05.trans hb6
        clear hown6 hg6 HO5 H5 hb05 hb6 HTS
        go_wp2
        go_roundw
        case rel => exact ⟨k + 1, by rw [HN.out]; omega, by go_num, H6, hb06⟩
        case measure => simp [intOf]; omega
      · have hk32 : clipN n ≤ 32 * k := by rw [HN.out]; omega
        have HT : Kp _ := ⟨tags_any key lab n k hk32⟩
        obtain ⟨A', c', e', hbs⟩ := Bs.of_own H.out
        cases e'
        rw [HN.out] at hk32 HT
        go_wp2_with (with_reducible refine wpList_cut_h (o := ⟨some 34, _, _, _, _, _⟩) el8 rfl _ _ rfl rfl hbs _ _ 1024 rfl (by omega) (by omega) ?_)
        intro A4 h4
        have H4 : Kp (Bs wr wr.heap.size A4 1024 ck (deriveL key lab n)) := ⟨by rw [← HT.out]; exact h4⟩
        go_wp2
        go_ret
        exact ⟨A4, ck, by rw [HN.out]; rfl, by rw [HN.out]; exact H4.out, hB⟩
end Go.Proofs.Ytnpodomdagodbaa
