/- The walk of MacParts. -/
import Derived.Test.YtnpodomdagodbaaParts3
namespace Go.Proofs.Ytnpodomdagodbaa
open Go.RowKit

set_option maxRecDepth 100000 in
set_option maxHeartbeats 4000000 in
theorem walk_macParts (A : Option Addr) (m c : Nat) (key : List UInt8) (lab : List UInt8) (x : Int) (w : World) (ha : Bs w w.heap.size A m c key) (hx : (Lit.int .u8 x).wf = true) :
    Calls Try.prog 14 #[.slice A m c, .string ⟨lab.toArray⟩, .int .u8 x] w fun e w' => e = .returned (.bool true) ∧ Below w.heap.size w w' := by
  have hxb : 0 ≤ x ∧ x ≤ 255 := by simpa [Lit.wf, IntKind.min, IntKind.max, IntKind.signed, IntKind.bits] using hx
  obtain ⟨X, rfl⟩ := Int.eq_ofNat_of_zero_le hxb.1
  obtain ⟨r, hr⟩ : ∃ r, r = X % 5 := ⟨_, rfl⟩
  have hX : X ≤ 255 := by omega
  have hmod : (X : Int) % 5 = (r : Int) := by omega
  have hr4 : r ≤ 4 := by omega
  have hm63 := ha.le
  have HA : Kp _ := ⟨ha⟩
  clear ha hx hxb hr
  have hsz : (⟨lab.toArray⟩ : ByteArray).size = lab.length := by simp [ByteArray.size]
  by_cases h200 : (100 : Int) < m
  · go_enter Try.func14, Try.ntmps14
    go_wp2_with fail
    refine (known3_any _).mono ?_
    rintro e w1 ⟨rfl, hB1⟩
    go_wp2
    go_ret
    exact ⟨rfl, hB1⟩
  by_cases h100 : (60 : Int) < lab.length
  · go_enter Try.func14, Try.ntmps14
    go_wp2_with fail
    refine (known3_any _).mono ?_
    rintro e w1 ⟨rfl, hB1⟩
    go_wp2
    go_ret
    exact ⟨rfl, hB1⟩
  have HLab : Kp (lab.length ≤ 60) := ⟨by omega⟩
  go_enter Try.func14, Try.ntmps14
  go_wp2_with fail
  have hd := derive_mid A m c key lab (32 * (r + 1)) w HA.out (by omega) (by omega) (by omega)
  rw [deriveL_tags key lab (r + 1) (by omega), show ((32 * (r + 1) : Nat) : Int) = 32 * (1 + (r : Int)) by omega] at hd
  refine hd.mono ?_
  clear hd
  rintro e w1 ⟨A1, c1, rfl, hbs1, hB1⟩
  obtain ⟨N, hN⟩ : ∃ N, N = 32 * (r + 1) := ⟨_, rfl⟩
  rw [← hN] at hbs1 ⊢
  have hNi : (N : Int) = 32 * (1 + (r : Int)) := by omega
  have HNi : Kp _ := ⟨hNi⟩
  obtain ⟨i, hi⟩ : ∃ i, i = 32 * r := ⟨_, rfl⟩
  have hw1 : IntKind.i64.wrap (32 * (1 + (r : Int))) = (N : Int) := by rw [IntKind.wrap_i64]; omega
  have hw2 : IntKind.i64.wrap ((N : Int) - 32) = (i : Int) := by rw [IntKind.wrap_i64]; omega
  have HI : Kp _ := ⟨hi⟩
  have hrN : i ≤ N := by omega
  have hN32 : 32 ≤ N := by omega
  have HX1 : Kp _ := ⟨hbs1⟩
  clear hbs1 hN hNi hi
  go_wp2_with (with_reducible refine wpList_bytesOf (o := ⟨some 30, _, _, _, _, _⟩) (l := lab) (by kernel_rfl) el8.ty (by kernel_rfl) rfl _ rfl rfl (by simp only [maxLen]; omega) ?_)
  intro c2 w2 hc2 hm2 hb2 hz2
  have HL2 : Kp _ := ⟨Came.bs hc2 (by omega) hm2⟩
  have hB2 := below_next hB1 hb2
  have HX2 : Kp _ := ⟨HX1.out.next hb2 (Nat.le_refl _)⟩
  clear hc2 HX1 hb2 hz2 hB1
  go_wp2_with fail
  have HP3 : Kp _ := ⟨lit_bs w2 5 (0, 0) (putN (r + 1) 4) #[.int .u8 0, .int .u8 0, .int .u8 0, .int .u8 (1 + (r : Int))] (by rw [putN_small r hr4]) 4 (putN_length _ _) (by decide)⟩
  have hb3 : Below w2.heap.size w2 (w2.alloc (.cells #[.int .u8 0, .int .u8 0, .int .u8 0, .int .u8 (1 + (r : Int))] 5)) := (Below.refl _ _).alloc (Nat.le_refl _) _
  have hs3 : (w2.alloc (.cells #[.int .u8 0, .int .u8 0, .int .u8 0, .int .u8 (1 + (r : Int))] 5)).heap.size = w2.heap.size + 1 := by simp
  rw [← hs3] at HP3 ⊢
  obtain ⟨w3, hw3⟩ : ∃ x, x = w2.alloc (.cells #[.int .u8 0, .int .u8 0, .int .u8 0, .int .u8 (1 + (r : Int))] 5) := ⟨_, rfl⟩
  rw [← hw3] at HP3 hb3 ⊢
  clear hw3 hs3
  have hB3 := below_next hB2 hb3
  have HL3 : Kp _ := ⟨HL2.out.next hb3 (Nat.le_refl _)⟩
  have HX3 : Kp _ := ⟨HX2.out.next hb3 (Nat.le_refl _)⟩
  have HA3 : Kp _ := ⟨HA.out.next hB3 (Nat.le_refl _)⟩
  refine (tag2 A m c key _ _ c2 lab _ 4 4 (putN (r + 1) 4) w3 23 HA3.out HL3.out HP3.out (by omega) (by rw [putN_length]; have := HLab.out; omega)).mono ?_
  rintro e w4 ⟨rfl, hb4⟩
  have HX4 : Kp _ := ⟨HX3.out.next hb4 (Nat.le_refl _)⟩
  have hB4 := below_next hB3 hb4
  have HLast : Kp ((tagsL key lab (r + 1)).drop i = hmacL key (lab ++ putN (r + 1) 4)) := ⟨by rw [HI.out]; exact tagsL_last key lab r⟩
  have HFirst : Kp _ := ⟨tagsL_first key lab r⟩
  have HDL : Kp _ := ⟨hmacL_length key (lab ++ putN (r + 1) 4)⟩
  generalize hD : hmacL key (lab ++ putN (r + 1) 4) = D at *
  have HD32 : Kp ((cells8 D).length = 32) := ⟨by rw [cells8_length, HDL.out]⟩
  have HZ32 : Kp (zero32.length = 32) := ⟨rfl⟩
  clear hD HP3 HL3 HX3 HA3 HL2 HX2 hB2 hb3 hB3 hb4
  go_wp2_with (with_reducible refine wpList_alloc (o := ⟨some 9, _, _, _, _, _⟩) tyDig rfl rfl ?_)
  intro w5 hk5 hb5 hs5
  have HK5 : Kp _ := ⟨hk5⟩
  clear hk5
  go_wp2_with (with_reducible refine wpList_storeAll (o := ⟨none, _, _, _, _, _⟩) (vs := cells8 D) rwDig rfl (.tmp 9) (.tmp 35) rfl rfl HK5.out HZ32.out HD32.out (cells8_one _) rfl ?_)
  intro w6 hk6 ho6
  obtain ⟨g, hg⟩ : ∃ g, g = w4.heap.size := ⟨_, rfl⟩
  have hb46 : Below w4.heap.size w4 w6 := hb5.trans (ho6.below (Nat.le_refl _))
  have HRG6 : Kp (w6.rangeAt g 0 (cells8 D)) := ⟨by rw [hg]; exact hk6.range (n := 32) (by rw [List.drop_zero, List.take_of_length_le (by rw [HD32.out]; exact Nat.le_refl _)])⟩
  have hgl : g < w6.heap.size := by rw [hg]; exact hk6.lt
  have hB06 := below_next hB4 hb46
  have HX6 : Kp _ := ⟨HX4.out.next hb46 (Nat.le_refl _)⟩
  rw [← hg]
  have BX : Kp (∀ W, Below w6.heap.size w6 W → Bs W W.heap.size A1 N c1 (tagsL key lab (r + 1))) := ⟨fun W hW => HX6.out.next hW (Nat.le_refl _)⟩
  have BCut : Kp (∀ W, Below w6.heap.size w6 W → Bs W W.heap.size (if c1 = i then A1 else A1.map (·.add i)) (N - i) (c1 - i) D) := ⟨fun W hW => by
    have hx := BX.out W hW
    have h := hx.cut (i := i) (k := N) hrN (Nat.le_refl _)
    rw [List.take_of_length_le (by rw [hx.len]; exact Nat.le_refl _), HLast.out] at h
    exact h⟩
  generalize hA9 : (if c1 = i then A1 else A1.map (·.add i)) = A9 at BCut
  generalize hN9 : N - i = n9 at BCut
  generalize hC9 : c1 - i = c9 at BCut
  have HA9 : Kp _ := ⟨hA9⟩
  have HN9 : Kp _ := ⟨hN9⟩
  have HC9 : Kp _ := ⟨hC9⟩
  clear hA9 hN9 hC9
  have hu : (Try.prog).underlying 27 = some (.array 32 5) := rwDig.ty
  have hi32 : ((Try.prog).info? 27).map (·.size) = some (cells8 D).length := by rw [HD32.out]; exact rwDig.size
  clear hk6 ho6 HK5 hb5 hs5 hg hb46 HX4 hB4
  go_wp2_with fail
  refine wp_region_held_drew (S := fun W => Below w6.heap.size w6 W ∧ W.rangeAt g 0 (cells8 D)) (by kernel_rfl) (⟨(Below.refl _ _).drew, HRG6.out⟩) (fun hHeld => ?_)
  generalize w6.drew = wS at *
  refine wpAnyH_take (i := 0) (oi := ⟨some 36, _, _, _, _, _⟩) (v := ?_) rfl (by kernel_rfl) (by kernel_rfl) (by kernel_rfl) (fun _ _ _ h => h) (Or.inl ⟨by rfl, by intro w hSw; go_simp; try rfl⟩) (by assumption) ?_
  try simp only [Act.put, List.setIfInBounds_toArray, List.set_cons_zero, List.set_cons_succ]
  refine wpAnyH_take (i := 1) (oi := ⟨some 37, _, _, _, _, _⟩) (v := ?_) rfl (by kernel_rfl) (by kernel_rfl) (by kernel_rfl) (fun _ _ _ h => h) (Or.inl ⟨by rfl, by intro w hSw; go_simp; try rfl⟩) (by assumption) ?_
  try simp only [Act.put, List.setIfInBounds_toArray, List.set_cons_zero, List.set_cons_succ]
  refine wpAnyH_take (i := 2) (oi := ⟨some 38, _, _, _, _, _⟩) (v := ?_) rfl (by kernel_rfl) (by kernel_rfl) (by kernel_rfl) (fun _ _ _ h => h) (Or.inl ⟨by rfl, by intro w hSw; go_simp; try rfl⟩) (by assumption) ?_
  try simp only [Act.put, List.setIfInBounds_toArray, List.set_cons_zero, List.set_cons_succ]
  refine wpAnyH_take (i := 3) (oi := ⟨some 39, _, _, _, _, _⟩) (v := ?_) rfl (by kernel_rfl) (by kernel_rfl) (by kernel_rfl) (fun _ _ _ h => h) (Or.inl ⟨by rfl, by intro w hSw; go_simp; try rfl⟩) (by assumption) ?_
  try simp only [Act.put, List.setIfInBounds_toArray, List.set_cons_zero, List.set_cons_succ]
  refine wpAnyH_take (i := 4) (oi := ⟨some 40, _, _, _, _, _⟩) (v := ?_) rfl (by kernel_rfl) (by kernel_rfl) (by kernel_rfl) (fun _ _ _ h => h) (Or.inl ⟨by rfl, by intro w hSw; go_simp; try rfl⟩) (by assumption) ?_
  try simp only [Act.put, List.setIfInBounds_toArray, List.set_cons_zero, List.set_cons_succ]
  refine wpAnyH_take (i := 5) (oi := ⟨some 41, _, _, _, _, _⟩) (v := ?_) rfl (by kernel_rfl) (by kernel_rfl) (by kernel_rfl) (fun _ _ _ h => h) (Or.inl ⟨by rfl, by intro w hSw; go_simp; try rfl⟩) (by assumption) ?_
  try simp only [Act.put, List.setIfInBounds_toArray, List.set_cons_zero, List.set_cons_succ]
  refine wpAnyH_take (i := 6) (oi := ⟨some 42, _, _, _, _, _⟩) (v := ?_) rfl (by kernel_rfl) (by kernel_rfl) (by kernel_rfl) (fun _ _ _ h => h) (Or.inl ⟨by rfl, by intro w hSw; go_simp; try rfl⟩) (by assumption) ?_
  try simp only [Act.put, List.setIfInBounds_toArray, List.set_cons_zero, List.set_cons_succ]
  refine wpAnyH_take (i := 7) (oi := ⟨some 43, _, _, _, _, _⟩) (v := ?_) rfl (by kernel_rfl) (by kernel_rfl) (by kernel_rfl) (fun _ _ _ h => h) (Or.inl ⟨by rfl, by intro w hSw; go_simp; try rfl⟩) (by assumption) ?_
  try simp only [Act.put, List.setIfInBounds_toArray, List.set_cons_zero, List.set_cons_succ]
  refine wpAnyH_take (i := 8) (oi := ⟨some 44, _, _, _, _, _⟩) (v := ?_) rfl (by kernel_rfl) (by kernel_rfl) (by kernel_rfl) (fun _ _ _ h => h) (Or.inl ⟨by rfl, by intro w hSw; go_simp; try rfl⟩) (by assumption) ?_
  try simp only [Act.put, List.setIfInBounds_toArray, List.set_cons_zero, List.set_cons_succ]
  refine wpAnyH_take (i := 9) (oi := ⟨some 45, _, _, _, _, _⟩) (v := ?_) rfl (by kernel_rfl) (by kernel_rfl) (by kernel_rfl) (fun _ _ _ h => h) (Or.inl ⟨by rfl, by intro w hSw; go_simp; try rfl⟩) (by assumption) ?_
  try simp only [Act.put, List.setIfInBounds_toArray, List.set_cons_zero, List.set_cons_succ]
  refine wpAnyH_take (i := 10) (oi := ⟨some 46, _, _, _, _, _⟩) (v := _) rfl (by kernel_rfl) (by kernel_rfl) (by kernel_rfl) (fun _ _ _ h => h) (yieldsIf_cut_l (by rfl) el8 (.tmp 42) (.tmp 45) rfl rfl rfl i rfl hrN HA9.out HN9.out HC9.out) (by assumption) ?_
  try simp only [Act.put, List.setIfInBounds_toArray, List.set_cons_zero, List.set_cons_succ]
  refine wpAnyH_take (i := 11) (oi := ⟨some 47, _, _, _, _, _⟩) (v := _) rfl (by kernel_rfl) (by kernel_rfl) (by kernel_rfl) (fun _ _ _ h => h) (yieldsIf_load_mid (by rfl) _ (.tmp 9) rfl _ _ rfl (cells8 D) _ (fun W hW => hW.2) hu rfl hi32) (by assumption) ?_
  try simp only [Act.put, List.setIfInBounds_toArray, List.set_cons_zero, List.set_cons_succ]
  refine wpAnyH_ready (rs := [12]) (by kernel_rfl) (by simp) ?_
  refine AllReadyH.cons (o := ⟨some 48, _, _, _, _, _⟩) rfl (fun K hK => ?_) AllReadyH.nil
  go_simp
  refine (slice_any D HDL.out _).mono ?_
  rintro e w61 ⟨v48, rfl, hown, hb'⟩
  obtain ⟨A5, c5, rfl, hbs5⟩ := Bs.of_own hown
  have HS5 : Kp _ := ⟨hbs5⟩
  clear hown hbs5
  refine hK.out _ _ (keep_call hHeld hgl hb') (fun hHeld2 => ?_)
  clear hK K hb' hHeld
  have hHeld := hHeld2
  clear hHeld2
  try simp only [Act.put, List.setIfInBounds_toArray, List.set_cons_zero, List.set_cons_succ]
  refine wpAnyH_ready (rs := [13]) (by kernel_rfl) (by simp) ?_
  refine AllReadyH.cons (o := ⟨some 49, _, _, _, _, _⟩) rfl (fun K hK => ?_) AllReadyH.nil
  go_simp
  refine (same_any _ _ _ _ _ _ D D _ _ _ (BCut.out _ hHeld.1) HS5.out).mono ?_
  rintro e w62 ⟨rfl, hww⟩
  have hb' : Below w61.heap.size w61 w62 := by rw [← hww]; exact Below.refl _ _
  clear hww
  rw [beq_self_eq_true]
  refine hK.out _ _ (keep_call hHeld hgl hb') (fun hHeld2 => ?_)
  clear hK K hb' hHeld
  have hHeld := hHeld2
  clear hHeld2
  try simp only [Act.put, List.setIfInBounds_toArray, List.set_cons_zero, List.set_cons_succ]
  refine wpAnyH_take (i := 14) (oi := ⟨some 50, _, _, _, _, _⟩) (v := ?_) rfl (by kernel_rfl) (by kernel_rfl) (by kernel_rfl) (fun _ _ _ h => h) (Or.inl ⟨by rfl, by intro w hSw; go_simp; try rfl⟩) (by assumption) ?_
  try simp only [Act.put, List.setIfInBounds_toArray, List.set_cons_zero, List.set_cons_succ]
  refine wpAnyH_take (i := 15) (oi := ⟨some 51, _, _, _, _, _⟩) (v := ?_) rfl (by kernel_rfl) (by kernel_rfl) (by kernel_rfl) (fun _ _ _ h => h) (Or.inl ⟨by rfl, by intro w hSw; go_simp; try rfl⟩) (by assumption) ?_
  try simp only [Act.put, List.setIfInBounds_toArray, List.set_cons_zero, List.set_cons_succ]
  refine wpAnyH_done (by kernel_rfl) ?_ _
  have hB07 := below_next hB06 hHeld.1
  have HX7 : Kp _ := ⟨BX.out _ hHeld.1⟩
  obtain ⟨w7, rfl⟩ : ∃ x, x = w62 := ⟨w62, rfl⟩
  clear hHeld BX BCut HRG6 hB06 HX6 hu hi32 HA9 HN9 HC9
  go_wp2_with (with_reducible refine wpList_cut_h (o := ⟨some 54, _, _, _, _, _⟩) el8 rfl _ _ rfl rfl HX7.out _ _ 32 rfl rfl hN32 ?_)
  intro A8 hbs8
  rw [HFirst.out] at hbs8
  have HT7 : Kp _ := ⟨hbs8⟩
  clear hbs8
  go_wp2_with (with_reducible refine wpList_bytesOf (o := ⟨some 56, _, _, _, _, _⟩) (l := lab) (by kernel_rfl) el8.ty (by kernel_rfl) rfl _ rfl rfl (by simp only [maxLen]; omega) ?_)
  intro c8 w8 hc8 hm8 hb8 hz8
  have HL8 : Kp _ := ⟨Came.bs hc8 (by omega) hm8⟩
  have hB08 := below_next hB07 hb8
  have HT8 : Kp _ := ⟨HT7.out.next hb8 (Nat.le_refl _)⟩
  have HX8 : Kp _ := ⟨HX7.out.next hb8 (Nat.le_refl _)⟩
  clear hc8 HX7 HT7 hb8 hz8 hB07
  go_wp2_with fail
  have HP9 : Kp _ := ⟨lit_bs w8 5 (0, 0) (putN 1 4) #[.int .u8 0, .int .u8 0, .int .u8 0, .int .u8 1] rfl 4 rfl (by decide)⟩
  have hb9 : Below w8.heap.size w8 (w8.alloc (.cells #[.int .u8 0, .int .u8 0, .int .u8 0, .int .u8 1] 5)) := (Below.refl _ _).alloc (Nat.le_refl _) _
  have hs9 : (w8.alloc (.cells #[.int .u8 0, .int .u8 0, .int .u8 0, .int .u8 1] 5)).heap.size = w8.heap.size + 1 := by simp
  rw [← hs9] at HP9 ⊢
  obtain ⟨w9, hw9⟩ : ∃ x, x = w8.alloc (.cells #[.int .u8 0, .int .u8 0, .int .u8 0, .int .u8 1] 5) := ⟨_, rfl⟩
  rw [← hw9] at HP9 hb9 ⊢
  clear hw9 hs9
  have hB09 := below_next hB08 hb9
  have HL9 : Kp _ := ⟨HL8.out.next hb9 (Nat.le_refl _)⟩
  have HT9 : Kp _ := ⟨HT8.out.next hb9 (Nat.le_refl _)⟩
  have HX9 : Kp _ := ⟨HX8.out.next hb9 (Nat.le_refl _)⟩
  have HA9 : Kp _ := ⟨HA.out.next hB09 (Nat.le_refl _)⟩
  clear HL8 HT8 HX8 hB08 hb9
  refine (check2 A m c key _ _ _ _ _ _ c8 lab _ 4 4 (putN 1 4) w9 23 HA9.out HT9.out HL9.out HP9.out (by omega) (by rw [putN_length]; have := HLab.out; omega)).mono ?_
  rintro e w10 ⟨rfl, hb10⟩
  rw [beq_self_eq_true]
  have hB010 := below_next hB09 hb10
  have HX10 : Kp _ := ⟨HX9.out.next hb10 (Nat.le_refl _)⟩
  clear HA9 HT9 HL9 HP9 HX9 hB09 hb10
  go_wp2_with (with_reducible refine wpList_cut_h_g (o := ⟨some 63, _, _, _, _, _⟩) el8 (by kernel_rfl) _ _ rfl rfl HX10.out _ _ 31 rfl rfl (by omega) ?_)
  intro A11 hbs11
  have HT10 : Kp _ := ⟨hbs11⟩
  clear hbs11
  go_wp2_with (with_reducible refine wpList_bytesOf_g (o := ⟨some 65, _, _, _, _, _⟩) (l := lab) (by kernel_rfl) el8.ty (by kernel_rfl) (by kernel_rfl) _ rfl rfl (by simp only [maxLen]; omega) ?_)
  intro c11 w11 hc11 hm11 hb11 hz11
  have HL11 : Kp _ := ⟨Came.bs hc11 (by omega) hm11⟩
  have hB011 := below_next hB010 hb11
  have HT11 : Kp _ := ⟨HT10.out.next hb11 (Nat.le_refl _)⟩
  have HX11 : Kp _ := ⟨HX10.out.next hb11 (Nat.le_refl _)⟩
  clear hc11 HX10 HT10 hb11 hz11 hB010
  go_wp2_with fail
  have HP12 : Kp _ := ⟨lit_bs w11 5 (0, 0) (putN 1 4) #[.int .u8 0, .int .u8 0, .int .u8 0, .int .u8 1] rfl 4 rfl (by decide)⟩
  have hb12 : Below w11.heap.size w11 (w11.alloc (.cells #[.int .u8 0, .int .u8 0, .int .u8 0, .int .u8 1] 5)) := (Below.refl _ _).alloc (Nat.le_refl _) _
  have hs12 : (w11.alloc (.cells #[.int .u8 0, .int .u8 0, .int .u8 0, .int .u8 1] 5)).heap.size = w11.heap.size + 1 := by simp
  rw [← hs12] at HP12 ⊢
  obtain ⟨w12, hw12⟩ : ∃ x, x = w11.alloc (.cells #[.int .u8 0, .int .u8 0, .int .u8 0, .int .u8 1] 5) := ⟨_, rfl⟩
  rw [← hw12] at HP12 hb12 ⊢
  clear hw12 hs12
  have hB012 := below_next hB011 hb12
  have HL12 : Kp _ := ⟨HL11.out.next hb12 (Nat.le_refl _)⟩
  have HT12 : Kp _ := ⟨HT11.out.next hb12 (Nat.le_refl _)⟩
  have HX12 : Kp _ := ⟨HX11.out.next hb12 (Nat.le_refl _)⟩
  have HA12 : Kp _ := ⟨HA.out.next hB012 (Nat.le_refl _)⟩
  clear HL11 HT11 HX11 hB011 hb12
  refine (check2 A m c key _ _ _ _ _ _ c11 lab _ 4 4 (putN 1 4) w12 23 HA12.out HT12.out HL12.out HP12.out (by omega) (by rw [putN_length]; have := HLab.out; omega)).mono ?_
  rintro e w13 ⟨rfl, hb13⟩
  have hne : ((tagsL key lab (r + 1)).take 31 == hmacL key (lab ++ putN 1 4)) = false := by
    rw [beq_eq_false_iff_ne]
    intro e
    have h := congrArg List.length e
    rw [hmacL_length, List.length_take] at h
    omega
  rw [hne]
  have hB013 := below_next hB012 hb13
  have HA13 : Kp _ := ⟨HA.out.next hB013 (Nat.le_refl _)⟩
  clear HA12 HT12 HL12 HP12 HX12 hB012 hb13 hne
  go_wp2_with fail
  refine (check0 A m c key none 0 0 [] w13 HA13.out (Bs.zero _ _) (by omega)).mono ?_
  rintro e w14 ⟨rfl, hb14⟩
  have hne : (([] : List UInt8) == hmacL key []) = false := by
    rw [beq_eq_false_iff_ne]
    intro e
    have h := congrArg List.length e
    rw [hmacL_length] at h
    simp at h
  rw [hne]
  have hB014 := below_next hB013 hb14
  clear hne
  go_wp2_with fail
  refine (known3_any _).mono ?_
  rintro e w15 ⟨rfl, hb15⟩
  have hB := below_next hB014 hb15
  go_wp2
  go_ret
  exact ⟨rfl, hB⟩

theorem law_macParts (A : Option Addr) (m c : Nat) (key : List UInt8) (s : ByteArray) (x : Int) (w : World) (ha : Bs w w.heap.size A m c key ∧ c ≤ 140737488351232) (_hs : s.size ≤ maxLen) (hx : (Lit.int .u8 x).wf = true) :
    Calls Try.prog 14 #[.slice A m c, .string s, .int .u8 x] w fun e w' => e = .returned (.bool true) ∧ Below w.heap.size w w' := by
  obtain ⟨⟨l⟩⟩ := s
  exact walk_macParts A m c key l x w ha.1 hx
end Go.Proofs.Ytnpodomdagodbaa
