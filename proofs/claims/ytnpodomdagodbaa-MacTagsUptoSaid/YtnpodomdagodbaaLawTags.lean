/- The walk of MacTags. -/
import Derived.Test.YtnpodomdagodbaaKnown3
import Derived.Test.YtnpodomdagodbaaR1Join
import Derived.Test.YtnpodomdagodbaaHeld
import Derived.Test.YtnpodomdagodbaaSame
namespace Go.Proofs.Ytnpodomdagodbaa
open Go.RowKit

set_option maxRecDepth 100000 in
set_option maxHeartbeats 4000000 in
theorem walk_macTags (A : Option Addr) (n c : Nat) (key : List UInt8) (B : Option Addr) (m d : Nat) (ls : List (List UInt8)) (T : Option Addr) (p q : Nat) (tag : List UInt8) (w : World)
    (ha : Bs w w.heap.size A n c key) (hb : Ls w w.heap.size B m d ls) (ht : Bs w w.heap.size T p q tag) (_hm : m ≤ 1048576) (hf : ls.flatten.length ≤ 1048576) :
    Calls Try.prog 9 #[.slice A n c, .slice B m d, .slice T p q] w fun e w' => e = .returned (.bool true) ∧ Below w.heap.size w w' := by
  have hn63 := ha.le
  have hp63 := ht.le
  have HA : Kp _ := ⟨ha⟩
  have HB : Kp _ := ⟨hb⟩
  have HT : Kp _ := ⟨ht⟩
  have HF : Kp _ := ⟨hf⟩
  clear ha hb ht hf
  go_enter Try.func9, Try.ntmps9
  go_wp2_with fail
  refine (refjoin_any B m d ls w HB.out (by have := HF.out; omega)).mono ?_
  rintro e w1 ⟨v1, rfl, hown1, hB1⟩
  obtain ⟨A1, c1, rfl, hbs1⟩ := Bs.of_own hown1
  have HJ1 : Kp _ := ⟨hbs1⟩
  have HA1 : Kp _ := ⟨HA.out.next hB1 (Nat.le_refl _)⟩
  have HB1 : Kp _ := ⟨HB.out.next hB1 (Nat.le_refl _)⟩
  have HT1 : Kp _ := ⟨HT.out.next hB1 (Nat.le_refl _)⟩
  clear hown1 hbs1 HA HB HT
  obtain ⟨f, hfl⟩ : ∃ f, f = ls.flatten.length := ⟨_, rfl⟩
  have HFl : Kp _ := ⟨hfl⟩
  rw [← hfl] at HJ1 ⊢
  clear hfl
  by_cases h300 : (300 : Int) < n
  · go_wp2_with fail
    refine (known3_any _).mono ?_
    rintro e w2 ⟨rfl, hB2⟩
    have hB := below_next hB1 hB2
    go_wp2
    go_ret
    exact ⟨rfl, hB⟩
  have dh300 := decide_eq_false h300
  by_cases h1000 : (1000 : Int) < f
  · go_wp2_with fail
    refine (known3_any _).mono ?_
    rintro e w2 ⟨rfl, hB2⟩
    have hB := below_next hB1 hB2
    go_wp2
    go_ret
    exact ⟨rfl, hB⟩
  have dh1000 := decide_eq_false h1000
  by_cases h50 : (50 : Int) < m
  · go_wp2_with fail
    refine (known3_any _).mono ?_
    rintro e w2 ⟨rfl, hB2⟩
    have hB := below_next hB1 hB2
    go_wp2
    go_ret
    exact ⟨rfl, hB⟩
  have dh50 := decide_eq_false h50
  by_cases h100 : (100 : Int) < p
  · go_wp2_with fail
    refine (known3_any _).mono ?_
    rintro e w2 ⟨rfl, hB2⟩
    have hB := below_next hB1 hB2
    go_wp2
    go_ret
    exact ⟨rfl, hB⟩
  have dh100 := decide_eq_false h100
  have hn3 : n ≤ 300 := by omega
  have HF3 : Kp (ls.flatten.length ≤ 1000) := ⟨by rw [← HFl.out]; omega⟩
  go_wp2_with fail
  refine (reftag_any _ _ _ _ _ _ _ _ w1 HA1.out HJ1.out (by omega) (by omega)).mono ?_
  rintro e w2 ⟨rfl, hB2⟩
  have HA2 : Kp _ := ⟨HA1.out.next hB2 (Nat.le_refl _)⟩
  have HB2 : Kp _ := ⟨HB1.out.next hB2 (Nat.le_refl _)⟩
  have HT2 : Kp _ := ⟨HT1.out.next hB2 (Nat.le_refl _)⟩
  have hB02 := below_next hB1 hB2
  have HDL : Kp _ := ⟨hmacL_length key ls.flatten⟩
  generalize hD : hmacL key ls.flatten = D at *
  have HD : Kp _ := ⟨hD⟩
  have heq := eql_self D HDL.out
  have HD32 : Kp ((cells8 D).length = 32) := ⟨by rw [cells8_length, HDL.out]⟩
  have HZ32 : Kp (zero32.length = 32) := ⟨rfl⟩
  clear hD HA1 HB1 HT1 HJ1 hB1 hB2
  go_wp2_with (with_reducible refine wpList_alloc (o := ⟨some 8, _, _, _, _, _⟩) tyDig rfl rfl ?_)
  intro w3 hk3 hb3 hs3
  have HK3 : Kp _ := ⟨hk3⟩
  clear hk3
  go_wp2_with (with_reducible refine wpList_storeAll (o := ⟨none, _, _, _, _, _⟩) (vs := cells8 D) rwDig rfl (.tmp 8) (.tmp 32) rfl rfl HK3.out HZ32.out HD32.out (cells8_one _) rfl ?_)
  intro w4 hk4 ho4
  obtain ⟨g, hg⟩ : ∃ g, g = w2.heap.size := ⟨_, rfl⟩
  have hb24 : Below w2.heap.size w2 w4 := hb3.trans (ho4.below (Nat.le_refl _))
  have HRG : Kp (w4.rangeAt g 0 (cells8 D)) := ⟨by rw [hg]; exact hk4.range (n := 32) (by rw [List.drop_zero, List.take_of_length_le (by rw [HD32.out]; exact Nat.le_refl _)])⟩
  have hgl : g < w4.heap.size := by rw [hg]; exact hk4.lt
  have HA4 : Kp _ := ⟨HA2.out.next hb24 (Nat.le_refl _)⟩
  have HB4 : Kp _ := ⟨HB2.out.next hb24 (Nat.le_refl _)⟩
  have HT4 : Kp _ := ⟨HT2.out.next hb24 (Nat.le_refl _)⟩
  have hB04 := below_next hB02 hb24
  rw [← hg]
  have C1 : Kp (∀ W, Below w4.heap.size w4 W → Calls Try.prog 25 #[.slice A n c, .slice B m d] W fun e w' => e = .returned (.agg (cells8 D).toArray) ∧ Below W.heap.size W w') := ⟨fun W hW => by
    have h := tag_any A n c key B m d ls W (HA4.out.next hW (Nat.le_refl _)) (HB4.out.next hW (Nat.le_refl _)) (by omega) (by have := HF3.out; omega)
    rw [HD.out] at h
    exact h⟩
  have C2 : Kp (∀ W, Below w4.heap.size w4 W → Calls Try.prog 26 #[.slice A n c, .slice T p q, .slice B m d] W fun e w' => e = .returned (.bool (tag == D)) ∧ Below W.heap.size W w') := ⟨fun W hW => by
    have h := check_any A n c key T p q tag B m d ls W (HA4.out.next hW (Nat.le_refl _)) (HT4.out.next hW (Nat.le_refl _)) (HB4.out.next hW (Nat.le_refl _)) (by omega) (by have := HF3.out; omega)
    rw [HD.out] at h
    exact h⟩
  have CT : Kp (∀ W, Below w4.heap.size w4 W → Bs W W.heap.size T p q tag) := ⟨fun W hW => HT4.out.next hW (Nat.le_refl _)⟩
  have hu : (Try.prog).underlying 27 = some (.array 32 5) := rwDig.ty
  have hi32 : ((Try.prog).info? 27).map (·.size) = some (cells8 D).length := by rw [HD32.out]; exact rwDig.size
  clear hk4 ho4 HK3 hb3 hs3 hg hb24 HA2 HB2 HT2 hB02 HA4 HB4 HT4 HF HFl
  go_wp2_with fail
  refine wp_region_held_drew (S := fun W => Below w4.heap.size w4 W ∧ W.rangeAt g 0 (cells8 D)) (by kernel_rfl) (⟨(Below.refl _ _).drew, HRG.out⟩) (fun hHeld => ?_)
  generalize w4.drew = wS at *
  refine wpAnyH_take (i := 0) (oi := ⟨some 33, _, _, _, _, _⟩) (v := ?_) rfl (by kernel_rfl) (by kernel_rfl) (by kernel_rfl) (fun _ _ _ h => h) (Or.inl ⟨by rfl, by intro w hSw; go_simp; try rfl⟩) (by assumption) ?_
  try simp only [Act.put, List.setIfInBounds_toArray, List.set_cons_zero, List.set_cons_succ]
  refine wpAnyH_take (i := 1) (oi := ⟨some 34, _, _, _, _, _⟩) (v := ?_) rfl (by kernel_rfl) (by kernel_rfl) (by kernel_rfl) (fun _ _ _ h => h) (Or.inl ⟨by rfl, by intro w hSw; go_simp; try rfl⟩) (by assumption) ?_
  try simp only [Act.put, List.setIfInBounds_toArray, List.set_cons_zero, List.set_cons_succ]
  refine wpAnyH_take (i := 3) (oi := ⟨some 36, _, _, _, _, _⟩) (v := _) rfl (by kernel_rfl) (by kernel_rfl) (by kernel_rfl) (fun _ _ _ h => h) (yieldsIf_load_mid (by rfl) _ (.tmp 8) rfl _ _ rfl (cells8 D) _ (fun W hW => hW.2) hu rfl hi32) (by assumption) ?_
  try simp only [Act.put, List.setIfInBounds_toArray, List.set_cons_zero, List.set_cons_succ]
  refine wpAnyH_ready (rs := [2]) (by kernel_rfl) (by simp) ?_
  refine AllReadyH.cons (o := ⟨some 35, _, _, _, _, _⟩) rfl (fun K hK => ?_) AllReadyH.nil
  go_simp
  refine (C1.out _ hHeld.1).mono ?_
  rintro e w51 ⟨rfl, hb'⟩
  refine hK.out _ _ (keep_call hHeld hgl hb') (fun hHeld2 => ?_)
  clear hK K hb' hHeld
  have hHeld := hHeld2
  clear hHeld2
  try simp only [Act.put, List.setIfInBounds_toArray, List.set_cons_zero, List.set_cons_succ]
  refine wpAnyH_take (i := 4) (oi := ⟨some 37, _, _, _, _, _⟩) (v := _) rfl (by kernel_rfl) (by kernel_rfl) (by kernel_rfl) (fun _ _ _ h => h) (yieldsIf_eql (by rfl) eqDig Try.eqGuardType27 (.tmp 35) (.tmp 36) rfl D D rfl rfl HDL.out HDL.out (beq_self_eq_true D)) (by assumption) ?_
  try simp only [Act.put, List.setIfInBounds_toArray, List.set_cons_zero, List.set_cons_succ]
  refine wpAnyH_take (i := 5) (oi := ⟨some 38, _, _, _, _, _⟩) (v := ?_) rfl (by kernel_rfl) (by kernel_rfl) (by kernel_rfl) (fun _ _ _ h => h) (Or.inl ⟨by rfl, by intro w hSw; go_simp; try rfl⟩) (by assumption) ?_
  try simp only [Act.put, List.setIfInBounds_toArray, List.set_cons_zero, List.set_cons_succ]
  refine wpAnyH_take (i := 6) (oi := ⟨some 39, _, _, _, _, _⟩) (v := ?_) rfl (by kernel_rfl) (by kernel_rfl) (by kernel_rfl) (fun _ _ _ h => h) (Or.inl ⟨by rfl, by intro w hSw; go_simp; try rfl⟩) (by assumption) ?_
  try simp only [Act.put, List.setIfInBounds_toArray, List.set_cons_zero, List.set_cons_succ]
  refine wpAnyH_take (i := 7) (oi := ⟨some 40, _, _, _, _, _⟩) (v := ?_) rfl (by kernel_rfl) (by kernel_rfl) (by kernel_rfl) (fun _ _ _ h => h) (Or.inl ⟨by rfl, by intro w hSw; go_simp; try rfl⟩) (by assumption) ?_
  try simp only [Act.put, List.setIfInBounds_toArray, List.set_cons_zero, List.set_cons_succ]
  refine wpAnyH_take (i := 8) (oi := ⟨some 41, _, _, _, _, _⟩) (v := ?_) rfl (by kernel_rfl) (by kernel_rfl) (by kernel_rfl) (fun _ _ _ h => h) (Or.inl ⟨by rfl, by intro w hSw; go_simp; try rfl⟩) (by assumption) ?_
  try simp only [Act.put, List.setIfInBounds_toArray, List.set_cons_zero, List.set_cons_succ]
  refine wpAnyH_take (i := 10) (oi := ⟨some 43, _, _, _, _, _⟩) (v := ?_) rfl (by kernel_rfl) (by kernel_rfl) (by kernel_rfl) (fun _ _ _ h => h) (Or.inl ⟨by rfl, by intro w hSw; go_simp; try rfl⟩) (by assumption) ?_
  try simp only [Act.put, List.setIfInBounds_toArray, List.set_cons_zero, List.set_cons_succ]
  refine wpAnyH_take (i := 11) (oi := ⟨some 44, _, _, _, _, _⟩) (v := _) rfl (by kernel_rfl) (by kernel_rfl) (by kernel_rfl) (fun _ _ _ h => h) (yieldsIf_load_mid (by rfl) _ (.tmp 8) rfl _ _ rfl (cells8 D) _ (fun W hW => hW.2) hu rfl hi32) (by assumption) ?_
  try simp only [Act.put, List.setIfInBounds_toArray, List.set_cons_zero, List.set_cons_succ]
  refine wpAnyH_ready (rs := [9]) (by kernel_rfl) (by simp) ?_
  refine AllReadyH.cons (o := ⟨some 42, _, _, _, _, _⟩) rfl (fun K hK => ?_) AllReadyH.nil
  go_simp
  refine (C2.out _ hHeld.1).mono ?_
  rintro e w52 ⟨rfl, hb'⟩
  refine hK.out _ _ (keep_call hHeld hgl hb') (fun hHeld2 => ?_)
  clear hK K hb' hHeld
  have hHeld := hHeld2
  clear hHeld2
  try simp only [Act.put, List.setIfInBounds_toArray, List.set_cons_zero, List.set_cons_succ]
  refine wpAnyH_ready (rs := [12]) (by kernel_rfl) (by simp) ?_
  refine AllReadyH.cons (o := ⟨some 45, _, _, _, _, _⟩) rfl (fun K hK => ?_) AllReadyH.nil
  go_simp
  refine (slice_any D HDL.out _).mono ?_
  rintro e w53 ⟨v45, rfl, hown, hb'⟩
  obtain ⟨A5, c5, rfl, hbs5⟩ := Bs.of_own hown
  have HS5 : Kp _ := ⟨hbs5⟩
  clear hown hbs5
  refine hK.out _ _ (keep_call hHeld hgl hb') (fun hHeld2 => ?_)
  clear hK K hb' hHeld
  have hHeld := hHeld2
  clear hHeld2
  try simp only [Act.put, List.setIfInBounds_toArray, List.set_cons_zero, List.set_cons_succ]
  refine wpAnyH_ready (rs := [13]) (by kernel_rfl) (by simp) ?_
  refine AllReadyH.cons (o := ⟨some 46, _, _, _, _, _⟩) rfl (fun K hK => ?_) AllReadyH.nil
  go_simp
  refine (same_any _ _ _ _ _ _ tag D _ _ _ (CT.out _ hHeld.1) HS5.out).mono ?_
  rintro e w54 ⟨rfl, hww⟩
  have hb' : Below w53.heap.size w53 w54 := by rw [← hww]; exact Below.refl _ _
  clear hww
  refine hK.out _ _ (keep_call hHeld hgl hb') (fun hHeld2 => ?_)
  clear hK K hb' hHeld
  have hHeld := hHeld2
  clear hHeld2
  try simp only [Act.put, List.setIfInBounds_toArray, List.set_cons_zero, List.set_cons_succ]
  refine wpAnyH_take (i := 14) (oi := ⟨some 47, _, _, _, _, _⟩) (v := ?_) rfl (by kernel_rfl) (by kernel_rfl) (by kernel_rfl) (fun _ _ _ h => h) (Or.inl ⟨by rfl, by intro w hSw; go_simp; try rfl⟩) (by assumption) ?_
  try simp only [Act.put, List.setIfInBounds_toArray, List.set_cons_zero, List.set_cons_succ]
  refine wpAnyH_take (i := 15) (oi := ⟨some 48, _, _, _, _, _⟩) (v := ?_) rfl (by kernel_rfl) (by kernel_rfl) (by kernel_rfl) (fun _ _ _ h => h) (Or.inl ⟨by rfl, by intro w hSw; go_simp; try rfl⟩) (by assumption) ?_
  try simp only [Act.put, List.setIfInBounds_toArray, List.set_cons_zero, List.set_cons_succ]
  refine wpAnyH_take (i := 16) (oi := ⟨some 49, _, _, _, _, _⟩) (v := ?_) rfl (by kernel_rfl) (by kernel_rfl) (by kernel_rfl) (fun _ _ _ h => h) (Or.inl ⟨by rfl, by intro w hSw; go_simp; try rfl⟩) (by assumption) ?_
  try simp only [Act.put, List.setIfInBounds_toArray, List.set_cons_zero, List.set_cons_succ]
  refine wpAnyH_ready (rs := [17]) (by kernel_rfl) (by simp) ?_
  refine AllReadyH.cons (o := ⟨some 50, _, _, _, _, _⟩) rfl (fun K hK => ?_) AllReadyH.nil
  go_simp
  refine (known3_any _).mono ?_
  rintro e w55 ⟨rfl, hb'⟩
  refine hK.out _ _ (keep_call hHeld hgl hb') (fun hHeld2 => ?_)
  clear hK K hb' hHeld
  have hHeld := hHeld2
  clear hHeld2
  try simp only [Act.put, List.setIfInBounds_toArray, List.set_cons_zero, List.set_cons_succ]
  refine wpAnyH_take (i := 18) (oi := ⟨some 51, _, _, _, _, _⟩) (v := ?_) rfl (by kernel_rfl) (by kernel_rfl) (by kernel_rfl) (fun _ _ _ h => h) (Or.inl ⟨by rfl, by intro w hSw; go_simp; try rfl⟩) (by assumption) ?_
  try simp only [Act.put, List.setIfInBounds_toArray, List.set_cons_zero, List.set_cons_succ]
  refine wpAnyH_take (i := 19) (oi := ⟨some 6, _, _, _, _, _⟩) (v := ?_) rfl (by kernel_rfl) (by kernel_rfl) (by kernel_rfl) (fun _ _ _ h => h) (Or.inl ⟨by rfl, by intro w hSw; go_simp; try rfl⟩) (by assumption) ?_
  try simp only [Act.put, List.setIfInBounds_toArray, List.set_cons_zero, List.set_cons_succ]
  refine wpAnyH_done (by kernel_rfl) ?_ _
  go_wp2
  go_ret
  exact ⟨rfl, hB04.trans (hHeld.1.mono hB04.size)⟩

theorem law_macTags (A : Option Addr) (n c : Nat) (key : List UInt8) (B : Option Addr) (m d : Nat) (ls : List (List UInt8)) (T : Option Addr) (p q : Nat) (tag : List UInt8) (w : World)
    (ha : Bs w w.heap.size A n c key) (hb : Ls w w.heap.size B m d ls) (ht : Bs w w.heap.size T p q tag) (hm : m ≤ 1048576) (hf : ls.flatten.length ≤ 1048576) :
    Calls Try.prog 9 #[.slice A n c, .slice B m d, .slice T p q] w fun e w' => e = .returned (.bool true) ∧ Below w.heap.size w w' :=
  walk_macTags A n c key B m d ls T p q tag w ha hb ht hm hf
end Go.Proofs.Ytnpodomdagodbaa
