/- The walk of SumLess. -/
import Derived.Test.YtjllfaeamjadcaaSumEq
namespace Go.Proofs.Ytjllfaeamjadcaa
open Go.RowKit

theorem less_zero (a : List UInt8) : lessL a z32 = false := lessL_false (by rw [z32_val]; exact Nat.not_lt_zero _)
theorem most_val : getN (ffL 32) + 1 = 256 ^ 32 := by decide +kernel
theorem most_less {a : List UInt8} (ha : a.length = 32) : lessL (ffL 32) a = false := lessL_false (by
  have h := getN_lt32 ha
  have h2 := most_val
  intro h3
  exact absurd (Nat.lt_of_lt_of_le h (by rw [← h2]; exact h3)) (Nat.lt_irrefl _))
set_option maxRecDepth 100000 in
set_option maxHeartbeats 4000000 in
theorem walk_sumLess_0 (a b c : List UInt8) (w : World) (ha : a.length = 32) (hb : b.length = 32) (hc : c.length = 32) (hp : lessL a b = false) : Calls Try.prog 8 #[.agg (cells8 a).toArray, .agg (cells8 b).toArray, .agg (cells8 c).toArray] w fun e w' => e = .returned (.bool true) ∧ Below w.heap.size w w' := by
  have Hal : Kp _ := ⟨ha⟩
  have Hbl : Kp _ := ⟨hb⟩
  have Hcl : Kp _ := ⟨hc⟩
  have HLa : Kp ((cells8 a).length = 32) := ⟨by rw [cells8_length]; exact ha⟩
  have HLb : Kp ((cells8 b).length = 32) := ⟨by rw [cells8_length]; exact hb⟩
  have HLc : Kp ((cells8 c).length = 32) := ⟨by rw [cells8_length]; exact hc⟩
  obtain ⟨Z, hZ⟩ : ∃ x, x = z32 := ⟨_, rfl⟩
  have HZl : Kp (Z.length = 32) := ⟨by rw [hZ]; exact z32_length⟩
  have HLZ : Kp ((cells8 Z).length = 32) := ⟨by rw [cells8_length]; exact HZl.out⟩
  obtain ⟨U, hU⟩ : ∃ x, x = oneL := ⟨_, rfl⟩
  have HUl : Kp (U.length = 32) := ⟨by rw [hU]; exact by decide⟩
  have HLU : Kp ((cells8 U).length = 32) := ⟨by rw [cells8_length]; exact HUl.out⟩
  obtain ⟨F, hF⟩ : ∃ x, x = ffL 32 := ⟨_, rfl⟩
  have HFl : Kp (F.length = 32) := ⟨by rw [hF]; exact by decide⟩
  have HLF : Kp ((cells8 F).length = 32) := ⟨by rw [cells8_length]; exact HFl.out⟩
  have HB0 : Kp ((Try.prog).built 23 [] = some (cells8 Z).toArray) := ⟨by rw [hZ]; exact dig_built0⟩
  have HZz : Kp (zero32.length = 32) := ⟨rfl⟩
  have HUs : Kp ((cells8 Z).set 31 (.int .u8 1) = cells8 U) := ⟨by rw [hU, hZ]; exact cells8_set' z32 31 1⟩
  have hc31 : (cells8 Z)[31]? = some (.int .u8 0) := by rw [hZ, cells8_at z32 31 (by decide)]; rfl
  have CP : Kp (∀ W, Calls Try.prog 14 #[.agg (cells8 a).toArray, .agg (cells8 b).toArray] W fun e w' => e = .returned (.bool false) ∧ Below W.heap.size W w') := ⟨fun W => by
    have h := less_any a b W Hal.out Hbl.out
    rw [show lessL a b = false by exact hp] at h; exact h⟩
  have C1 : Kp (∀ W, Calls Try.prog 12 #[.agg (cells8 Z).toArray, .agg (cells8 U).toArray] W fun e w' => e = .returned (.agg (cells8 F).toArray) ∧ Below W.heap.size W w') := ⟨fun W => by
    have h := ssub_any Z U W HZl.out HUl.out
    rw [show subL Z U = F by rw [hZ, hU, hF]; exact known_sub] at h; exact h⟩
  have C2 : Kp (∀ W, Calls Try.prog 10 #[.agg (cells8 a).toArray, .agg (cells8 Z).toArray] W fun e w' => e = .returned (.agg (cells8 a).toArray) ∧ Below W.heap.size W w') := ⟨fun W => by
    have h := sadd_any a Z W Hal.out HZl.out
    rw [show addL a Z = a by rw [hZ]; exact add_zero ha] at h; exact h⟩
  have C3 : Kp (∀ W, Calls Try.prog 12 #[.agg (cells8 a).toArray, .agg (cells8 Z).toArray] W fun e w' => e = .returned (.agg (cells8 a).toArray) ∧ Below W.heap.size W w') := ⟨fun W => by
    have h := ssub_any a Z W Hal.out HZl.out
    rw [show subL a Z = a by rw [hZ]; exact sub_zero ha] at h; exact h⟩
  have C4 : Kp (∀ W, Calls Try.prog 14 #[.agg (cells8 F).toArray, .agg (cells8 a).toArray] W fun e w' => e = .returned (.bool false) ∧ Below W.heap.size W w') := ⟨fun W => by
    have h := less_any F a W HFl.out Hal.out
    rw [show lessL F a = false by rw [hF]; exact most_less ha] at h; exact h⟩
  have C5 : Kp (∀ W, Calls Try.prog 14 #[.agg (cells8 a).toArray, .agg (cells8 Z).toArray] W fun e w' => e = .returned (.bool false) ∧ Below W.heap.size W w') := ⟨fun W => by
    have h := less_any a Z W Hal.out HZl.out
    rw [show lessL a Z = false by rw [hZ]; exact less_zero a] at h; exact h⟩
  have C6 : Kp (∀ W, Calls Try.prog 10 #[.agg (cells8 F).toArray, .agg (cells8 U).toArray] W fun e w' => e = .returned (.agg (cells8 Z).toArray) ∧ Below W.heap.size W w') := ⟨fun W => by
    have h := sadd_any F U W HFl.out HUl.out
    rw [show addL F U = Z by rw [hF, hU, hZ]; exact known_add] at h; exact h⟩
  clear hp hZ hU hF ha hb hc
  go_enter Try.func8, Try.ntmps8
  go_wp2_with (with_reducible refine wpList_box (o := ⟨some 3, _, _, _, _, _⟩) rfl (.tmp 0) rfl rfl ?_)
  intro w1 hk1 hb1 hs1
  have HA1 : Kp _ := ⟨hk1⟩
  clear hk1 hs1
  go_wp2_with (with_reducible refine wpList_box (o := ⟨some 4, _, _, _, _, _⟩) rfl (.tmp 1) rfl rfl ?_)
  intro w2 hk2 hb2 hs2
  have HB2 : Kp _ := ⟨hk2⟩
  have HA2 : Kp _ := ⟨HA1.out.below hb2 HA1.out.lt⟩
  have hB2 := hb1.trans (hb2.mono hb1.size)
  have n1 : w.heap.size < w1.heap.size := HA1.out.lt
  obtain ⟨gb, hgb⟩ : ∃ g, g = w1.heap.size := ⟨_, rfl⟩
  rw [← hgb] at HB2 n1 ⊢
  clear hk2 hs2 hb1 hb2 HA1 hgb
  go_wp2_with (with_reducible refine wpList_box (o := ⟨some 5, _, _, _, _, _⟩) rfl (.tmp 2) rfl rfl ?_)
  intro w3 hk3 hb3 hs3
  have HC3 : Kp _ := ⟨hk3⟩
  have HA3 : Kp _ := ⟨HA2.out.below hb3 HA2.out.lt⟩
  have HB3 : Kp _ := ⟨HB2.out.below hb3 HB2.out.lt⟩
  have hB3 := hB2.trans (hb3.mono hB2.size)
  have n2 : gb < w2.heap.size := HB2.out.lt
  obtain ⟨gc, hgc⟩ : ∃ g, g = w2.heap.size := ⟨_, rfl⟩
  rw [← hgc] at HC3 n2 ⊢
  clear hk3 hs3 hB2 hb3 HA2 HB2 hgc
  have hT3 : Keep4 w w.heap.size gb gc gc 23 (cells8 a) (cells8 b) (cells8 c) (cells8 c) w3 := ⟨HA3.out, HB3.out, HC3.out, HC3.out, hB3⟩
  have n3 : gc < w3.heap.size := HC3.out.lt
  clear HA3 HB3 HC3 hB3
  go_wp2_with (first
    | (with_reducible refine wpList_loadAll (o := ⟨some 9, _, _, _, _, _⟩) rwDig rfl (.tmp 3) rfl rfl hT3.a HLa.out ?_)
    | (with_reducible refine wpList_loadAll (o := ⟨some 10, _, _, _, _, _⟩) rwDig rfl (.tmp 4) rfl rfl hT3.b HLb.out ?_))
  go_wp2_with fail
  refine (CP.out _).mono ?_
  rintro e w4 ⟨rfl, hb4⟩
  have hT4 := hT3.next hb4
  have n4 : gc < w4.heap.size := hT4.c.lt
  clear hb4 hT3 n3
  obtain ⟨x0, hx0⟩ : ∃ x, x = w4 := ⟨_, rfl⟩
  rw [← hx0] at hT4 n4 ⊢
  clear hx0
  go_wp2_with (first
    | (refine wpList_build0 (o := ⟨some 23, _, _, _, _, _⟩) rfl rfl HB0.out ?_)
    | (with_reducible refine wpList_alloc (o := ⟨some 7, _, _, _, _, _⟩) tyDig rfl rfl ?_))
  intro x1 hk1 hb1 hs1
  have HO1 : Kp _ := ⟨hk1⟩
  have hT9 := hT4.next hb1
  obtain ⟨go, hgo⟩ : ∃ g, g = x0.heap.size := ⟨_, rfl⟩
  rw [← hgo] at HO1 n4 ⊢
  clear hk1 hb1 hs1 hT4 hgo
  go_wp2_with (refine wpList_storeAll (o := ⟨none, _, _, _, _, _⟩) (vs := cells8 Z) rwDig rfl (.tmp 7) (.tmp 23) rfl rfl HO1.out HZz.out HLZ.out (cells8_one _) rfl ?_)
  intro x2 hk2 ho2
  have HO2 : Kp _ := ⟨hk2⟩
  have HA2 : Kp (Blk x2 w.heap.size 23 (cells8 a)) := ⟨hT9.a.only ho2 (by omega)⟩
  have hB2 := hT9.below.trans (ho2.below (by omega))
  have hco : x2.cell? ⟨go, 31, none⟩ = some (.int .u8 0) := by rw [HO2.out.cell?]; exact hc31
  have hfo := HO2.out.frozen 31
  clear hk2 ho2 HO1 hT9
  have HO3 : Kp (Blk (x2.setCell ⟨go, 31, none⟩ (.int .u8 1)) go 23 (cells8 U)) := ⟨by have h := HO2.out.set 31 (.int .u8 1); rw [HUs.out] at h; exact h⟩
  have HA3 : Kp (Blk (x2.setCell ⟨go, 31, none⟩ (.int .u8 1)) w.heap.size 23 (cells8 a)) := ⟨HA2.out.other (by show w.heap.size ≠ go; omega) _⟩
  have hB3 : Below w.heap.size w (x2.setCell ⟨go, 31, none⟩ (.int .u8 1)) := hB2.setCell (by show w.heap.size ≤ go; omega) _
  clear hB2 HA2 HO2
  go_wp2_with (first
    | (refine wpList_build0 (o := ⟨some 25, _, _, _, _, _⟩) rfl rfl HB0.out ?_)
    | (with_reducible refine wpList_loadAll (o := ⟨some 26, _, _, _, _, _⟩) rwDig rfl (.tmp 7) rfl rfl HO3.out HLU.out ?_))
  go_wp2_with fail
  generalize x2.setCell ⟨go, 31, none⟩ (.int .u8 1) = x3 at *
  clear hco hfo
  refine (C1.out _).mono ?_
  rintro e x4 ⟨rfl, hb4⟩
  have HO4 : Kp _ := ⟨HO3.out.below hb4 HO3.out.lt⟩
  have HA4 : Kp _ := ⟨HA3.out.below hb4 HA3.out.lt⟩
  have hB4 := hB3.trans (hb4.mono hB3.size)
  have m4 : go < x4.heap.size := HO4.out.lt
  clear hb4 HO3 HA3 hB3
  go_wp2_with (with_reducible refine wpList_alloc (o := ⟨some 8, _, _, _, _, _⟩) tyDig rfl rfl ?_)
  intro x5 hk5 hb5 hs5
  have HM5 : Kp _ := ⟨hk5⟩
  have HO5 : Kp _ := ⟨HO4.out.below hb5 HO4.out.lt⟩
  have HA5 : Kp _ := ⟨HA4.out.below hb5 HA4.out.lt⟩
  have hB5 := hB4.trans (hb5.mono hB4.size)
  obtain ⟨gm, hgm⟩ : ∃ g, g = x4.heap.size := ⟨_, rfl⟩
  rw [← hgm] at HM5 m4 ⊢
  clear hk5 hb5 hs5 HO4 HA4 hB4 hgm
  go_wp2_with (refine wpList_storeAll (o := ⟨none, _, _, _, _, _⟩) (vs := cells8 F) rwDig rfl (.tmp 8) (.tmp 27) rfl rfl HM5.out HZz.out HLF.out (cells8_one _) rfl ?_)
  intro x6 hk6 ho6
  have hT7 : Keep4 w w.heap.size go gm gm 23 (cells8 a) (cells8 U) (cells8 F) (cells8 F) x6 := ⟨HA5.out.only ho6 (by omega), HO5.out.only ho6 (by omega), hk6, hk6, hB5.trans (ho6.below (by omega))⟩
  clear hk6 ho6 HM5 HO5 HA5 hB5
  go_wp2_with fail
  refine wp_region_held_drew (S := Keep4 w w.heap.size go gm gm 23 (cells8 a) (cells8 U) (cells8 F) (cells8 F)) (by kernel_rfl) (hT7.drew) (fun hHeld => ?_)
  generalize x6.drew = wS at *
  refine wpAnyH_take (i := 0) (oi := ⟨some 28, _, _, _, _, _⟩) (v := _) rfl (by kernel_rfl) (by kernel_rfl) (by kernel_rfl) (fun _ _ _ h => h) (yieldsIf_load_mid (by rfl) _ (.tmp 3) rfl _ _ rfl (cells8 a) _ (fun W hW => hW.a.range (take_all32 HLa.out)) huD rfl (hiD a HLa.out)) (by assumption) ?_
  try simp only [Act.put, List.setIfInBounds_toArray, List.set_cons_zero, List.set_cons_succ]
  refine wpAnyH_take (i := 1) (oi := ⟨some 29, _, _, _, _, _⟩) (v := _) rfl (by kernel_rfl) (by kernel_rfl) (by kernel_rfl) (fun _ _ _ h => h) (yieldsIf_build0 (by rfl) rfl HB0.out) (by assumption) ?_
  try simp only [Act.put, List.setIfInBounds_toArray, List.set_cons_zero, List.set_cons_succ]
  refine wpAnyH_take (i := 3) (oi := ⟨some 31, _, _, _, _, _⟩) (v := _) rfl (by kernel_rfl) (by kernel_rfl) (by kernel_rfl) (fun _ _ _ h => h) (yieldsIf_load_mid (by rfl) _ (.tmp 3) rfl _ _ rfl (cells8 a) _ (fun W hW => hW.a.range (take_all32 HLa.out)) huD rfl (hiD a HLa.out)) (by assumption) ?_
  try simp only [Act.put, List.setIfInBounds_toArray, List.set_cons_zero, List.set_cons_succ]
  refine wpAnyH_ready (rs := [2]) (by kernel_rfl) (by simp) ?_
  refine AllReadyH.cons (o := ⟨some 30, _, _, _, _, _⟩) rfl (fun K hK => ?_) AllReadyH.nil
  go_simp
  refine (C2.out _).mono ?_
  rintro e w51 ⟨rfl, hb'⟩
  refine hK.out _ _ (hHeld.next hb') (fun hHeld2 => ?_)
  clear hb'
  clear hK K hHeld
  have hHeld := hHeld2
  clear hHeld2
  try simp only [Act.put, List.setIfInBounds_toArray, List.set_cons_zero, List.set_cons_succ]
  refine wpAnyH_take (i := 4) (oi := ⟨some 32, _, _, _, _, _⟩) (v := _) rfl (by kernel_rfl) (by kernel_rfl) (by kernel_rfl) (fun _ _ _ h => h) (yieldsIf_eql (by rfl) eqDig Try.eqGuardType23 (.tmp 30) (.tmp 31) rfl a a rfl rfl Hal.out Hal.out (beq_self_eq_true _)) (by assumption) ?_
  try simp only [Act.put, List.setIfInBounds_toArray, List.set_cons_zero, List.set_cons_succ]
  refine wpAnyH_take (i := 5) (oi := ⟨some 33, _, _, _, _, _⟩) (v := ?_) rfl (by kernel_rfl) (by kernel_rfl) (by kernel_rfl) (fun _ _ _ h => h) (Or.inl ⟨by rfl, by intro w hSw; go_simp; try rfl⟩) (by assumption) ?_
  try simp only [Act.put, List.setIfInBounds_toArray, List.set_cons_zero, List.set_cons_succ]
  refine wpAnyH_take (i := 6) (oi := ⟨some 34, _, _, _, _, _⟩) (v := _) rfl (by kernel_rfl) (by kernel_rfl) (by kernel_rfl) (fun _ _ _ h => h) (yieldsIf_load_mid (by rfl) _ (.tmp 3) rfl _ _ rfl (cells8 a) _ (fun W hW => hW.a.range (take_all32 HLa.out)) huD rfl (hiD a HLa.out)) (by assumption) ?_
  try simp only [Act.put, List.setIfInBounds_toArray, List.set_cons_zero, List.set_cons_succ]
  refine wpAnyH_take (i := 7) (oi := ⟨some 35, _, _, _, _, _⟩) (v := _) rfl (by kernel_rfl) (by kernel_rfl) (by kernel_rfl) (fun _ _ _ h => h) (yieldsIf_build0 (by rfl) rfl HB0.out) (by assumption) ?_
  try simp only [Act.put, List.setIfInBounds_toArray, List.set_cons_zero, List.set_cons_succ]
  refine wpAnyH_take (i := 9) (oi := ⟨some 37, _, _, _, _, _⟩) (v := _) rfl (by kernel_rfl) (by kernel_rfl) (by kernel_rfl) (fun _ _ _ h => h) (yieldsIf_load_mid (by rfl) _ (.tmp 3) rfl _ _ rfl (cells8 a) _ (fun W hW => hW.a.range (take_all32 HLa.out)) huD rfl (hiD a HLa.out)) (by assumption) ?_
  try simp only [Act.put, List.setIfInBounds_toArray, List.set_cons_zero, List.set_cons_succ]
  refine wpAnyH_ready (rs := [8]) (by kernel_rfl) (by simp) ?_
  refine AllReadyH.cons (o := ⟨some 36, _, _, _, _, _⟩) rfl (fun K hK => ?_) AllReadyH.nil
  go_simp
  refine (C3.out _).mono ?_
  rintro e w52 ⟨rfl, hb'⟩
  refine hK.out _ _ (hHeld.next hb') (fun hHeld2 => ?_)
  clear hb'
  clear hK K hHeld
  have hHeld := hHeld2
  clear hHeld2
  try simp only [Act.put, List.setIfInBounds_toArray, List.set_cons_zero, List.set_cons_succ]
  refine wpAnyH_take (i := 10) (oi := ⟨some 38, _, _, _, _, _⟩) (v := _) rfl (by kernel_rfl) (by kernel_rfl) (by kernel_rfl) (fun _ _ _ h => h) (yieldsIf_eql (by rfl) eqDig Try.eqGuardType23 (.tmp 36) (.tmp 37) rfl a a rfl rfl Hal.out Hal.out (beq_self_eq_true _)) (by assumption) ?_
  try simp only [Act.put, List.setIfInBounds_toArray, List.set_cons_zero, List.set_cons_succ]
  refine wpAnyH_take (i := 11) (oi := ⟨some 39, _, _, _, _, _⟩) (v := ?_) rfl (by kernel_rfl) (by kernel_rfl) (by kernel_rfl) (fun _ _ _ h => h) (Or.inl ⟨by rfl, by intro w hSw; go_simp; try rfl⟩) (by assumption) ?_
  try simp only [Act.put, List.setIfInBounds_toArray, List.set_cons_zero, List.set_cons_succ]
  refine wpAnyH_take (i := 12) (oi := ⟨some 40, _, _, _, _, _⟩) (v := ?_) rfl (by kernel_rfl) (by kernel_rfl) (by kernel_rfl) (fun _ _ _ h => h) (Or.inl ⟨by rfl, by intro w hSw; go_simp; try rfl⟩) (by assumption) ?_
  try simp only [Act.put, List.setIfInBounds_toArray, List.set_cons_zero, List.set_cons_succ]
  refine wpAnyH_take (i := 13) (oi := ⟨some 41, _, _, _, _, _⟩) (v := _) rfl (by kernel_rfl) (by kernel_rfl) (by kernel_rfl) (fun _ _ _ h => h) (yieldsIf_load_mid (by rfl) _ (.tmp 8) rfl _ _ rfl (cells8 F) _ (fun W hW => hW.c.range (take_all32 HLF.out)) huD rfl (hiD F HLF.out)) (by assumption) ?_
  try simp only [Act.put, List.setIfInBounds_toArray, List.set_cons_zero, List.set_cons_succ]
  refine wpAnyH_take (i := 14) (oi := ⟨some 42, _, _, _, _, _⟩) (v := _) rfl (by kernel_rfl) (by kernel_rfl) (by kernel_rfl) (fun _ _ _ h => h) (yieldsIf_load_mid (by rfl) _ (.tmp 3) rfl _ _ rfl (cells8 a) _ (fun W hW => hW.a.range (take_all32 HLa.out)) huD rfl (hiD a HLa.out)) (by assumption) ?_
  try simp only [Act.put, List.setIfInBounds_toArray, List.set_cons_zero, List.set_cons_succ]
  refine wpAnyH_ready (rs := [15]) (by kernel_rfl) (by simp) ?_
  refine AllReadyH.cons (o := ⟨some 43, _, _, _, _, _⟩) rfl (fun K hK => ?_) AllReadyH.nil
  go_simp
  refine (C4.out _).mono ?_
  rintro e w53 ⟨rfl, hb'⟩
  refine hK.out _ _ (hHeld.next hb') (fun hHeld2 => ?_)
  clear hb'
  clear hK K hHeld
  have hHeld := hHeld2
  clear hHeld2
  try simp only [Act.put, List.setIfInBounds_toArray, List.set_cons_zero, List.set_cons_succ]
  refine wpAnyH_take (i := 16) (oi := ⟨some 44, _, _, _, _, _⟩) (v := ?_) rfl (by kernel_rfl) (by kernel_rfl) (by kernel_rfl) (fun _ _ _ h => h) (Or.inl ⟨by rfl, by intro w hSw; go_simp; try rfl⟩) (by assumption) ?_
  try simp only [Act.put, List.setIfInBounds_toArray, List.set_cons_zero, List.set_cons_succ]
  refine wpAnyH_take (i := 17) (oi := ⟨some 45, _, _, _, _, _⟩) (v := ?_) rfl (by kernel_rfl) (by kernel_rfl) (by kernel_rfl) (fun _ _ _ h => h) (Or.inl ⟨by rfl, by intro w hSw; go_simp; try rfl⟩) (by assumption) ?_
  try simp only [Act.put, List.setIfInBounds_toArray, List.set_cons_zero, List.set_cons_succ]
  refine wpAnyH_take (i := 18) (oi := ⟨some 46, _, _, _, _, _⟩) (v := ?_) rfl (by kernel_rfl) (by kernel_rfl) (by kernel_rfl) (fun _ _ _ h => h) (Or.inl ⟨by rfl, by intro w hSw; go_simp; try rfl⟩) (by assumption) ?_
  try simp only [Act.put, List.setIfInBounds_toArray, List.set_cons_zero, List.set_cons_succ]
  refine wpAnyH_take (i := 19) (oi := ⟨some 47, _, _, _, _, _⟩) (v := _) rfl (by kernel_rfl) (by kernel_rfl) (by kernel_rfl) (fun _ _ _ h => h) (yieldsIf_load_mid (by rfl) _ (.tmp 3) rfl _ _ rfl (cells8 a) _ (fun W hW => hW.a.range (take_all32 HLa.out)) huD rfl (hiD a HLa.out)) (by assumption) ?_
  try simp only [Act.put, List.setIfInBounds_toArray, List.set_cons_zero, List.set_cons_succ]
  refine wpAnyH_take (i := 20) (oi := ⟨some 48, _, _, _, _, _⟩) (v := _) rfl (by kernel_rfl) (by kernel_rfl) (by kernel_rfl) (fun _ _ _ h => h) (yieldsIf_build0 (by rfl) rfl HB0.out) (by assumption) ?_
  try simp only [Act.put, List.setIfInBounds_toArray, List.set_cons_zero, List.set_cons_succ]
  refine wpAnyH_ready (rs := [21]) (by kernel_rfl) (by simp) ?_
  refine AllReadyH.cons (o := ⟨some 49, _, _, _, _, _⟩) rfl (fun K hK => ?_) AllReadyH.nil
  go_simp
  refine (C5.out _).mono ?_
  rintro e w54 ⟨rfl, hb'⟩
  refine hK.out _ _ (hHeld.next hb') (fun hHeld2 => ?_)
  clear hb'
  clear hK K hHeld
  have hHeld := hHeld2
  clear hHeld2
  try simp only [Act.put, List.setIfInBounds_toArray, List.set_cons_zero, List.set_cons_succ]
  refine wpAnyH_take (i := 22) (oi := ⟨some 50, _, _, _, _, _⟩) (v := ?_) rfl (by kernel_rfl) (by kernel_rfl) (by kernel_rfl) (fun _ _ _ h => h) (Or.inl ⟨by rfl, by intro w hSw; go_simp; try rfl⟩) (by assumption) ?_
  try simp only [Act.put, List.setIfInBounds_toArray, List.set_cons_zero, List.set_cons_succ]
  refine wpAnyH_take (i := 23) (oi := ⟨some 51, _, _, _, _, _⟩) (v := ?_) rfl (by kernel_rfl) (by kernel_rfl) (by kernel_rfl) (fun _ _ _ h => h) (Or.inl ⟨by rfl, by intro w hSw; go_simp; try rfl⟩) (by assumption) ?_
  try simp only [Act.put, List.setIfInBounds_toArray, List.set_cons_zero, List.set_cons_succ]
  refine wpAnyH_take (i := 24) (oi := ⟨some 52, _, _, _, _, _⟩) (v := ?_) rfl (by kernel_rfl) (by kernel_rfl) (by kernel_rfl) (fun _ _ _ h => h) (Or.inl ⟨by rfl, by intro w hSw; go_simp; try rfl⟩) (by assumption) ?_
  try simp only [Act.put, List.setIfInBounds_toArray, List.set_cons_zero, List.set_cons_succ]
  refine wpAnyH_take (i := 25) (oi := ⟨some 53, _, _, _, _, _⟩) (v := _) rfl (by kernel_rfl) (by kernel_rfl) (by kernel_rfl) (fun _ _ _ h => h) (yieldsIf_load_mid (by rfl) _ (.tmp 8) rfl _ _ rfl (cells8 F) _ (fun W hW => hW.c.range (take_all32 HLF.out)) huD rfl (hiD F HLF.out)) (by assumption) ?_
  try simp only [Act.put, List.setIfInBounds_toArray, List.set_cons_zero, List.set_cons_succ]
  refine wpAnyH_take (i := 26) (oi := ⟨some 54, _, _, _, _, _⟩) (v := _) rfl (by kernel_rfl) (by kernel_rfl) (by kernel_rfl) (fun _ _ _ h => h) (yieldsIf_load_mid (by rfl) _ (.tmp 7) rfl _ _ rfl (cells8 U) _ (fun W hW => hW.b.range (take_all32 HLU.out)) huD rfl (hiD U HLU.out)) (by assumption) ?_
  try simp only [Act.put, List.setIfInBounds_toArray, List.set_cons_zero, List.set_cons_succ]
  refine wpAnyH_take (i := 28) (oi := ⟨some 56, _, _, _, _, _⟩) (v := _) rfl (by kernel_rfl) (by kernel_rfl) (by kernel_rfl) (fun _ _ _ h => h) (yieldsIf_build0 (by rfl) rfl HB0.out) (by assumption) ?_
  try simp only [Act.put, List.setIfInBounds_toArray, List.set_cons_zero, List.set_cons_succ]
  refine wpAnyH_ready (rs := [27]) (by kernel_rfl) (by simp) ?_
  refine AllReadyH.cons (o := ⟨some 55, _, _, _, _, _⟩) rfl (fun K hK => ?_) AllReadyH.nil
  go_simp
  refine (C6.out _).mono ?_
  rintro e w55 ⟨rfl, hb'⟩
  refine hK.out _ _ (hHeld.next hb') (fun hHeld2 => ?_)
  clear hb'
  clear hK K hHeld
  have hHeld := hHeld2
  clear hHeld2
  try simp only [Act.put, List.setIfInBounds_toArray, List.set_cons_zero, List.set_cons_succ]
  refine wpAnyH_take (i := 29) (oi := ⟨some 57, _, _, _, _, _⟩) (v := _) rfl (by kernel_rfl) (by kernel_rfl) (by kernel_rfl) (fun _ _ _ h => h) (yieldsIf_eql (by rfl) eqDig Try.eqGuardType23 (.tmp 55) (.tmp 56) rfl Z Z rfl rfl HZl.out HZl.out (beq_self_eq_true _)) (by assumption) ?_
  try simp only [Act.put, List.setIfInBounds_toArray, List.set_cons_zero, List.set_cons_succ]
  refine wpAnyH_take (i := 30) (oi := ⟨some 58, _, _, _, _, _⟩) (v := ?_) rfl (by kernel_rfl) (by kernel_rfl) (by kernel_rfl) (fun _ _ _ h => h) (Or.inl ⟨by rfl, by intro w hSw; go_simp; try rfl⟩) (by assumption) ?_
  try simp only [Act.put, List.setIfInBounds_toArray, List.set_cons_zero, List.set_cons_succ]
  refine wpAnyH_take (i := 31) (oi := ⟨some 59, _, _, _, _, _⟩) (v := ?_) rfl (by kernel_rfl) (by kernel_rfl) (by kernel_rfl) (fun _ _ _ h => h) (Or.inl ⟨by rfl, by intro w hSw; go_simp; try rfl⟩) (by assumption) ?_
  try simp only [Act.put, List.setIfInBounds_toArray, List.set_cons_zero, List.set_cons_succ]
  refine wpAnyH_ready (rs := [32]) (by kernel_rfl) (by simp) ?_
  refine AllReadyH.cons (o := ⟨some 60, _, _, _, _, _⟩) rfl (fun K hK => ?_) AllReadyH.nil
  go_simp
  refine (known5_any _).mono ?_
  rintro e w56 ⟨rfl, hb'⟩
  refine hK.out _ _ (hHeld.next hb') (fun hHeld2 => ?_)
  clear hb'
  clear hK K hHeld
  have hHeld := hHeld2
  clear hHeld2
  try simp only [Act.put, List.setIfInBounds_toArray, List.set_cons_zero, List.set_cons_succ]
  refine wpAnyH_take (i := 33) (oi := ⟨some 61, _, _, _, _, _⟩) (v := ?_) rfl (by kernel_rfl) (by kernel_rfl) (by kernel_rfl) (fun _ _ _ h => h) (Or.inl ⟨by rfl, by intro w hSw; go_simp; try rfl⟩) (by assumption) ?_
  try simp only [Act.put, List.setIfInBounds_toArray, List.set_cons_zero, List.set_cons_succ]
  refine wpAnyH_take (i := 34) (oi := ⟨some 6, _, _, _, _, _⟩) (v := ?_) rfl (by kernel_rfl) (by kernel_rfl) (by kernel_rfl) (fun _ _ _ h => h) (Or.inl ⟨by rfl, by intro w hSw; go_simp; try rfl⟩) (by assumption) ?_
  try simp only [Act.put, List.setIfInBounds_toArray, List.set_cons_zero, List.set_cons_succ]
  refine wpAnyH_done (by kernel_rfl) ?_ _
  go_wp2
  go_ret
  exact ⟨by rfl, hHeld.below⟩
set_option maxRecDepth 100000 in
set_option maxHeartbeats 4000000 in
theorem walk_sumLess_1 (a b c : List UInt8) (w : World) (ha : a.length = 32) (hb : b.length = 32) (hc : c.length = 32) (hp : lessL a b = true) (hq : lessL b c = false) : Calls Try.prog 8 #[.agg (cells8 a).toArray, .agg (cells8 b).toArray, .agg (cells8 c).toArray] w fun e w' => e = .returned (.bool true) ∧ Below w.heap.size w w' := by
  have Hal : Kp _ := ⟨ha⟩
  have Hbl : Kp _ := ⟨hb⟩
  have Hcl : Kp _ := ⟨hc⟩
  have HLa : Kp ((cells8 a).length = 32) := ⟨by rw [cells8_length]; exact ha⟩
  have HLb : Kp ((cells8 b).length = 32) := ⟨by rw [cells8_length]; exact hb⟩
  have HLc : Kp ((cells8 c).length = 32) := ⟨by rw [cells8_length]; exact hc⟩
  obtain ⟨Z, hZ⟩ : ∃ x, x = z32 := ⟨_, rfl⟩
  have HZl : Kp (Z.length = 32) := ⟨by rw [hZ]; exact z32_length⟩
  have HLZ : Kp ((cells8 Z).length = 32) := ⟨by rw [cells8_length]; exact HZl.out⟩
  obtain ⟨U, hU⟩ : ∃ x, x = oneL := ⟨_, rfl⟩
  have HUl : Kp (U.length = 32) := ⟨by rw [hU]; exact by decide⟩
  have HLU : Kp ((cells8 U).length = 32) := ⟨by rw [cells8_length]; exact HUl.out⟩
  obtain ⟨F, hF⟩ : ∃ x, x = ffL 32 := ⟨_, rfl⟩
  have HFl : Kp (F.length = 32) := ⟨by rw [hF]; exact by decide⟩
  have HLF : Kp ((cells8 F).length = 32) := ⟨by rw [cells8_length]; exact HFl.out⟩
  have HB0 : Kp ((Try.prog).built 23 [] = some (cells8 Z).toArray) := ⟨by rw [hZ]; exact dig_built0⟩
  have HZz : Kp (zero32.length = 32) := ⟨rfl⟩
  have HUs : Kp ((cells8 Z).set 31 (.int .u8 1) = cells8 U) := ⟨by rw [hU, hZ]; exact cells8_set' z32 31 1⟩
  have hc31 : (cells8 Z)[31]? = some (.int .u8 0) := by rw [hZ, cells8_at z32 31 (by decide)]; rfl
  have CP : Kp (∀ W, Calls Try.prog 14 #[.agg (cells8 a).toArray, .agg (cells8 b).toArray] W fun e w' => e = .returned (.bool true) ∧ Below W.heap.size W w') := ⟨fun W => by
    have h := less_any a b W Hal.out Hbl.out
    rw [show lessL a b = true by exact hp] at h; exact h⟩
  have CQ : Kp (∀ W, Calls Try.prog 14 #[.agg (cells8 b).toArray, .agg (cells8 c).toArray] W fun e w' => e = .returned (.bool false) ∧ Below W.heap.size W w') := ⟨fun W => by
    have h := less_any b c W Hbl.out Hcl.out
    rw [show lessL b c = false by exact hq] at h; exact h⟩
  have C1 : Kp (∀ W, Calls Try.prog 12 #[.agg (cells8 Z).toArray, .agg (cells8 U).toArray] W fun e w' => e = .returned (.agg (cells8 F).toArray) ∧ Below W.heap.size W w') := ⟨fun W => by
    have h := ssub_any Z U W HZl.out HUl.out
    rw [show subL Z U = F by rw [hZ, hU, hF]; exact known_sub] at h; exact h⟩
  have C2 : Kp (∀ W, Calls Try.prog 10 #[.agg (cells8 a).toArray, .agg (cells8 Z).toArray] W fun e w' => e = .returned (.agg (cells8 a).toArray) ∧ Below W.heap.size W w') := ⟨fun W => by
    have h := sadd_any a Z W Hal.out HZl.out
    rw [show addL a Z = a by rw [hZ]; exact add_zero ha] at h; exact h⟩
  have C3 : Kp (∀ W, Calls Try.prog 12 #[.agg (cells8 a).toArray, .agg (cells8 Z).toArray] W fun e w' => e = .returned (.agg (cells8 a).toArray) ∧ Below W.heap.size W w') := ⟨fun W => by
    have h := ssub_any a Z W Hal.out HZl.out
    rw [show subL a Z = a by rw [hZ]; exact sub_zero ha] at h; exact h⟩
  have C4 : Kp (∀ W, Calls Try.prog 14 #[.agg (cells8 F).toArray, .agg (cells8 a).toArray] W fun e w' => e = .returned (.bool false) ∧ Below W.heap.size W w') := ⟨fun W => by
    have h := less_any F a W HFl.out Hal.out
    rw [show lessL F a = false by rw [hF]; exact most_less ha] at h; exact h⟩
  have C5 : Kp (∀ W, Calls Try.prog 14 #[.agg (cells8 a).toArray, .agg (cells8 Z).toArray] W fun e w' => e = .returned (.bool false) ∧ Below W.heap.size W w') := ⟨fun W => by
    have h := less_any a Z W Hal.out HZl.out
    rw [show lessL a Z = false by rw [hZ]; exact less_zero a] at h; exact h⟩
  have C6 : Kp (∀ W, Calls Try.prog 10 #[.agg (cells8 F).toArray, .agg (cells8 U).toArray] W fun e w' => e = .returned (.agg (cells8 Z).toArray) ∧ Below W.heap.size W w') := ⟨fun W => by
    have h := sadd_any F U W HFl.out HUl.out
    rw [show addL F U = Z by rw [hF, hU, hZ]; exact known_add] at h; exact h⟩
  clear hp hq hZ hU hF ha hb hc
  go_enter Try.func8, Try.ntmps8
  go_wp2_with (with_reducible refine wpList_box (o := ⟨some 3, _, _, _, _, _⟩) rfl (.tmp 0) rfl rfl ?_)
  intro w1 hk1 hb1 hs1
  have HA1 : Kp _ := ⟨hk1⟩
  clear hk1 hs1
  go_wp2_with (with_reducible refine wpList_box (o := ⟨some 4, _, _, _, _, _⟩) rfl (.tmp 1) rfl rfl ?_)
  intro w2 hk2 hb2 hs2
  have HB2 : Kp _ := ⟨hk2⟩
  have HA2 : Kp _ := ⟨HA1.out.below hb2 HA1.out.lt⟩
  have hB2 := hb1.trans (hb2.mono hb1.size)
  have n1 : w.heap.size < w1.heap.size := HA1.out.lt
  obtain ⟨gb, hgb⟩ : ∃ g, g = w1.heap.size := ⟨_, rfl⟩
  rw [← hgb] at HB2 n1 ⊢
  clear hk2 hs2 hb1 hb2 HA1 hgb
  go_wp2_with (with_reducible refine wpList_box (o := ⟨some 5, _, _, _, _, _⟩) rfl (.tmp 2) rfl rfl ?_)
  intro w3 hk3 hb3 hs3
  have HC3 : Kp _ := ⟨hk3⟩
  have HA3 : Kp _ := ⟨HA2.out.below hb3 HA2.out.lt⟩
  have HB3 : Kp _ := ⟨HB2.out.below hb3 HB2.out.lt⟩
  have hB3 := hB2.trans (hb3.mono hB2.size)
  have n2 : gb < w2.heap.size := HB2.out.lt
  obtain ⟨gc, hgc⟩ : ∃ g, g = w2.heap.size := ⟨_, rfl⟩
  rw [← hgc] at HC3 n2 ⊢
  clear hk3 hs3 hB2 hb3 HA2 HB2 hgc
  have hT3 : Keep4 w w.heap.size gb gc gc 23 (cells8 a) (cells8 b) (cells8 c) (cells8 c) w3 := ⟨HA3.out, HB3.out, HC3.out, HC3.out, hB3⟩
  have n3 : gc < w3.heap.size := HC3.out.lt
  clear HA3 HB3 HC3 hB3
  go_wp2_with (first
    | (with_reducible refine wpList_loadAll (o := ⟨some 9, _, _, _, _, _⟩) rwDig rfl (.tmp 3) rfl rfl hT3.a HLa.out ?_)
    | (with_reducible refine wpList_loadAll (o := ⟨some 10, _, _, _, _, _⟩) rwDig rfl (.tmp 4) rfl rfl hT3.b HLb.out ?_))
  go_wp2_with fail
  refine (CP.out _).mono ?_
  rintro e w4 ⟨rfl, hb4⟩
  have hT4 := hT3.next hb4
  have n4 : gc < w4.heap.size := hT4.c.lt
  clear hb4 hT3 n3
  go_wp2_with (first
    | (refine wpList_loadAll_g (o := ⟨some 13, _, _, _, _, _⟩) rwDig (by rfl) (.tmp 4) rfl rfl hT4.b HLb.out ?_)
    | (refine wpList_loadAll_g (o := ⟨some 14, _, _, _, _, _⟩) rwDig (by rfl) (.tmp 5) rfl rfl hT4.c HLc.out ?_))
  go_wp2_with fail
  refine (CQ.out _).mono ?_
  rintro e w5 ⟨rfl, hb5⟩
  have hT5 := hT4.next hb5
  have n5 : gc < w5.heap.size := hT5.c.lt
  clear hb5 hT4 n4
  obtain ⟨x0, hx0⟩ : ∃ x, x = w5 := ⟨_, rfl⟩
  rw [← hx0] at hT5 n5 ⊢
  clear hx0
  go_wp2_with (first
    | (refine wpList_build0 (o := ⟨some 23, _, _, _, _, _⟩) rfl rfl HB0.out ?_)
    | (with_reducible refine wpList_alloc (o := ⟨some 7, _, _, _, _, _⟩) tyDig rfl rfl ?_))
  intro x1 hk1 hb1 hs1
  have HO1 : Kp _ := ⟨hk1⟩
  have hT9 := hT5.next hb1
  obtain ⟨go, hgo⟩ : ∃ g, g = x0.heap.size := ⟨_, rfl⟩
  rw [← hgo] at HO1 n5 ⊢
  clear hk1 hb1 hs1 hT5 hgo
  go_wp2_with (refine wpList_storeAll (o := ⟨none, _, _, _, _, _⟩) (vs := cells8 Z) rwDig rfl (.tmp 7) (.tmp 23) rfl rfl HO1.out HZz.out HLZ.out (cells8_one _) rfl ?_)
  intro x2 hk2 ho2
  have HO2 : Kp _ := ⟨hk2⟩
  have HA2 : Kp (Blk x2 w.heap.size 23 (cells8 a)) := ⟨hT9.a.only ho2 (by omega)⟩
  have hB2 := hT9.below.trans (ho2.below (by omega))
  have hco : x2.cell? ⟨go, 31, none⟩ = some (.int .u8 0) := by rw [HO2.out.cell?]; exact hc31
  have hfo := HO2.out.frozen 31
  clear hk2 ho2 HO1 hT9
  have HO3 : Kp (Blk (x2.setCell ⟨go, 31, none⟩ (.int .u8 1)) go 23 (cells8 U)) := ⟨by have h := HO2.out.set 31 (.int .u8 1); rw [HUs.out] at h; exact h⟩
  have HA3 : Kp (Blk (x2.setCell ⟨go, 31, none⟩ (.int .u8 1)) w.heap.size 23 (cells8 a)) := ⟨HA2.out.other (by show w.heap.size ≠ go; omega) _⟩
  have hB3 : Below w.heap.size w (x2.setCell ⟨go, 31, none⟩ (.int .u8 1)) := hB2.setCell (by show w.heap.size ≤ go; omega) _
  clear hB2 HA2 HO2
  go_wp2_with (first
    | (refine wpList_build0 (o := ⟨some 25, _, _, _, _, _⟩) rfl rfl HB0.out ?_)
    | (with_reducible refine wpList_loadAll (o := ⟨some 26, _, _, _, _, _⟩) rwDig rfl (.tmp 7) rfl rfl HO3.out HLU.out ?_))
  go_wp2_with fail
  generalize x2.setCell ⟨go, 31, none⟩ (.int .u8 1) = x3 at *
  clear hco hfo
  refine (C1.out _).mono ?_
  rintro e x4 ⟨rfl, hb4⟩
  have HO4 : Kp _ := ⟨HO3.out.below hb4 HO3.out.lt⟩
  have HA4 : Kp _ := ⟨HA3.out.below hb4 HA3.out.lt⟩
  have hB4 := hB3.trans (hb4.mono hB3.size)
  have m4 : go < x4.heap.size := HO4.out.lt
  clear hb4 HO3 HA3 hB3
  go_wp2_with (with_reducible refine wpList_alloc (o := ⟨some 8, _, _, _, _, _⟩) tyDig rfl rfl ?_)
  intro x5 hk5 hb5 hs5
  have HM5 : Kp _ := ⟨hk5⟩
  have HO5 : Kp _ := ⟨HO4.out.below hb5 HO4.out.lt⟩
  have HA5 : Kp _ := ⟨HA4.out.below hb5 HA4.out.lt⟩
  have hB5 := hB4.trans (hb5.mono hB4.size)
  obtain ⟨gm, hgm⟩ : ∃ g, g = x4.heap.size := ⟨_, rfl⟩
  rw [← hgm] at HM5 m4 ⊢
  clear hk5 hb5 hs5 HO4 HA4 hB4 hgm
  go_wp2_with (refine wpList_storeAll (o := ⟨none, _, _, _, _, _⟩) (vs := cells8 F) rwDig rfl (.tmp 8) (.tmp 27) rfl rfl HM5.out HZz.out HLF.out (cells8_one _) rfl ?_)
  intro x6 hk6 ho6
  have hT7 : Keep4 w w.heap.size go gm gm 23 (cells8 a) (cells8 U) (cells8 F) (cells8 F) x6 := ⟨HA5.out.only ho6 (by omega), HO5.out.only ho6 (by omega), hk6, hk6, hB5.trans (ho6.below (by omega))⟩
  clear hk6 ho6 HM5 HO5 HA5 hB5
  go_wp2_with fail
  refine wp_region_held_drew (S := Keep4 w w.heap.size go gm gm 23 (cells8 a) (cells8 U) (cells8 F) (cells8 F)) (by kernel_rfl) (hT7.drew) (fun hHeld => ?_)
  generalize x6.drew = wS at *
  refine wpAnyH_take (i := 0) (oi := ⟨some 28, _, _, _, _, _⟩) (v := _) rfl (by kernel_rfl) (by kernel_rfl) (by kernel_rfl) (fun _ _ _ h => h) (yieldsIf_load_mid (by rfl) _ (.tmp 3) rfl _ _ rfl (cells8 a) _ (fun W hW => hW.a.range (take_all32 HLa.out)) huD rfl (hiD a HLa.out)) (by assumption) ?_
  try simp only [Act.put, List.setIfInBounds_toArray, List.set_cons_zero, List.set_cons_succ]
  refine wpAnyH_take (i := 1) (oi := ⟨some 29, _, _, _, _, _⟩) (v := _) rfl (by kernel_rfl) (by kernel_rfl) (by kernel_rfl) (fun _ _ _ h => h) (yieldsIf_build0 (by rfl) rfl HB0.out) (by assumption) ?_
  try simp only [Act.put, List.setIfInBounds_toArray, List.set_cons_zero, List.set_cons_succ]
  refine wpAnyH_take (i := 3) (oi := ⟨some 31, _, _, _, _, _⟩) (v := _) rfl (by kernel_rfl) (by kernel_rfl) (by kernel_rfl) (fun _ _ _ h => h) (yieldsIf_load_mid (by rfl) _ (.tmp 3) rfl _ _ rfl (cells8 a) _ (fun W hW => hW.a.range (take_all32 HLa.out)) huD rfl (hiD a HLa.out)) (by assumption) ?_
  try simp only [Act.put, List.setIfInBounds_toArray, List.set_cons_zero, List.set_cons_succ]
  refine wpAnyH_ready (rs := [2]) (by kernel_rfl) (by simp) ?_
  refine AllReadyH.cons (o := ⟨some 30, _, _, _, _, _⟩) rfl (fun K hK => ?_) AllReadyH.nil
  go_simp
  refine (C2.out _).mono ?_
  rintro e w51 ⟨rfl, hb'⟩
  refine hK.out _ _ (hHeld.next hb') (fun hHeld2 => ?_)
  clear hb'
  clear hK K hHeld
  have hHeld := hHeld2
  clear hHeld2
  try simp only [Act.put, List.setIfInBounds_toArray, List.set_cons_zero, List.set_cons_succ]
  refine wpAnyH_take (i := 4) (oi := ⟨some 32, _, _, _, _, _⟩) (v := _) rfl (by kernel_rfl) (by kernel_rfl) (by kernel_rfl) (fun _ _ _ h => h) (yieldsIf_eql (by rfl) eqDig Try.eqGuardType23 (.tmp 30) (.tmp 31) rfl a a rfl rfl Hal.out Hal.out (beq_self_eq_true _)) (by assumption) ?_
  try simp only [Act.put, List.setIfInBounds_toArray, List.set_cons_zero, List.set_cons_succ]
  refine wpAnyH_take (i := 5) (oi := ⟨some 33, _, _, _, _, _⟩) (v := ?_) rfl (by kernel_rfl) (by kernel_rfl) (by kernel_rfl) (fun _ _ _ h => h) (Or.inl ⟨by rfl, by intro w hSw; go_simp; try rfl⟩) (by assumption) ?_
  try simp only [Act.put, List.setIfInBounds_toArray, List.set_cons_zero, List.set_cons_succ]
  refine wpAnyH_take (i := 6) (oi := ⟨some 34, _, _, _, _, _⟩) (v := _) rfl (by kernel_rfl) (by kernel_rfl) (by kernel_rfl) (fun _ _ _ h => h) (yieldsIf_load_mid (by rfl) _ (.tmp 3) rfl _ _ rfl (cells8 a) _ (fun W hW => hW.a.range (take_all32 HLa.out)) huD rfl (hiD a HLa.out)) (by assumption) ?_
  try simp only [Act.put, List.setIfInBounds_toArray, List.set_cons_zero, List.set_cons_succ]
  refine wpAnyH_take (i := 7) (oi := ⟨some 35, _, _, _, _, _⟩) (v := _) rfl (by kernel_rfl) (by kernel_rfl) (by kernel_rfl) (fun _ _ _ h => h) (yieldsIf_build0 (by rfl) rfl HB0.out) (by assumption) ?_
  try simp only [Act.put, List.setIfInBounds_toArray, List.set_cons_zero, List.set_cons_succ]
  refine wpAnyH_take (i := 9) (oi := ⟨some 37, _, _, _, _, _⟩) (v := _) rfl (by kernel_rfl) (by kernel_rfl) (by kernel_rfl) (fun _ _ _ h => h) (yieldsIf_load_mid (by rfl) _ (.tmp 3) rfl _ _ rfl (cells8 a) _ (fun W hW => hW.a.range (take_all32 HLa.out)) huD rfl (hiD a HLa.out)) (by assumption) ?_
  try simp only [Act.put, List.setIfInBounds_toArray, List.set_cons_zero, List.set_cons_succ]
  refine wpAnyH_ready (rs := [8]) (by kernel_rfl) (by simp) ?_
  refine AllReadyH.cons (o := ⟨some 36, _, _, _, _, _⟩) rfl (fun K hK => ?_) AllReadyH.nil
  go_simp
  refine (C3.out _).mono ?_
  rintro e w52 ⟨rfl, hb'⟩
  refine hK.out _ _ (hHeld.next hb') (fun hHeld2 => ?_)
  clear hb'
  clear hK K hHeld
  have hHeld := hHeld2
  clear hHeld2
  try simp only [Act.put, List.setIfInBounds_toArray, List.set_cons_zero, List.set_cons_succ]
  refine wpAnyH_take (i := 10) (oi := ⟨some 38, _, _, _, _, _⟩) (v := _) rfl (by kernel_rfl) (by kernel_rfl) (by kernel_rfl) (fun _ _ _ h => h) (yieldsIf_eql (by rfl) eqDig Try.eqGuardType23 (.tmp 36) (.tmp 37) rfl a a rfl rfl Hal.out Hal.out (beq_self_eq_true _)) (by assumption) ?_
  try simp only [Act.put, List.setIfInBounds_toArray, List.set_cons_zero, List.set_cons_succ]
  refine wpAnyH_take (i := 11) (oi := ⟨some 39, _, _, _, _, _⟩) (v := ?_) rfl (by kernel_rfl) (by kernel_rfl) (by kernel_rfl) (fun _ _ _ h => h) (Or.inl ⟨by rfl, by intro w hSw; go_simp; try rfl⟩) (by assumption) ?_
  try simp only [Act.put, List.setIfInBounds_toArray, List.set_cons_zero, List.set_cons_succ]
  refine wpAnyH_take (i := 12) (oi := ⟨some 40, _, _, _, _, _⟩) (v := ?_) rfl (by kernel_rfl) (by kernel_rfl) (by kernel_rfl) (fun _ _ _ h => h) (Or.inl ⟨by rfl, by intro w hSw; go_simp; try rfl⟩) (by assumption) ?_
  try simp only [Act.put, List.setIfInBounds_toArray, List.set_cons_zero, List.set_cons_succ]
  refine wpAnyH_take (i := 13) (oi := ⟨some 41, _, _, _, _, _⟩) (v := _) rfl (by kernel_rfl) (by kernel_rfl) (by kernel_rfl) (fun _ _ _ h => h) (yieldsIf_load_mid (by rfl) _ (.tmp 8) rfl _ _ rfl (cells8 F) _ (fun W hW => hW.c.range (take_all32 HLF.out)) huD rfl (hiD F HLF.out)) (by assumption) ?_
  try simp only [Act.put, List.setIfInBounds_toArray, List.set_cons_zero, List.set_cons_succ]
  refine wpAnyH_take (i := 14) (oi := ⟨some 42, _, _, _, _, _⟩) (v := _) rfl (by kernel_rfl) (by kernel_rfl) (by kernel_rfl) (fun _ _ _ h => h) (yieldsIf_load_mid (by rfl) _ (.tmp 3) rfl _ _ rfl (cells8 a) _ (fun W hW => hW.a.range (take_all32 HLa.out)) huD rfl (hiD a HLa.out)) (by assumption) ?_
  try simp only [Act.put, List.setIfInBounds_toArray, List.set_cons_zero, List.set_cons_succ]
  refine wpAnyH_ready (rs := [15]) (by kernel_rfl) (by simp) ?_
  refine AllReadyH.cons (o := ⟨some 43, _, _, _, _, _⟩) rfl (fun K hK => ?_) AllReadyH.nil
  go_simp
  refine (C4.out _).mono ?_
  rintro e w53 ⟨rfl, hb'⟩
  refine hK.out _ _ (hHeld.next hb') (fun hHeld2 => ?_)
  clear hb'
  clear hK K hHeld
  have hHeld := hHeld2
  clear hHeld2
  try simp only [Act.put, List.setIfInBounds_toArray, List.set_cons_zero, List.set_cons_succ]
  refine wpAnyH_take (i := 16) (oi := ⟨some 44, _, _, _, _, _⟩) (v := ?_) rfl (by kernel_rfl) (by kernel_rfl) (by kernel_rfl) (fun _ _ _ h => h) (Or.inl ⟨by rfl, by intro w hSw; go_simp; try rfl⟩) (by assumption) ?_
  try simp only [Act.put, List.setIfInBounds_toArray, List.set_cons_zero, List.set_cons_succ]
  refine wpAnyH_take (i := 17) (oi := ⟨some 45, _, _, _, _, _⟩) (v := ?_) rfl (by kernel_rfl) (by kernel_rfl) (by kernel_rfl) (fun _ _ _ h => h) (Or.inl ⟨by rfl, by intro w hSw; go_simp; try rfl⟩) (by assumption) ?_
  try simp only [Act.put, List.setIfInBounds_toArray, List.set_cons_zero, List.set_cons_succ]
  refine wpAnyH_take (i := 18) (oi := ⟨some 46, _, _, _, _, _⟩) (v := ?_) rfl (by kernel_rfl) (by kernel_rfl) (by kernel_rfl) (fun _ _ _ h => h) (Or.inl ⟨by rfl, by intro w hSw; go_simp; try rfl⟩) (by assumption) ?_
  try simp only [Act.put, List.setIfInBounds_toArray, List.set_cons_zero, List.set_cons_succ]
  refine wpAnyH_take (i := 19) (oi := ⟨some 47, _, _, _, _, _⟩) (v := _) rfl (by kernel_rfl) (by kernel_rfl) (by kernel_rfl) (fun _ _ _ h => h) (yieldsIf_load_mid (by rfl) _ (.tmp 3) rfl _ _ rfl (cells8 a) _ (fun W hW => hW.a.range (take_all32 HLa.out)) huD rfl (hiD a HLa.out)) (by assumption) ?_
  try simp only [Act.put, List.setIfInBounds_toArray, List.set_cons_zero, List.set_cons_succ]
  refine wpAnyH_take (i := 20) (oi := ⟨some 48, _, _, _, _, _⟩) (v := _) rfl (by kernel_rfl) (by kernel_rfl) (by kernel_rfl) (fun _ _ _ h => h) (yieldsIf_build0 (by rfl) rfl HB0.out) (by assumption) ?_
  try simp only [Act.put, List.setIfInBounds_toArray, List.set_cons_zero, List.set_cons_succ]
  refine wpAnyH_ready (rs := [21]) (by kernel_rfl) (by simp) ?_
  refine AllReadyH.cons (o := ⟨some 49, _, _, _, _, _⟩) rfl (fun K hK => ?_) AllReadyH.nil
  go_simp
  refine (C5.out _).mono ?_
  rintro e w54 ⟨rfl, hb'⟩
  refine hK.out _ _ (hHeld.next hb') (fun hHeld2 => ?_)
  clear hb'
  clear hK K hHeld
  have hHeld := hHeld2
  clear hHeld2
  try simp only [Act.put, List.setIfInBounds_toArray, List.set_cons_zero, List.set_cons_succ]
  refine wpAnyH_take (i := 22) (oi := ⟨some 50, _, _, _, _, _⟩) (v := ?_) rfl (by kernel_rfl) (by kernel_rfl) (by kernel_rfl) (fun _ _ _ h => h) (Or.inl ⟨by rfl, by intro w hSw; go_simp; try rfl⟩) (by assumption) ?_
  try simp only [Act.put, List.setIfInBounds_toArray, List.set_cons_zero, List.set_cons_succ]
  refine wpAnyH_take (i := 23) (oi := ⟨some 51, _, _, _, _, _⟩) (v := ?_) rfl (by kernel_rfl) (by kernel_rfl) (by kernel_rfl) (fun _ _ _ h => h) (Or.inl ⟨by rfl, by intro w hSw; go_simp; try rfl⟩) (by assumption) ?_
  try simp only [Act.put, List.setIfInBounds_toArray, List.set_cons_zero, List.set_cons_succ]
  refine wpAnyH_take (i := 24) (oi := ⟨some 52, _, _, _, _, _⟩) (v := ?_) rfl (by kernel_rfl) (by kernel_rfl) (by kernel_rfl) (fun _ _ _ h => h) (Or.inl ⟨by rfl, by intro w hSw; go_simp; try rfl⟩) (by assumption) ?_
  try simp only [Act.put, List.setIfInBounds_toArray, List.set_cons_zero, List.set_cons_succ]
  refine wpAnyH_take (i := 25) (oi := ⟨some 53, _, _, _, _, _⟩) (v := _) rfl (by kernel_rfl) (by kernel_rfl) (by kernel_rfl) (fun _ _ _ h => h) (yieldsIf_load_mid (by rfl) _ (.tmp 8) rfl _ _ rfl (cells8 F) _ (fun W hW => hW.c.range (take_all32 HLF.out)) huD rfl (hiD F HLF.out)) (by assumption) ?_
  try simp only [Act.put, List.setIfInBounds_toArray, List.set_cons_zero, List.set_cons_succ]
  refine wpAnyH_take (i := 26) (oi := ⟨some 54, _, _, _, _, _⟩) (v := _) rfl (by kernel_rfl) (by kernel_rfl) (by kernel_rfl) (fun _ _ _ h => h) (yieldsIf_load_mid (by rfl) _ (.tmp 7) rfl _ _ rfl (cells8 U) _ (fun W hW => hW.b.range (take_all32 HLU.out)) huD rfl (hiD U HLU.out)) (by assumption) ?_
  try simp only [Act.put, List.setIfInBounds_toArray, List.set_cons_zero, List.set_cons_succ]
  refine wpAnyH_take (i := 28) (oi := ⟨some 56, _, _, _, _, _⟩) (v := _) rfl (by kernel_rfl) (by kernel_rfl) (by kernel_rfl) (fun _ _ _ h => h) (yieldsIf_build0 (by rfl) rfl HB0.out) (by assumption) ?_
  try simp only [Act.put, List.setIfInBounds_toArray, List.set_cons_zero, List.set_cons_succ]
  refine wpAnyH_ready (rs := [27]) (by kernel_rfl) (by simp) ?_
  refine AllReadyH.cons (o := ⟨some 55, _, _, _, _, _⟩) rfl (fun K hK => ?_) AllReadyH.nil
  go_simp
  refine (C6.out _).mono ?_
  rintro e w55 ⟨rfl, hb'⟩
  refine hK.out _ _ (hHeld.next hb') (fun hHeld2 => ?_)
  clear hb'
  clear hK K hHeld
  have hHeld := hHeld2
  clear hHeld2
  try simp only [Act.put, List.setIfInBounds_toArray, List.set_cons_zero, List.set_cons_succ]
  refine wpAnyH_take (i := 29) (oi := ⟨some 57, _, _, _, _, _⟩) (v := _) rfl (by kernel_rfl) (by kernel_rfl) (by kernel_rfl) (fun _ _ _ h => h) (yieldsIf_eql (by rfl) eqDig Try.eqGuardType23 (.tmp 55) (.tmp 56) rfl Z Z rfl rfl HZl.out HZl.out (beq_self_eq_true _)) (by assumption) ?_
  try simp only [Act.put, List.setIfInBounds_toArray, List.set_cons_zero, List.set_cons_succ]
  refine wpAnyH_take (i := 30) (oi := ⟨some 58, _, _, _, _, _⟩) (v := ?_) rfl (by kernel_rfl) (by kernel_rfl) (by kernel_rfl) (fun _ _ _ h => h) (Or.inl ⟨by rfl, by intro w hSw; go_simp; try rfl⟩) (by assumption) ?_
  try simp only [Act.put, List.setIfInBounds_toArray, List.set_cons_zero, List.set_cons_succ]
  refine wpAnyH_take (i := 31) (oi := ⟨some 59, _, _, _, _, _⟩) (v := ?_) rfl (by kernel_rfl) (by kernel_rfl) (by kernel_rfl) (fun _ _ _ h => h) (Or.inl ⟨by rfl, by intro w hSw; go_simp; try rfl⟩) (by assumption) ?_
  try simp only [Act.put, List.setIfInBounds_toArray, List.set_cons_zero, List.set_cons_succ]
  refine wpAnyH_ready (rs := [32]) (by kernel_rfl) (by simp) ?_
  refine AllReadyH.cons (o := ⟨some 60, _, _, _, _, _⟩) rfl (fun K hK => ?_) AllReadyH.nil
  go_simp
  refine (known5_any _).mono ?_
  rintro e w56 ⟨rfl, hb'⟩
  refine hK.out _ _ (hHeld.next hb') (fun hHeld2 => ?_)
  clear hb'
  clear hK K hHeld
  have hHeld := hHeld2
  clear hHeld2
  try simp only [Act.put, List.setIfInBounds_toArray, List.set_cons_zero, List.set_cons_succ]
  refine wpAnyH_take (i := 33) (oi := ⟨some 61, _, _, _, _, _⟩) (v := ?_) rfl (by kernel_rfl) (by kernel_rfl) (by kernel_rfl) (fun _ _ _ h => h) (Or.inl ⟨by rfl, by intro w hSw; go_simp; try rfl⟩) (by assumption) ?_
  try simp only [Act.put, List.setIfInBounds_toArray, List.set_cons_zero, List.set_cons_succ]
  refine wpAnyH_take (i := 34) (oi := ⟨some 6, _, _, _, _, _⟩) (v := ?_) rfl (by kernel_rfl) (by kernel_rfl) (by kernel_rfl) (fun _ _ _ h => h) (Or.inl ⟨by rfl, by intro w hSw; go_simp; try rfl⟩) (by assumption) ?_
  try simp only [Act.put, List.setIfInBounds_toArray, List.set_cons_zero, List.set_cons_succ]
  refine wpAnyH_done (by kernel_rfl) ?_ _
  go_wp2
  go_ret
  exact ⟨by rfl, hHeld.below⟩
set_option maxRecDepth 100000 in
set_option maxHeartbeats 4000000 in
theorem walk_sumLess_2 (a b c : List UInt8) (w : World) (ha : a.length = 32) (hb : b.length = 32) (hc : c.length = 32) (hp : lessL a b = true) (hq : lessL b c = true) (hr : lessL a c = true) : Calls Try.prog 8 #[.agg (cells8 a).toArray, .agg (cells8 b).toArray, .agg (cells8 c).toArray] w fun e w' => e = .returned (.bool true) ∧ Below w.heap.size w w' := by
  have Hal : Kp _ := ⟨ha⟩
  have Hbl : Kp _ := ⟨hb⟩
  have Hcl : Kp _ := ⟨hc⟩
  have HLa : Kp ((cells8 a).length = 32) := ⟨by rw [cells8_length]; exact ha⟩
  have HLb : Kp ((cells8 b).length = 32) := ⟨by rw [cells8_length]; exact hb⟩
  have HLc : Kp ((cells8 c).length = 32) := ⟨by rw [cells8_length]; exact hc⟩
  obtain ⟨Z, hZ⟩ : ∃ x, x = z32 := ⟨_, rfl⟩
  have HZl : Kp (Z.length = 32) := ⟨by rw [hZ]; exact z32_length⟩
  have HLZ : Kp ((cells8 Z).length = 32) := ⟨by rw [cells8_length]; exact HZl.out⟩
  obtain ⟨U, hU⟩ : ∃ x, x = oneL := ⟨_, rfl⟩
  have HUl : Kp (U.length = 32) := ⟨by rw [hU]; exact by decide⟩
  have HLU : Kp ((cells8 U).length = 32) := ⟨by rw [cells8_length]; exact HUl.out⟩
  obtain ⟨F, hF⟩ : ∃ x, x = ffL 32 := ⟨_, rfl⟩
  have HFl : Kp (F.length = 32) := ⟨by rw [hF]; exact by decide⟩
  have HLF : Kp ((cells8 F).length = 32) := ⟨by rw [cells8_length]; exact HFl.out⟩
  have HB0 : Kp ((Try.prog).built 23 [] = some (cells8 Z).toArray) := ⟨by rw [hZ]; exact dig_built0⟩
  have HZz : Kp (zero32.length = 32) := ⟨rfl⟩
  have HUs : Kp ((cells8 Z).set 31 (.int .u8 1) = cells8 U) := ⟨by rw [hU, hZ]; exact cells8_set' z32 31 1⟩
  have hc31 : (cells8 Z)[31]? = some (.int .u8 0) := by rw [hZ, cells8_at z32 31 (by decide)]; rfl
  have CP : Kp (∀ W, Calls Try.prog 14 #[.agg (cells8 a).toArray, .agg (cells8 b).toArray] W fun e w' => e = .returned (.bool true) ∧ Below W.heap.size W w') := ⟨fun W => by
    have h := less_any a b W Hal.out Hbl.out
    rw [show lessL a b = true by exact hp] at h; exact h⟩
  have CQ : Kp (∀ W, Calls Try.prog 14 #[.agg (cells8 b).toArray, .agg (cells8 c).toArray] W fun e w' => e = .returned (.bool true) ∧ Below W.heap.size W w') := ⟨fun W => by
    have h := less_any b c W Hbl.out Hcl.out
    rw [show lessL b c = true by exact hq] at h; exact h⟩
  have CR : Kp (∀ W, Calls Try.prog 14 #[.agg (cells8 a).toArray, .agg (cells8 c).toArray] W fun e w' => e = .returned (.bool true) ∧ Below W.heap.size W w') := ⟨fun W => by
    have h := less_any a c W Hal.out Hcl.out
    rw [show lessL a c = true by exact hr] at h; exact h⟩
  have C1 : Kp (∀ W, Calls Try.prog 12 #[.agg (cells8 Z).toArray, .agg (cells8 U).toArray] W fun e w' => e = .returned (.agg (cells8 F).toArray) ∧ Below W.heap.size W w') := ⟨fun W => by
    have h := ssub_any Z U W HZl.out HUl.out
    rw [show subL Z U = F by rw [hZ, hU, hF]; exact known_sub] at h; exact h⟩
  have C2 : Kp (∀ W, Calls Try.prog 10 #[.agg (cells8 a).toArray, .agg (cells8 Z).toArray] W fun e w' => e = .returned (.agg (cells8 a).toArray) ∧ Below W.heap.size W w') := ⟨fun W => by
    have h := sadd_any a Z W Hal.out HZl.out
    rw [show addL a Z = a by rw [hZ]; exact add_zero ha] at h; exact h⟩
  have C3 : Kp (∀ W, Calls Try.prog 12 #[.agg (cells8 a).toArray, .agg (cells8 Z).toArray] W fun e w' => e = .returned (.agg (cells8 a).toArray) ∧ Below W.heap.size W w') := ⟨fun W => by
    have h := ssub_any a Z W Hal.out HZl.out
    rw [show subL a Z = a by rw [hZ]; exact sub_zero ha] at h; exact h⟩
  have C4 : Kp (∀ W, Calls Try.prog 14 #[.agg (cells8 F).toArray, .agg (cells8 a).toArray] W fun e w' => e = .returned (.bool false) ∧ Below W.heap.size W w') := ⟨fun W => by
    have h := less_any F a W HFl.out Hal.out
    rw [show lessL F a = false by rw [hF]; exact most_less ha] at h; exact h⟩
  have C5 : Kp (∀ W, Calls Try.prog 14 #[.agg (cells8 a).toArray, .agg (cells8 Z).toArray] W fun e w' => e = .returned (.bool false) ∧ Below W.heap.size W w') := ⟨fun W => by
    have h := less_any a Z W Hal.out HZl.out
    rw [show lessL a Z = false by rw [hZ]; exact less_zero a] at h; exact h⟩
  have C6 : Kp (∀ W, Calls Try.prog 10 #[.agg (cells8 F).toArray, .agg (cells8 U).toArray] W fun e w' => e = .returned (.agg (cells8 Z).toArray) ∧ Below W.heap.size W w') := ⟨fun W => by
    have h := sadd_any F U W HFl.out HUl.out
    rw [show addL F U = Z by rw [hF, hU, hZ]; exact known_add] at h; exact h⟩
  clear hp hq hr hZ hU hF ha hb hc
  go_enter Try.func8, Try.ntmps8
  go_wp2_with (with_reducible refine wpList_box (o := ⟨some 3, _, _, _, _, _⟩) rfl (.tmp 0) rfl rfl ?_)
  intro w1 hk1 hb1 hs1
  have HA1 : Kp _ := ⟨hk1⟩
  clear hk1 hs1
  go_wp2_with (with_reducible refine wpList_box (o := ⟨some 4, _, _, _, _, _⟩) rfl (.tmp 1) rfl rfl ?_)
  intro w2 hk2 hb2 hs2
  have HB2 : Kp _ := ⟨hk2⟩
  have HA2 : Kp _ := ⟨HA1.out.below hb2 HA1.out.lt⟩
  have hB2 := hb1.trans (hb2.mono hb1.size)
  have n1 : w.heap.size < w1.heap.size := HA1.out.lt
  obtain ⟨gb, hgb⟩ : ∃ g, g = w1.heap.size := ⟨_, rfl⟩
  rw [← hgb] at HB2 n1 ⊢
  clear hk2 hs2 hb1 hb2 HA1 hgb
  go_wp2_with (with_reducible refine wpList_box (o := ⟨some 5, _, _, _, _, _⟩) rfl (.tmp 2) rfl rfl ?_)
  intro w3 hk3 hb3 hs3
  have HC3 : Kp _ := ⟨hk3⟩
  have HA3 : Kp _ := ⟨HA2.out.below hb3 HA2.out.lt⟩
  have HB3 : Kp _ := ⟨HB2.out.below hb3 HB2.out.lt⟩
  have hB3 := hB2.trans (hb3.mono hB2.size)
  have n2 : gb < w2.heap.size := HB2.out.lt
  obtain ⟨gc, hgc⟩ : ∃ g, g = w2.heap.size := ⟨_, rfl⟩
  rw [← hgc] at HC3 n2 ⊢
  clear hk3 hs3 hB2 hb3 HA2 HB2 hgc
  have hT3 : Keep4 w w.heap.size gb gc gc 23 (cells8 a) (cells8 b) (cells8 c) (cells8 c) w3 := ⟨HA3.out, HB3.out, HC3.out, HC3.out, hB3⟩
  have n3 : gc < w3.heap.size := HC3.out.lt
  clear HA3 HB3 HC3 hB3
  go_wp2_with (first
    | (with_reducible refine wpList_loadAll (o := ⟨some 9, _, _, _, _, _⟩) rwDig rfl (.tmp 3) rfl rfl hT3.a HLa.out ?_)
    | (with_reducible refine wpList_loadAll (o := ⟨some 10, _, _, _, _, _⟩) rwDig rfl (.tmp 4) rfl rfl hT3.b HLb.out ?_))
  go_wp2_with fail
  refine (CP.out _).mono ?_
  rintro e w4 ⟨rfl, hb4⟩
  have hT4 := hT3.next hb4
  have n4 : gc < w4.heap.size := hT4.c.lt
  clear hb4 hT3 n3
  go_wp2_with (first
    | (refine wpList_loadAll_g (o := ⟨some 13, _, _, _, _, _⟩) rwDig (by rfl) (.tmp 4) rfl rfl hT4.b HLb.out ?_)
    | (refine wpList_loadAll_g (o := ⟨some 14, _, _, _, _, _⟩) rwDig (by rfl) (.tmp 5) rfl rfl hT4.c HLc.out ?_))
  go_wp2_with fail
  refine (CQ.out _).mono ?_
  rintro e w5 ⟨rfl, hb5⟩
  have hT5 := hT4.next hb5
  have n5 : gc < w5.heap.size := hT5.c.lt
  clear hb5 hT4 n4
  go_wp2_with (first
    | (refine wpList_loadAll_g (o := ⟨some 18, _, _, _, _, _⟩) rwDig (by rfl) (.tmp 3) rfl rfl hT5.a HLa.out ?_)
    | (refine wpList_loadAll_g (o := ⟨some 19, _, _, _, _, _⟩) rwDig (by rfl) (.tmp 5) rfl rfl hT5.c HLc.out ?_))
  go_wp2_with fail
  refine (CR.out _).mono ?_
  rintro e w6 ⟨rfl, hb6⟩
  have hT6 := hT5.next hb6
  have n6 : gc < w6.heap.size := hT6.c.lt
  clear hb6 hT5 n5
  obtain ⟨x0, hx0⟩ : ∃ x, x = w6 := ⟨_, rfl⟩
  rw [← hx0] at hT6 n6 ⊢
  clear hx0
  go_wp2_with (first
    | (refine wpList_build0 (o := ⟨some 23, _, _, _, _, _⟩) rfl rfl HB0.out ?_)
    | (with_reducible refine wpList_alloc (o := ⟨some 7, _, _, _, _, _⟩) tyDig rfl rfl ?_))
  intro x1 hk1 hb1 hs1
  have HO1 : Kp _ := ⟨hk1⟩
  have hT9 := hT6.next hb1
  obtain ⟨go, hgo⟩ : ∃ g, g = x0.heap.size := ⟨_, rfl⟩
  rw [← hgo] at HO1 n6 ⊢
  clear hk1 hb1 hs1 hT6 hgo
  go_wp2_with (refine wpList_storeAll (o := ⟨none, _, _, _, _, _⟩) (vs := cells8 Z) rwDig rfl (.tmp 7) (.tmp 23) rfl rfl HO1.out HZz.out HLZ.out (cells8_one _) rfl ?_)
  intro x2 hk2 ho2
  have HO2 : Kp _ := ⟨hk2⟩
  have HA2 : Kp (Blk x2 w.heap.size 23 (cells8 a)) := ⟨hT9.a.only ho2 (by omega)⟩
  have hB2 := hT9.below.trans (ho2.below (by omega))
  have hco : x2.cell? ⟨go, 31, none⟩ = some (.int .u8 0) := by rw [HO2.out.cell?]; exact hc31
  have hfo := HO2.out.frozen 31
  clear hk2 ho2 HO1 hT9
  have HO3 : Kp (Blk (x2.setCell ⟨go, 31, none⟩ (.int .u8 1)) go 23 (cells8 U)) := ⟨by have h := HO2.out.set 31 (.int .u8 1); rw [HUs.out] at h; exact h⟩
  have HA3 : Kp (Blk (x2.setCell ⟨go, 31, none⟩ (.int .u8 1)) w.heap.size 23 (cells8 a)) := ⟨HA2.out.other (by show w.heap.size ≠ go; omega) _⟩
  have hB3 : Below w.heap.size w (x2.setCell ⟨go, 31, none⟩ (.int .u8 1)) := hB2.setCell (by show w.heap.size ≤ go; omega) _
  clear hB2 HA2 HO2
  go_wp2_with (first
    | (refine wpList_build0 (o := ⟨some 25, _, _, _, _, _⟩) rfl rfl HB0.out ?_)
    | (with_reducible refine wpList_loadAll (o := ⟨some 26, _, _, _, _, _⟩) rwDig rfl (.tmp 7) rfl rfl HO3.out HLU.out ?_))
  go_wp2_with fail
  generalize x2.setCell ⟨go, 31, none⟩ (.int .u8 1) = x3 at *
  clear hco hfo
  refine (C1.out _).mono ?_
  rintro e x4 ⟨rfl, hb4⟩
  have HO4 : Kp _ := ⟨HO3.out.below hb4 HO3.out.lt⟩
  have HA4 : Kp _ := ⟨HA3.out.below hb4 HA3.out.lt⟩
  have hB4 := hB3.trans (hb4.mono hB3.size)
  have m4 : go < x4.heap.size := HO4.out.lt
  clear hb4 HO3 HA3 hB3
  go_wp2_with (with_reducible refine wpList_alloc (o := ⟨some 8, _, _, _, _, _⟩) tyDig rfl rfl ?_)
  intro x5 hk5 hb5 hs5
  have HM5 : Kp _ := ⟨hk5⟩
  have HO5 : Kp _ := ⟨HO4.out.below hb5 HO4.out.lt⟩
  have HA5 : Kp _ := ⟨HA4.out.below hb5 HA4.out.lt⟩
  have hB5 := hB4.trans (hb5.mono hB4.size)
  obtain ⟨gm, hgm⟩ : ∃ g, g = x4.heap.size := ⟨_, rfl⟩
  rw [← hgm] at HM5 m4 ⊢
  clear hk5 hb5 hs5 HO4 HA4 hB4 hgm
  go_wp2_with (refine wpList_storeAll (o := ⟨none, _, _, _, _, _⟩) (vs := cells8 F) rwDig rfl (.tmp 8) (.tmp 27) rfl rfl HM5.out HZz.out HLF.out (cells8_one _) rfl ?_)
  intro x6 hk6 ho6
  have hT7 : Keep4 w w.heap.size go gm gm 23 (cells8 a) (cells8 U) (cells8 F) (cells8 F) x6 := ⟨HA5.out.only ho6 (by omega), HO5.out.only ho6 (by omega), hk6, hk6, hB5.trans (ho6.below (by omega))⟩
  clear hk6 ho6 HM5 HO5 HA5 hB5
  go_wp2_with fail
  refine wp_region_held_drew (S := Keep4 w w.heap.size go gm gm 23 (cells8 a) (cells8 U) (cells8 F) (cells8 F)) (by kernel_rfl) (hT7.drew) (fun hHeld => ?_)
  generalize x6.drew = wS at *
  refine wpAnyH_take (i := 0) (oi := ⟨some 28, _, _, _, _, _⟩) (v := _) rfl (by kernel_rfl) (by kernel_rfl) (by kernel_rfl) (fun _ _ _ h => h) (yieldsIf_load_mid (by rfl) _ (.tmp 3) rfl _ _ rfl (cells8 a) _ (fun W hW => hW.a.range (take_all32 HLa.out)) huD rfl (hiD a HLa.out)) (by assumption) ?_
  try simp only [Act.put, List.setIfInBounds_toArray, List.set_cons_zero, List.set_cons_succ]
  refine wpAnyH_take (i := 1) (oi := ⟨some 29, _, _, _, _, _⟩) (v := _) rfl (by kernel_rfl) (by kernel_rfl) (by kernel_rfl) (fun _ _ _ h => h) (yieldsIf_build0 (by rfl) rfl HB0.out) (by assumption) ?_
  try simp only [Act.put, List.setIfInBounds_toArray, List.set_cons_zero, List.set_cons_succ]
  refine wpAnyH_take (i := 3) (oi := ⟨some 31, _, _, _, _, _⟩) (v := _) rfl (by kernel_rfl) (by kernel_rfl) (by kernel_rfl) (fun _ _ _ h => h) (yieldsIf_load_mid (by rfl) _ (.tmp 3) rfl _ _ rfl (cells8 a) _ (fun W hW => hW.a.range (take_all32 HLa.out)) huD rfl (hiD a HLa.out)) (by assumption) ?_
  try simp only [Act.put, List.setIfInBounds_toArray, List.set_cons_zero, List.set_cons_succ]
  refine wpAnyH_ready (rs := [2]) (by kernel_rfl) (by simp) ?_
  refine AllReadyH.cons (o := ⟨some 30, _, _, _, _, _⟩) rfl (fun K hK => ?_) AllReadyH.nil
  go_simp
  refine (C2.out _).mono ?_
  rintro e w51 ⟨rfl, hb'⟩
  refine hK.out _ _ (hHeld.next hb') (fun hHeld2 => ?_)
  clear hb'
  clear hK K hHeld
  have hHeld := hHeld2
  clear hHeld2
  try simp only [Act.put, List.setIfInBounds_toArray, List.set_cons_zero, List.set_cons_succ]
  refine wpAnyH_take (i := 4) (oi := ⟨some 32, _, _, _, _, _⟩) (v := _) rfl (by kernel_rfl) (by kernel_rfl) (by kernel_rfl) (fun _ _ _ h => h) (yieldsIf_eql (by rfl) eqDig Try.eqGuardType23 (.tmp 30) (.tmp 31) rfl a a rfl rfl Hal.out Hal.out (beq_self_eq_true _)) (by assumption) ?_
  try simp only [Act.put, List.setIfInBounds_toArray, List.set_cons_zero, List.set_cons_succ]
  refine wpAnyH_take (i := 5) (oi := ⟨some 33, _, _, _, _, _⟩) (v := ?_) rfl (by kernel_rfl) (by kernel_rfl) (by kernel_rfl) (fun _ _ _ h => h) (Or.inl ⟨by rfl, by intro w hSw; go_simp; try rfl⟩) (by assumption) ?_
  try simp only [Act.put, List.setIfInBounds_toArray, List.set_cons_zero, List.set_cons_succ]
  refine wpAnyH_take (i := 6) (oi := ⟨some 34, _, _, _, _, _⟩) (v := _) rfl (by kernel_rfl) (by kernel_rfl) (by kernel_rfl) (fun _ _ _ h => h) (yieldsIf_load_mid (by rfl) _ (.tmp 3) rfl _ _ rfl (cells8 a) _ (fun W hW => hW.a.range (take_all32 HLa.out)) huD rfl (hiD a HLa.out)) (by assumption) ?_
  try simp only [Act.put, List.setIfInBounds_toArray, List.set_cons_zero, List.set_cons_succ]
  refine wpAnyH_take (i := 7) (oi := ⟨some 35, _, _, _, _, _⟩) (v := _) rfl (by kernel_rfl) (by kernel_rfl) (by kernel_rfl) (fun _ _ _ h => h) (yieldsIf_build0 (by rfl) rfl HB0.out) (by assumption) ?_
  try simp only [Act.put, List.setIfInBounds_toArray, List.set_cons_zero, List.set_cons_succ]
  refine wpAnyH_take (i := 9) (oi := ⟨some 37, _, _, _, _, _⟩) (v := _) rfl (by kernel_rfl) (by kernel_rfl) (by kernel_rfl) (fun _ _ _ h => h) (yieldsIf_load_mid (by rfl) _ (.tmp 3) rfl _ _ rfl (cells8 a) _ (fun W hW => hW.a.range (take_all32 HLa.out)) huD rfl (hiD a HLa.out)) (by assumption) ?_
  try simp only [Act.put, List.setIfInBounds_toArray, List.set_cons_zero, List.set_cons_succ]
  refine wpAnyH_ready (rs := [8]) (by kernel_rfl) (by simp) ?_
  refine AllReadyH.cons (o := ⟨some 36, _, _, _, _, _⟩) rfl (fun K hK => ?_) AllReadyH.nil
  go_simp
  refine (C3.out _).mono ?_
  rintro e w52 ⟨rfl, hb'⟩
  refine hK.out _ _ (hHeld.next hb') (fun hHeld2 => ?_)
  clear hb'
  clear hK K hHeld
  have hHeld := hHeld2
  clear hHeld2
  try simp only [Act.put, List.setIfInBounds_toArray, List.set_cons_zero, List.set_cons_succ]
  refine wpAnyH_take (i := 10) (oi := ⟨some 38, _, _, _, _, _⟩) (v := _) rfl (by kernel_rfl) (by kernel_rfl) (by kernel_rfl) (fun _ _ _ h => h) (yieldsIf_eql (by rfl) eqDig Try.eqGuardType23 (.tmp 36) (.tmp 37) rfl a a rfl rfl Hal.out Hal.out (beq_self_eq_true _)) (by assumption) ?_
  try simp only [Act.put, List.setIfInBounds_toArray, List.set_cons_zero, List.set_cons_succ]
  refine wpAnyH_take (i := 11) (oi := ⟨some 39, _, _, _, _, _⟩) (v := ?_) rfl (by kernel_rfl) (by kernel_rfl) (by kernel_rfl) (fun _ _ _ h => h) (Or.inl ⟨by rfl, by intro w hSw; go_simp; try rfl⟩) (by assumption) ?_
  try simp only [Act.put, List.setIfInBounds_toArray, List.set_cons_zero, List.set_cons_succ]
  refine wpAnyH_take (i := 12) (oi := ⟨some 40, _, _, _, _, _⟩) (v := ?_) rfl (by kernel_rfl) (by kernel_rfl) (by kernel_rfl) (fun _ _ _ h => h) (Or.inl ⟨by rfl, by intro w hSw; go_simp; try rfl⟩) (by assumption) ?_
  try simp only [Act.put, List.setIfInBounds_toArray, List.set_cons_zero, List.set_cons_succ]
  refine wpAnyH_take (i := 13) (oi := ⟨some 41, _, _, _, _, _⟩) (v := _) rfl (by kernel_rfl) (by kernel_rfl) (by kernel_rfl) (fun _ _ _ h => h) (yieldsIf_load_mid (by rfl) _ (.tmp 8) rfl _ _ rfl (cells8 F) _ (fun W hW => hW.c.range (take_all32 HLF.out)) huD rfl (hiD F HLF.out)) (by assumption) ?_
  try simp only [Act.put, List.setIfInBounds_toArray, List.set_cons_zero, List.set_cons_succ]
  refine wpAnyH_take (i := 14) (oi := ⟨some 42, _, _, _, _, _⟩) (v := _) rfl (by kernel_rfl) (by kernel_rfl) (by kernel_rfl) (fun _ _ _ h => h) (yieldsIf_load_mid (by rfl) _ (.tmp 3) rfl _ _ rfl (cells8 a) _ (fun W hW => hW.a.range (take_all32 HLa.out)) huD rfl (hiD a HLa.out)) (by assumption) ?_
  try simp only [Act.put, List.setIfInBounds_toArray, List.set_cons_zero, List.set_cons_succ]
  refine wpAnyH_ready (rs := [15]) (by kernel_rfl) (by simp) ?_
  refine AllReadyH.cons (o := ⟨some 43, _, _, _, _, _⟩) rfl (fun K hK => ?_) AllReadyH.nil
  go_simp
  refine (C4.out _).mono ?_
  rintro e w53 ⟨rfl, hb'⟩
  refine hK.out _ _ (hHeld.next hb') (fun hHeld2 => ?_)
  clear hb'
  clear hK K hHeld
  have hHeld := hHeld2
  clear hHeld2
  try simp only [Act.put, List.setIfInBounds_toArray, List.set_cons_zero, List.set_cons_succ]
  refine wpAnyH_take (i := 16) (oi := ⟨some 44, _, _, _, _, _⟩) (v := ?_) rfl (by kernel_rfl) (by kernel_rfl) (by kernel_rfl) (fun _ _ _ h => h) (Or.inl ⟨by rfl, by intro w hSw; go_simp; try rfl⟩) (by assumption) ?_
  try simp only [Act.put, List.setIfInBounds_toArray, List.set_cons_zero, List.set_cons_succ]
  refine wpAnyH_take (i := 17) (oi := ⟨some 45, _, _, _, _, _⟩) (v := ?_) rfl (by kernel_rfl) (by kernel_rfl) (by kernel_rfl) (fun _ _ _ h => h) (Or.inl ⟨by rfl, by intro w hSw; go_simp; try rfl⟩) (by assumption) ?_
  try simp only [Act.put, List.setIfInBounds_toArray, List.set_cons_zero, List.set_cons_succ]
  refine wpAnyH_take (i := 18) (oi := ⟨some 46, _, _, _, _, _⟩) (v := ?_) rfl (by kernel_rfl) (by kernel_rfl) (by kernel_rfl) (fun _ _ _ h => h) (Or.inl ⟨by rfl, by intro w hSw; go_simp; try rfl⟩) (by assumption) ?_
  try simp only [Act.put, List.setIfInBounds_toArray, List.set_cons_zero, List.set_cons_succ]
  refine wpAnyH_take (i := 19) (oi := ⟨some 47, _, _, _, _, _⟩) (v := _) rfl (by kernel_rfl) (by kernel_rfl) (by kernel_rfl) (fun _ _ _ h => h) (yieldsIf_load_mid (by rfl) _ (.tmp 3) rfl _ _ rfl (cells8 a) _ (fun W hW => hW.a.range (take_all32 HLa.out)) huD rfl (hiD a HLa.out)) (by assumption) ?_
  try simp only [Act.put, List.setIfInBounds_toArray, List.set_cons_zero, List.set_cons_succ]
  refine wpAnyH_take (i := 20) (oi := ⟨some 48, _, _, _, _, _⟩) (v := _) rfl (by kernel_rfl) (by kernel_rfl) (by kernel_rfl) (fun _ _ _ h => h) (yieldsIf_build0 (by rfl) rfl HB0.out) (by assumption) ?_
  try simp only [Act.put, List.setIfInBounds_toArray, List.set_cons_zero, List.set_cons_succ]
  refine wpAnyH_ready (rs := [21]) (by kernel_rfl) (by simp) ?_
  refine AllReadyH.cons (o := ⟨some 49, _, _, _, _, _⟩) rfl (fun K hK => ?_) AllReadyH.nil
  go_simp
  refine (C5.out _).mono ?_
  rintro e w54 ⟨rfl, hb'⟩
  refine hK.out _ _ (hHeld.next hb') (fun hHeld2 => ?_)
  clear hb'
  clear hK K hHeld
  have hHeld := hHeld2
  clear hHeld2
  try simp only [Act.put, List.setIfInBounds_toArray, List.set_cons_zero, List.set_cons_succ]
  refine wpAnyH_take (i := 22) (oi := ⟨some 50, _, _, _, _, _⟩) (v := ?_) rfl (by kernel_rfl) (by kernel_rfl) (by kernel_rfl) (fun _ _ _ h => h) (Or.inl ⟨by rfl, by intro w hSw; go_simp; try rfl⟩) (by assumption) ?_
  try simp only [Act.put, List.setIfInBounds_toArray, List.set_cons_zero, List.set_cons_succ]
  refine wpAnyH_take (i := 23) (oi := ⟨some 51, _, _, _, _, _⟩) (v := ?_) rfl (by kernel_rfl) (by kernel_rfl) (by kernel_rfl) (fun _ _ _ h => h) (Or.inl ⟨by rfl, by intro w hSw; go_simp; try rfl⟩) (by assumption) ?_
  try simp only [Act.put, List.setIfInBounds_toArray, List.set_cons_zero, List.set_cons_succ]
  refine wpAnyH_take (i := 24) (oi := ⟨some 52, _, _, _, _, _⟩) (v := ?_) rfl (by kernel_rfl) (by kernel_rfl) (by kernel_rfl) (fun _ _ _ h => h) (Or.inl ⟨by rfl, by intro w hSw; go_simp; try rfl⟩) (by assumption) ?_
  try simp only [Act.put, List.setIfInBounds_toArray, List.set_cons_zero, List.set_cons_succ]
  refine wpAnyH_take (i := 25) (oi := ⟨some 53, _, _, _, _, _⟩) (v := _) rfl (by kernel_rfl) (by kernel_rfl) (by kernel_rfl) (fun _ _ _ h => h) (yieldsIf_load_mid (by rfl) _ (.tmp 8) rfl _ _ rfl (cells8 F) _ (fun W hW => hW.c.range (take_all32 HLF.out)) huD rfl (hiD F HLF.out)) (by assumption) ?_
  try simp only [Act.put, List.setIfInBounds_toArray, List.set_cons_zero, List.set_cons_succ]
  refine wpAnyH_take (i := 26) (oi := ⟨some 54, _, _, _, _, _⟩) (v := _) rfl (by kernel_rfl) (by kernel_rfl) (by kernel_rfl) (fun _ _ _ h => h) (yieldsIf_load_mid (by rfl) _ (.tmp 7) rfl _ _ rfl (cells8 U) _ (fun W hW => hW.b.range (take_all32 HLU.out)) huD rfl (hiD U HLU.out)) (by assumption) ?_
  try simp only [Act.put, List.setIfInBounds_toArray, List.set_cons_zero, List.set_cons_succ]
  refine wpAnyH_take (i := 28) (oi := ⟨some 56, _, _, _, _, _⟩) (v := _) rfl (by kernel_rfl) (by kernel_rfl) (by kernel_rfl) (fun _ _ _ h => h) (yieldsIf_build0 (by rfl) rfl HB0.out) (by assumption) ?_
  try simp only [Act.put, List.setIfInBounds_toArray, List.set_cons_zero, List.set_cons_succ]
  refine wpAnyH_ready (rs := [27]) (by kernel_rfl) (by simp) ?_
  refine AllReadyH.cons (o := ⟨some 55, _, _, _, _, _⟩) rfl (fun K hK => ?_) AllReadyH.nil
  go_simp
  refine (C6.out _).mono ?_
  rintro e w55 ⟨rfl, hb'⟩
  refine hK.out _ _ (hHeld.next hb') (fun hHeld2 => ?_)
  clear hb'
  clear hK K hHeld
  have hHeld := hHeld2
  clear hHeld2
  try simp only [Act.put, List.setIfInBounds_toArray, List.set_cons_zero, List.set_cons_succ]
  refine wpAnyH_take (i := 29) (oi := ⟨some 57, _, _, _, _, _⟩) (v := _) rfl (by kernel_rfl) (by kernel_rfl) (by kernel_rfl) (fun _ _ _ h => h) (yieldsIf_eql (by rfl) eqDig Try.eqGuardType23 (.tmp 55) (.tmp 56) rfl Z Z rfl rfl HZl.out HZl.out (beq_self_eq_true _)) (by assumption) ?_
  try simp only [Act.put, List.setIfInBounds_toArray, List.set_cons_zero, List.set_cons_succ]
  refine wpAnyH_take (i := 30) (oi := ⟨some 58, _, _, _, _, _⟩) (v := ?_) rfl (by kernel_rfl) (by kernel_rfl) (by kernel_rfl) (fun _ _ _ h => h) (Or.inl ⟨by rfl, by intro w hSw; go_simp; try rfl⟩) (by assumption) ?_
  try simp only [Act.put, List.setIfInBounds_toArray, List.set_cons_zero, List.set_cons_succ]
  refine wpAnyH_take (i := 31) (oi := ⟨some 59, _, _, _, _, _⟩) (v := ?_) rfl (by kernel_rfl) (by kernel_rfl) (by kernel_rfl) (fun _ _ _ h => h) (Or.inl ⟨by rfl, by intro w hSw; go_simp; try rfl⟩) (by assumption) ?_
  try simp only [Act.put, List.setIfInBounds_toArray, List.set_cons_zero, List.set_cons_succ]
  refine wpAnyH_ready (rs := [32]) (by kernel_rfl) (by simp) ?_
  refine AllReadyH.cons (o := ⟨some 60, _, _, _, _, _⟩) rfl (fun K hK => ?_) AllReadyH.nil
  go_simp
  refine (known5_any _).mono ?_
  rintro e w56 ⟨rfl, hb'⟩
  refine hK.out _ _ (hHeld.next hb') (fun hHeld2 => ?_)
  clear hb'
  clear hK K hHeld
  have hHeld := hHeld2
  clear hHeld2
  try simp only [Act.put, List.setIfInBounds_toArray, List.set_cons_zero, List.set_cons_succ]
  refine wpAnyH_take (i := 33) (oi := ⟨some 61, _, _, _, _, _⟩) (v := ?_) rfl (by kernel_rfl) (by kernel_rfl) (by kernel_rfl) (fun _ _ _ h => h) (Or.inl ⟨by rfl, by intro w hSw; go_simp; try rfl⟩) (by assumption) ?_
  try simp only [Act.put, List.setIfInBounds_toArray, List.set_cons_zero, List.set_cons_succ]
  refine wpAnyH_take (i := 34) (oi := ⟨some 6, _, _, _, _, _⟩) (v := ?_) rfl (by kernel_rfl) (by kernel_rfl) (by kernel_rfl) (fun _ _ _ h => h) (Or.inl ⟨by rfl, by intro w hSw; go_simp; try rfl⟩) (by assumption) ?_
  try simp only [Act.put, List.setIfInBounds_toArray, List.set_cons_zero, List.set_cons_succ]
  refine wpAnyH_done (by kernel_rfl) ?_ _
  go_wp2
  go_ret
  exact ⟨by rfl, hHeld.below⟩
theorem law_sumLess (a b c : List UInt8) (w : World) (ha : a.length = 32) (hb : b.length = 32) (hc : c.length = 32) : Calls Try.prog 8 #[.agg (cells8 a).toArray, .agg (cells8 b).toArray, .agg (cells8 c).toArray] w fun e w' => e = .returned (.bool true) ∧ Below w.heap.size w w' := by
  by_cases h1 : getN a < getN b
  · by_cases h2 : getN b < getN c
    · exact walk_sumLess_2 a b c w ha hb hc (lessL_true h1) (lessL_true h2) (lessL_true (Nat.lt_trans h1 h2))
    · exact walk_sumLess_1 a b c w ha hb hc (lessL_true h1) (lessL_false h2)
  · exact walk_sumLess_0 a b c w ha hb hc (lessL_false h1)
end Go.Proofs.Ytjllfaeamjadcaa
