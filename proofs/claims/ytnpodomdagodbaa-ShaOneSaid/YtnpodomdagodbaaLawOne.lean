/- The walk of ShaOne. -/
import Derived.Test.YtnpodomdagodbaaLawPads
namespace Go.Proofs.Ytnpodomdagodbaa
open Go.RowKit

theorem ls_nil (W : World) (t : TypeId) {A B : Option Addr} {n c m d : Nat} {la lb : List UInt8} (ha : Bs W W.heap.size A n c la) (hb : Bs W W.heap.size B m d lb) :
    Ls (W.alloc (.cells #[.slice A n c, .slice none 0 0, .slice B m d] t)) (W.alloc (.cells #[.slice A n c, .slice none 0 0, .slice B m d] t)).heap.size (some ⟨W.heap.size, 0, none⟩) 3 3 [la, [], lb] := by
  refine ⟨rfl, Nat.le_refl _, by simp [maxLen], (fun h => by cases h), fun _ => ⟨W.heap.size, 0, rfl, by simp, fun j hj => ?_⟩⟩
  rcases (by simp at hj; omega : j = 0 ∨ j = 1 ∨ j = 2) with rfl | rfl | rfl
  · refine ⟨A, n, c, ?_, (ha.alloc (Nat.le_refl _) _).more (by simp)⟩
    rw [World.cell?_alloc_at _ _ _ _ rfl]; rfl
  · refine ⟨none, 0, 0, ?_, Bs.zero _ _⟩
    rw [World.cell?_alloc_at _ _ _ _ rfl]; rfl
  · refine ⟨B, m, d, ?_, (hb.alloc (Nat.le_refl _) _).more (by simp)⟩
    rw [World.cell?_alloc_at _ _ _ _ rfl]; rfl

set_option maxRecDepth 100000 in
set_option maxHeartbeats 8000000 in
theorem walk_shaOne (A : Option Addr) (n c : Nat) (la : List UInt8) (B : Option Addr) (m d : Nat) (lb : List UInt8) (C : Option Addr) (p f : Nat) (lc : List UInt8) (w : World)
    (ha : Bs w w.heap.size A n c la) (hb : Bs w w.heap.size B m d lb) (hc : Bs w w.heap.size C p f lc) (hn : n ≤ 140737488351232) (hm : m ≤ 140737488351232) (hp : p ≤ 140737488351232) :
    Calls Try.prog 7 #[.slice A n c, .slice B m d, .slice C p f] w fun e w' => e = .returned (.bool true) ∧ Below w.heap.size w w' := by
  have HA : Kp _ := ⟨ha⟩
  have HB : Kp _ := ⟨hb⟩
  have HC : Kp _ := ⟨hc⟩
  have HLa : Kp (la.length = n) := ⟨ha.len⟩
  have HLb : Kp (lb.length = m) := ⟨hb.len⟩
  have HLc : Kp (lc.length = p) := ⟨hc.len⟩
  clear ha hb hc
  by_cases hbig : (900 : Int) < (n : Int) + (m : Int) + (p : Int)
  · go_enter Try.func7, Try.ntmps7
    go_wp2_with fail
    refine (known2_any _).mono ?_
    rintro e w1 ⟨rfl, hB1⟩
    go_wp2
    go_ret
    exact ⟨rfl, hB1⟩
  have hn3 : n ≤ 900 := by omega
  have hm3 : m ≤ 900 := by omega
  have hp3 : p ≤ 900 := by omega
  go_enter Try.func7, Try.ntmps7
  go_wp2_with fail
  refine (new_any w).mono ?_
  rintro e w1 ⟨rfl, hh1, hB1⟩
  have HH1 : Kp _ := ⟨hh1⟩
  have hl1 := hh1.lt
  clear hh1
  go_wp2_with fail
  refine (new_any w1).mono ?_
  rintro e w2 ⟨rfl, hk2, hb2⟩
  have HK2 : Kp _ := ⟨hk2⟩
  have HH2 : Kp _ := ⟨HH1.out.below hb2 hl1⟩
  have hl2 := hk2.lt
  have hB2 : Below w.heap.size w w2 := hB1.trans (hb2.mono hB1.size)
  obtain ⟨g, hg⟩ : ∃ g, g = w1.heap.size := ⟨_, rfl⟩
  rw [← hg] at HK2 hl1 hl2 ⊢
  clear hk2 hb2 HH1 hg hB1
  go_wp2_with fail
  refine (sum_any w.heap.size [] _ HH2.out (by simp)).mono ?_
  have heq0 := eql_self (shaL []) (shaL_length _)
  have HDE : Kp (∀ W, Calls Try.prog 17 #[.slice none 0 0] W fun e w' => e = .returned (.agg (cells8 (shaL [])).toArray) ∧ Below W.heap.size W w') := ⟨fun W => sumf0 W⟩
  generalize shaL [] = D0 at *
  rintro e w3 ⟨rfl, hb3⟩
  have HH3 : Kp _ := ⟨HH2.out.below hb3 HH2.out.lt⟩
  have HK3 : Kp _ := ⟨HK2.out.below hb3 HK2.out.lt⟩
  have hB3 : Below w.heap.size w w3 := hB2.trans (hb3.mono hB2.size)
  clear HH2 HK2 hB2 hb3
  go_wp2_with fail
  refine (HDE.out _).mono ?_
  rintro e w4 ⟨rfl, hb4⟩
  have HH4 : Kp _ := ⟨HH3.out.below hb4 HH3.out.lt⟩
  have HK4 : Kp _ := ⟨HK3.out.below hb4 HK3.out.lt⟩
  have hB4 : Below w.heap.size w w4 := hB3.trans (hb4.mono hB3.size)
  clear HH3 HK3 hB3 hb4
  go_wp2_with fail
  refine (write_any w.heap.size [] A n c la _ HH4.out (BsA.of_bs (HA.out.below hB4) (Nat.le_refl _) hB4.size) (by rw [HLa.out]; simp only [List.length_nil]; omega)).mono ?_
  rintro e w5 ⟨rfl, hh5, hg5⟩
  have HH5 : Kp (HashIs w5 w.heap.size la) := ⟨by simpa using hh5⟩
  have HK5 : Kp _ := ⟨HK4.out.grown hg5 (by omega)⟩
  have hB5 : Below w.heap.size w w5 := hB4.trans (below_grown hg5 (Nat.le_refl _) hB4.size)
  clear hh5 hg5 HH4 HK4 hB4 HDE heq0
  go_wp2_with fail
  refine (write_any g [] B m d lb _ HK5.out (BsA.of_bs (HB.out.below hB5) (by omega) hB5.size) (by rw [HLb.out]; simp only [List.length_nil]; omega)).mono ?_
  rintro e w6 ⟨rfl, hh6, hg6⟩
  have HK6 : Kp (HashIs w6 g lb) := ⟨by simpa using hh6⟩
  have HH6 : Kp _ := ⟨HH5.out.grown hg6 (by omega)⟩
  have hB6 : Below w.heap.size w w6 := hB5.trans (below_grown hg6 (by omega) hB5.size)
  clear hh6 hg6 HH5 HK5 hB5
  go_wp2_with fail
  refine (sum_any w.heap.size la _ HH6.out (by rw [HLa.out]; omega)).mono ?_
  have heq1 := eql_self (shaL la) (shaL_length _)
  have heq2 := eql_self (shaL (la ++ lc)) (shaL_length _)
  have heq3 := eql_self (shaL (lb ++ lc)) (shaL_length _)
  have HD32 : Kp ((cells8 (shaL la)).length = 32) := ⟨by rw [cells8_length, shaL_length]⟩
  generalize hD1 : shaL la = D1 at *
  generalize hD2 : shaL (la ++ lc) = D2 at *
  generalize hD3 : shaL (lb ++ lc) = D3 at *
  have HD1 : Kp _ := ⟨hD1⟩
  have HD2 : Kp _ := ⟨hD2⟩
  have HD3 : Kp _ := ⟨hD3⟩
  have HZ32 : Kp (zero32.length = 32) := ⟨rfl⟩
  clear hD1 hD2 hD3
  rintro e w7 ⟨rfl, hb7⟩
  have HH7 : Kp _ := ⟨HH6.out.below hb7 HH6.out.lt⟩
  have HK7 : Kp _ := ⟨HK6.out.below hb7 HK6.out.lt⟩
  have hB7 : Below w.heap.size w w7 := hB6.trans (hb7.mono hB6.size)
  clear HH6 HK6 hB6 hb7
  go_wp2_with (with_reducible refine wpList_alloc (o := ⟨some 9, _, _, _, _, _⟩) tyDig rfl rfl ?_)
  intro w8 hk8 hb8 hs8
  have HX8 : Kp _ := ⟨hk8⟩
  clear hk8
  go_wp2_with (with_reducible refine wpList_storeAll (o := ⟨none, _, _, _, _, _⟩) (vs := cells8 D1) rwDig rfl (.tmp 9) (.tmp 33) rfl rfl HX8.out HZ32.out HD32.out (cells8_one _) rfl ?_)
  intro w9 hk9 ho9
  obtain ⟨gx, hgx⟩ : ∃ gx, gx = w7.heap.size := ⟨_, rfl⟩
  have hs9 := ho9.size
  have HX9 : Kp (Blk w9 gx 27 (cells8 D1)) := ⟨by rw [hgx]; exact hk9⟩
  have hB79 : Below w7.heap.size w7 w9 := hb8.trans (ho9.below (Nat.le_refl _))
  have HH9 : Kp _ := ⟨HH7.out.below hB79 HH7.out.lt⟩
  have HK9 : Kp _ := ⟨HK7.out.below hB79 HK7.out.lt⟩
  have hB9 : Below w.heap.size w w9 := hB7.trans (hB79.mono hB7.size)
  have hgx1 : w.heap.size < gx := by rw [hgx]; exact HH7.out.lt
  have hgx2 : g < gx := by rw [hgx]; exact HK7.out.lt
  rw [← hgx]
  clear hk9 ho9 HX8 hb8 hs8 hs9 HH7 HK7 hB7 hB79 hgx
  go_wp2_with fail
  refine (write_any w.heap.size la C p f lc _ HH9.out (BsA.of_bs (HC.out.below hB9) (Nat.le_refl _) hB9.size) (by rw [HLa.out, HLc.out]; omega)).mono ?_
  rintro e w10 ⟨rfl, hh10, hg10⟩
  have HH10 : Kp _ := ⟨hh10⟩
  have HK10 : Kp _ := ⟨HK9.out.grown hg10 (by omega)⟩
  have HX10 : Kp _ := ⟨HX9.out.grown hg10 (by omega)⟩
  have hB10 : Below w.heap.size w w10 := hB9.trans (below_grown hg10 (Nat.le_refl _) hB9.size)
  clear hh10 hg10 HH9 HK9 HX9 hB9
  go_wp2_with fail
  refine (write_any g lb C p f lc _ HK10.out (BsA.of_bs (HC.out.below hB10) (by omega) hB10.size) (by rw [HLb.out, HLc.out]; omega)).mono ?_
  rintro e w11 ⟨rfl, hh11, hg11⟩
  have HK11 : Kp _ := ⟨hh11⟩
  have HH11 : Kp _ := ⟨HH10.out.grown hg11 (by omega)⟩
  have HX11 : Kp _ := ⟨HX10.out.grown hg11 (by omega)⟩
  have hB11 : Below w.heap.size w w11 := hB10.trans (below_grown hg11 (by omega) hB10.size)
  have hgl : gx < w11.heap.size := HX11.out.lt
  have HRG : Kp (w11.rangeAt gx 0 (cells8 D1)) := ⟨HX11.out.range (n := 32) (by rw [List.drop_zero, List.take_of_length_le (by rw [HD32.out]; exact Nat.le_refl _)])⟩
  clear hh11 hg11 HH10 HK10 HX10 hB10 HX11
  have CH : Kp (∀ W, Below w11.heap.size w11 W → Calls Try.prog 21 #[.pointer (some ⟨w.heap.size, 0, none⟩)] W fun e w' => e = .returned (.agg (cells8 D2).toArray) ∧ Below W.heap.size W w') := ⟨fun W hW => by
    have h := sum_any w.heap.size (la ++ lc) W (HH11.out.below hW HH11.out.lt) (by rw [List.length_append, HLa.out, HLc.out]; omega)
    rw [HD2.out] at h
    exact h⟩
  have CK : Kp (∀ W, Below w11.heap.size w11 W → Calls Try.prog 21 #[.pointer (some ⟨g, 0, none⟩)] W fun e w' => e = .returned (.agg (cells8 D3).toArray) ∧ Below W.heap.size W w') := ⟨fun W hW => by
    have h := sum_any g (lb ++ lc) W (HK11.out.below hW HK11.out.lt) (by rw [List.length_append, HLb.out, HLc.out]; omega)
    rw [HD3.out] at h
    exact h⟩
  have FA : Kp (∀ W gs, Ls W W.heap.size (some ⟨gs, 0, none⟩) 1 1 [la] → Calls Try.prog 17 #[.slice (some ⟨gs, 0, none⟩) 1 1] W fun e w' => e = .returned (.agg (cells8 D1).toArray) ∧ Below W.heap.size W w') := ⟨fun W gs hW => by
    have h := sumf_any _ 1 1 [la] W hW (by simp only [List.flatten_cons, List.flatten_nil, List.append_nil, HLa.out]; omega)
    rw [show [la].flatten = la by simp, HD1.out] at h
    exact h⟩
  have FAC : Kp (∀ W gs, Ls W W.heap.size (some ⟨gs, 0, none⟩) 2 2 [la, lc] → Calls Try.prog 17 #[.slice (some ⟨gs, 0, none⟩) 2 2] W fun e w' => e = .returned (.agg (cells8 D2).toArray) ∧ Below W.heap.size W w') := ⟨fun W gs hW => by
    have h := sumf_any _ 2 2 [la, lc] W hW (by simp only [List.flatten_cons, List.flatten_nil, List.append_nil, List.length_append, HLa.out, HLc.out]; omega)
    rw [show [la, lc].flatten = la ++ lc by simp, HD2.out] at h
    exact h⟩
  have FBC : Kp (∀ W gs, Ls W W.heap.size (some ⟨gs, 0, none⟩) 2 2 [lb, lc] → Calls Try.prog 17 #[.slice (some ⟨gs, 0, none⟩) 2 2] W fun e w' => e = .returned (.agg (cells8 D3).toArray) ∧ Below W.heap.size W w') := ⟨fun W gs hW => by
    have h := sumf_any _ 2 2 [lb, lc] W hW (by simp only [List.flatten_cons, List.flatten_nil, List.append_nil, List.length_append, HLb.out, HLc.out]; omega)
    rw [show [lb, lc].flatten = lb ++ lc by simp, HD3.out] at h
    exact h⟩
  have FANC : Kp (∀ W gs, Ls W W.heap.size (some ⟨gs, 0, none⟩) 3 3 [la, [], lc] → Calls Try.prog 17 #[.slice (some ⟨gs, 0, none⟩) 3 3] W fun e w' => e = .returned (.agg (cells8 D2).toArray) ∧ Below W.heap.size W w') := ⟨fun W gs hW => by
    have h := sumf_any _ 3 3 [la, [], lc] W hW (by simp only [List.flatten_cons, List.flatten_nil, List.append_nil, List.nil_append, List.length_append, HLa.out, HLc.out]; omega)
    rw [show [la, [], lc].flatten = la ++ lc by simp, HD2.out] at h
    exact h⟩
  have BA : Kp (∀ W, Below w11.heap.size w11 W → Bs W W.heap.size A n c la) := ⟨fun W hW => (HA.out.below (hB11.trans (hW.mono hB11.size))).more (Nat.le_trans hB11.size hW.size)⟩
  have BB : Kp (∀ W, Below w11.heap.size w11 W → Bs W W.heap.size B m d lb) := ⟨fun W hW => (HB.out.below (hB11.trans (hW.mono hB11.size))).more (Nat.le_trans hB11.size hW.size)⟩
  have BC : Kp (∀ W, Below w11.heap.size w11 W → Bs W W.heap.size C p f lc) := ⟨fun W hW => (HC.out.below (hB11.trans (hW.mono hB11.size))).more (Nat.le_trans hB11.size hW.size)⟩
  have hu : (Try.prog).underlying 27 = some (.array 32 5) := rwDig.ty
  have hi32 : ((Try.prog).info? 27).map (·.size) = some (cells8 D1).length := by rw [HD32.out]; exact rwDig.size
  clear HH11 HK11 HD1 HD2 HD3 HA HB HC HLa HLb HLc HZ32 hn hm hp
  go_wp2_with fail
  refine wp_region_held_drew (S := fun W => Below w11.heap.size w11 W ∧ W.rangeAt gx 0 (cells8 D1)) (by kernel_rfl) ⟨(Below.refl _ _).drew, HRG.out⟩ (fun hHeld => ?_)
  generalize w11.drew = wS at *
  refine wpAnyH_take (i := 0) (oi := ⟨some 40, _, _, _, _, _⟩) (v := _) rfl (by kernel_rfl) (by kernel_rfl) (by kernel_rfl) (fun _ _ _ h => h) (yieldsIf_load_mid (by rfl) _ (.tmp 9) rfl _ _ rfl (cells8 D1) _ (fun W hW => hW.2) hu rfl hi32) (by assumption) ?_
  try simp only [Act.put, List.setIfInBounds_toArray, List.set_cons_zero, List.set_cons_succ]
  refine wpAnyH_take (i := 1) (oi := ⟨some 41, _, _, _, _, _⟩) (v := ?_) rfl (by kernel_rfl) (by kernel_rfl) (by kernel_rfl) (fun _ _ _ h => h) (Or.inl ⟨by rfl, by intro w hSw; go_simp; try rfl⟩) (by assumption) ?_
  try simp only [Act.put, List.setIfInBounds_toArray, List.set_cons_zero, List.set_cons_succ]
  refine wpAnyH_ready (rs := [2]) (by kernel_rfl) (by simp) ?_
  refine AllReadyH.cons (o := ⟨some 42, _, _, _, _, _⟩) rfl (fun K hK => ?_) AllReadyH.nil
  go_simp
  have LA : Kp _ := ⟨ls_one wS 23 (BA.out _ hHeld.1)⟩
  refine hK.out _ _ (keep_alloc hHeld _) (fun hHeld2 => ?_)
  clear hK K hHeld
  have hHeld := hHeld2
  clear hHeld2
  generalize (wS).alloc (.cells #[.slice A n c] 23) = w12 at *
  try simp only [Act.put, List.setIfInBounds_toArray, List.set_cons_zero, List.set_cons_succ]
  refine wpAnyH_ready (rs := [3]) (by kernel_rfl) (by simp) ?_
  refine AllReadyH.cons (o := ⟨some 43, _, _, _, _, _⟩) rfl (fun K hK => ?_) AllReadyH.nil
  go_simp
  refine (FA.out _ _ LA.out).mono ?_
  rintro e w13 ⟨rfl, hb'⟩
  clear LA
  refine hK.out _ _ (keep_call hHeld hgl hb') (fun hHeld2 => ?_)
  clear hK K hb' hHeld
  have hHeld := hHeld2
  clear hHeld2
  try simp only [Act.put, List.setIfInBounds_toArray, List.set_cons_zero, List.set_cons_succ]
  refine wpAnyH_take (i := 4) (oi := ⟨some 44, _, _, _, _, _⟩) (v := ?_) rfl (by kernel_rfl) (by kernel_rfl) (by kernel_rfl) (fun _ _ _ h => h) (Or.inl ⟨by rfl, by intro w hSw; go_simp; try rfl⟩) (by assumption) ?_
  try simp only [Act.put, List.setIfInBounds_toArray, List.set_cons_zero, List.set_cons_succ]
  refine wpAnyH_take (i := 5) (oi := ⟨some 45, _, _, _, _, _⟩) (v := ?_) rfl (by kernel_rfl) (by kernel_rfl) (by kernel_rfl) (fun _ _ _ h => h) (Or.inl ⟨by rfl, by intro w hSw; go_simp; try rfl⟩) (by assumption) ?_
  try simp only [Act.put, List.setIfInBounds_toArray, List.set_cons_zero, List.set_cons_succ]
  refine wpAnyH_take (i := 6) (oi := ⟨some 46, _, _, _, _, _⟩) (v := ?_) rfl (by kernel_rfl) (by kernel_rfl) (by kernel_rfl) (fun _ _ _ h => h) (Or.inl ⟨by rfl, by intro w hSw; go_simp; try rfl⟩) (by assumption) ?_
  try simp only [Act.put, List.setIfInBounds_toArray, List.set_cons_zero, List.set_cons_succ]
  refine wpAnyH_take (i := 8) (oi := ⟨some 48, _, _, _, _, _⟩) (v := ?_) rfl (by kernel_rfl) (by kernel_rfl) (by kernel_rfl) (fun _ _ _ h => h) (Or.inl ⟨by rfl, by intro w hSw; go_simp; try rfl⟩) (by assumption) ?_
  try simp only [Act.put, List.setIfInBounds_toArray, List.set_cons_zero, List.set_cons_succ]
  refine wpAnyH_take (i := 9) (oi := ⟨some 49, _, _, _, _, _⟩) (v := ?_) rfl (by kernel_rfl) (by kernel_rfl) (by kernel_rfl) (fun _ _ _ h => h) (Or.inl ⟨by rfl, by intro w hSw; go_simp; try rfl⟩) (by assumption) ?_
  try simp only [Act.put, List.setIfInBounds_toArray, List.set_cons_zero, List.set_cons_succ]
  refine wpAnyH_ready (rs := [7, 10]) (by kernel_rfl) (by simp) ?_
  refine AllReadyH.cons (o := ⟨some 47, _, _, _, _, _⟩) rfl (fun K hK => ?_) (AllReadyH.cons (o := ⟨some 50, _, _, _, _, _⟩) rfl (fun K hK => ?_) AllReadyH.nil)
  · go_simp
    refine (CH.out _ hHeld.1).mono ?_
    rintro e w14 ⟨rfl, hb'⟩
    refine hK.out _ _ (keep_call hHeld hgl hb') (fun hHeld2 => ?_)
    clear hK K hb' hHeld
    have hHeld := hHeld2
    clear hHeld2
    try simp only [Act.put, List.setIfInBounds_toArray, List.set_cons_zero, List.set_cons_succ]
    refine wpAnyH_ready (rs := [10]) (by kernel_rfl) (by simp) ?_
    refine AllReadyH.cons (o := ⟨some 50, _, _, _, _, _⟩) rfl (fun K hK => ?_) AllReadyH.nil
    go_simp
    have LB : Kp _ := ⟨ls_two w14 23 (BA.out _ hHeld.1) (BC.out _ hHeld.1)⟩
    refine hK.out _ _ (keep_alloc hHeld _) (fun hHeld2 => ?_)
    clear hK K hHeld
    have hHeld := hHeld2
    clear hHeld2
    generalize (w14).alloc (.cells #[.slice A n c, .slice C p f] 23) = w15 at *
    try simp only [Act.put, List.setIfInBounds_toArray, List.set_cons_zero, List.set_cons_succ]
    refine wpAnyH_ready (rs := [11]) (by kernel_rfl) (by simp) ?_
    refine AllReadyH.cons (o := ⟨some 51, _, _, _, _, _⟩) rfl (fun K hK => ?_) AllReadyH.nil
    go_simp
    refine (FAC.out _ _ LB.out).mono ?_
    rintro e w16 ⟨rfl, hb'⟩
    clear LB
    refine hK.out _ _ (keep_call hHeld hgl hb') (fun hHeld2 => ?_)
    clear hK K hb' hHeld
    have hHeld := hHeld2
    clear hHeld2
    try simp only [Act.put, List.setIfInBounds_toArray, List.set_cons_zero, List.set_cons_succ]
    refine wpAnyH_take (i := 12) (oi := ⟨some 52, _, _, _, _, _⟩) (v := ?_) rfl (by kernel_rfl) (by kernel_rfl) (by kernel_rfl) (fun _ _ _ h => h) (Or.inl ⟨by rfl, by intro w hSw; go_simp; try rfl⟩) (by assumption) ?_
    try simp only [Act.put, List.setIfInBounds_toArray, List.set_cons_zero, List.set_cons_succ]
    refine wpAnyH_take (i := 13) (oi := ⟨some 53, _, _, _, _, _⟩) (v := ?_) rfl (by kernel_rfl) (by kernel_rfl) (by kernel_rfl) (fun _ _ _ h => h) (Or.inl ⟨by rfl, by intro w hSw; go_simp; try rfl⟩) (by assumption) ?_
    try simp only [Act.put, List.setIfInBounds_toArray, List.set_cons_zero, List.set_cons_succ]
    refine wpAnyH_take (i := 14) (oi := ⟨some 54, _, _, _, _, _⟩) (v := ?_) rfl (by kernel_rfl) (by kernel_rfl) (by kernel_rfl) (fun _ _ _ h => h) (Or.inl ⟨by rfl, by intro w hSw; go_simp; try rfl⟩) (by assumption) ?_
    try simp only [Act.put, List.setIfInBounds_toArray, List.set_cons_zero, List.set_cons_succ]
    refine wpAnyH_take (i := 15) (oi := ⟨some 55, _, _, _, _, _⟩) (v := ?_) rfl (by kernel_rfl) (by kernel_rfl) (by kernel_rfl) (fun _ _ _ h => h) (Or.inl ⟨by rfl, by intro w hSw; go_simp; try rfl⟩) (by assumption) ?_
    try simp only [Act.put, List.setIfInBounds_toArray, List.set_cons_zero, List.set_cons_succ]
    refine wpAnyH_take (i := 17) (oi := ⟨some 57, _, _, _, _, _⟩) (v := ?_) rfl (by kernel_rfl) (by kernel_rfl) (by kernel_rfl) (fun _ _ _ h => h) (Or.inl ⟨by rfl, by intro w hSw; go_simp; try rfl⟩) (by assumption) ?_
    try simp only [Act.put, List.setIfInBounds_toArray, List.set_cons_zero, List.set_cons_succ]
    refine wpAnyH_take (i := 18) (oi := ⟨some 58, _, _, _, _, _⟩) (v := ?_) rfl (by kernel_rfl) (by kernel_rfl) (by kernel_rfl) (fun _ _ _ h => h) (Or.inl ⟨by rfl, by intro w hSw; go_simp; try rfl⟩) (by assumption) ?_
    try simp only [Act.put, List.setIfInBounds_toArray, List.set_cons_zero, List.set_cons_succ]
    refine wpAnyH_ready (rs := [16, 19]) (by kernel_rfl) (by simp) ?_
    refine AllReadyH.cons (o := ⟨some 56, _, _, _, _, _⟩) rfl (fun K hK => ?_) (AllReadyH.cons (o := ⟨some 59, _, _, _, _, _⟩) rfl (fun K hK => ?_) AllReadyH.nil)
    · go_simp
      refine (CK.out _ hHeld.1).mono ?_
      rintro e w17 ⟨rfl, hb'⟩
      refine hK.out _ _ (keep_call hHeld hgl hb') (fun hHeld2 => ?_)
      clear hK K hb' hHeld
      have hHeld := hHeld2
      clear hHeld2
      try simp only [Act.put, List.setIfInBounds_toArray, List.set_cons_zero, List.set_cons_succ]
      refine wpAnyH_ready (rs := [19]) (by kernel_rfl) (by simp) ?_
      refine AllReadyH.cons (o := ⟨some 59, _, _, _, _, _⟩) rfl (fun K hK => ?_) AllReadyH.nil
      go_simp
      have LC : Kp _ := ⟨ls_two w17 23 (BB.out _ hHeld.1) (BC.out _ hHeld.1)⟩
      refine hK.out _ _ (keep_alloc hHeld _) (fun hHeld2 => ?_)
      clear hK K hHeld
      have hHeld := hHeld2
      clear hHeld2
      generalize (w17).alloc (.cells #[.slice B m d, .slice C p f] 23) = w18 at *
      try simp only [Act.put, List.setIfInBounds_toArray, List.set_cons_zero, List.set_cons_succ]
      refine wpAnyH_ready (rs := [20]) (by kernel_rfl) (by simp) ?_
      refine AllReadyH.cons (o := ⟨some 60, _, _, _, _, _⟩) rfl (fun K hK => ?_) AllReadyH.nil
      go_simp
      refine (FBC.out _ _ LC.out).mono ?_
      rintro e w19 ⟨rfl, hb'⟩
      clear LC
      refine hK.out _ _ (keep_call hHeld hgl hb') (fun hHeld2 => ?_)
      clear hK K hb' hHeld
      have hHeld := hHeld2
      clear hHeld2
      try simp only [Act.put, List.setIfInBounds_toArray, List.set_cons_zero, List.set_cons_succ]
      refine wpAnyH_take (i := 21) (oi := ⟨some 61, _, _, _, _, _⟩) (v := ?_) rfl (by kernel_rfl) (by kernel_rfl) (by kernel_rfl) (fun _ _ _ h => h) (Or.inl ⟨by rfl, by intro w hSw; go_simp; try rfl⟩) (by assumption) ?_
      try simp only [Act.put, List.setIfInBounds_toArray, List.set_cons_zero, List.set_cons_succ]
      refine wpAnyH_take (i := 22) (oi := ⟨some 62, _, _, _, _, _⟩) (v := ?_) rfl (by kernel_rfl) (by kernel_rfl) (by kernel_rfl) (fun _ _ _ h => h) (Or.inl ⟨by rfl, by intro w hSw; go_simp; try rfl⟩) (by assumption) ?_
      try simp only [Act.put, List.setIfInBounds_toArray, List.set_cons_zero, List.set_cons_succ]
      refine wpAnyH_take (i := 23) (oi := ⟨some 63, _, _, _, _, _⟩) (v := ?_) rfl (by kernel_rfl) (by kernel_rfl) (by kernel_rfl) (fun _ _ _ h => h) (Or.inl ⟨by rfl, by intro w hSw; go_simp; try rfl⟩) (by assumption) ?_
      try simp only [Act.put, List.setIfInBounds_toArray, List.set_cons_zero, List.set_cons_succ]
      refine wpAnyH_take (i := 24) (oi := ⟨some 64, _, _, _, _, _⟩) (v := ?_) rfl (by kernel_rfl) (by kernel_rfl) (by kernel_rfl) (fun _ _ _ h => h) (Or.inl ⟨by rfl, by intro w hSw; go_simp; try rfl⟩) (by assumption) ?_
      try simp only [Act.put, List.setIfInBounds_toArray, List.set_cons_zero, List.set_cons_succ]
      refine wpAnyH_take (i := 25) (oi := ⟨some 65, _, _, _, _, _⟩) (v := ?_) rfl (by kernel_rfl) (by kernel_rfl) (by kernel_rfl) (fun _ _ _ h => h) (Or.inl ⟨by rfl, by intro w hSw; go_simp; try rfl⟩) (by assumption) ?_
      try simp only [Act.put, List.setIfInBounds_toArray, List.set_cons_zero, List.set_cons_succ]
      refine wpAnyH_take (i := 28) (oi := ⟨some 68, _, _, _, _, _⟩) (v := ?_) rfl (by kernel_rfl) (by kernel_rfl) (by kernel_rfl) (fun _ _ _ h => h) (Or.inl ⟨by rfl, by intro w hSw; go_simp; try rfl⟩) (by assumption) ?_
      try simp only [Act.put, List.setIfInBounds_toArray, List.set_cons_zero, List.set_cons_succ]
      refine wpAnyH_take (i := 29) (oi := ⟨some 69, _, _, _, _, _⟩) (v := ?_) rfl (by kernel_rfl) (by kernel_rfl) (by kernel_rfl) (fun _ _ _ h => h) (Or.inl ⟨by rfl, by intro w hSw; go_simp; try rfl⟩) (by assumption) ?_
      try simp only [Act.put, List.setIfInBounds_toArray, List.set_cons_zero, List.set_cons_succ]
      refine wpAnyH_ready (rs := [26, 30]) (by kernel_rfl) (by simp) ?_
      refine AllReadyH.cons (o := ⟨some 66, _, _, _, _, _⟩) rfl (fun K hK => ?_) (AllReadyH.cons (o := ⟨some 70, _, _, _, _, _⟩) rfl (fun K hK => ?_) AllReadyH.nil)
      · go_simp
        have LD : Kp _ := ⟨ls_nil w19 23 (BA.out _ hHeld.1) (BC.out _ hHeld.1)⟩
        refine hK.out _ _ (keep_alloc hHeld _) (fun hHeld2 => ?_)
        clear hK K hHeld
        have hHeld := hHeld2
        clear hHeld2
        generalize (w19).alloc (.cells #[.slice A n c, .slice none 0 0, .slice C p f] 23) = w20 at *
        try simp only [Act.put, List.setIfInBounds_toArray, List.set_cons_zero, List.set_cons_succ]
        refine wpAnyH_ready (rs := [27, 30]) (by kernel_rfl) (by simp) ?_
        refine AllReadyH.cons (o := ⟨some 67, _, _, _, _, _⟩) rfl (fun K hK => ?_) (AllReadyH.cons (o := ⟨some 70, _, _, _, _, _⟩) rfl (fun K hK => ?_) AllReadyH.nil)
        · go_simp
          refine (FANC.out _ _ LD.out).mono ?_
          rintro e w21 ⟨rfl, hb'⟩
          clear LD
          refine hK.out _ _ (keep_call hHeld hgl hb') (fun hHeld2 => ?_)
          clear hK K hb' hHeld
          have hHeld := hHeld2
          clear hHeld2
          try simp only [Act.put, List.setIfInBounds_toArray, List.set_cons_zero, List.set_cons_succ]
          refine wpAnyH_ready (rs := [30]) (by kernel_rfl) (by simp) ?_
          refine AllReadyH.cons (o := ⟨some 70, _, _, _, _, _⟩) rfl (fun K hK => ?_) AllReadyH.nil
          go_simp
          have LE : Kp _ := ⟨ls_two w21 23 (BA.out _ hHeld.1) (BC.out _ hHeld.1)⟩
          refine hK.out _ _ (keep_alloc hHeld _) (fun hHeld2 => ?_)
          clear hK K hHeld
          have hHeld := hHeld2
          clear hHeld2
          generalize (w21).alloc (.cells #[.slice A n c, .slice C p f] 23) = w22 at *
          try simp only [Act.put, List.setIfInBounds_toArray, List.set_cons_zero, List.set_cons_succ]
          refine wpAnyH_ready (rs := [31]) (by kernel_rfl) (by simp) ?_
          refine AllReadyH.cons (o := ⟨some 71, _, _, _, _, _⟩) rfl (fun K hK => ?_) AllReadyH.nil
          go_simp
          refine (FAC.out _ _ LE.out).mono ?_
          rintro e w23 ⟨rfl, hb'⟩
          clear LE
          refine hK.out _ _ (keep_call hHeld hgl hb') (fun hHeld2 => ?_)
          clear hK K hb' hHeld
          have hHeld := hHeld2
          clear hHeld2
          try simp only [Act.put, List.setIfInBounds_toArray, List.set_cons_zero, List.set_cons_succ]
          refine wpAnyH_take (i := 32) (oi := ⟨some 72, _, _, _, _, _⟩) (v := ?_) rfl (by kernel_rfl) (by kernel_rfl) (by kernel_rfl) (fun _ _ _ h => h) (Or.inl ⟨by rfl, by intro w hSw; go_simp; try rfl⟩) (by assumption) ?_
          try simp only [Act.put, List.setIfInBounds_toArray, List.set_cons_zero, List.set_cons_succ]
          refine wpAnyH_take (i := 33) (oi := ⟨some 73, _, _, _, _, _⟩) (v := ?_) rfl (by kernel_rfl) (by kernel_rfl) (by kernel_rfl) (fun _ _ _ h => h) (Or.inl ⟨by rfl, by intro w hSw; go_simp; try rfl⟩) (by assumption) ?_
          try simp only [Act.put, List.setIfInBounds_toArray, List.set_cons_zero, List.set_cons_succ]
          refine wpAnyH_take (i := 34) (oi := ⟨some 74, _, _, _, _, _⟩) (v := ?_) rfl (by kernel_rfl) (by kernel_rfl) (by kernel_rfl) (fun _ _ _ h => h) (Or.inl ⟨by rfl, by intro w hSw; go_simp; try rfl⟩) (by assumption) ?_
          try simp only [Act.put, List.setIfInBounds_toArray, List.set_cons_zero, List.set_cons_succ]
          refine wpAnyH_ready (rs := [35]) (by kernel_rfl) (by simp) ?_
          refine AllReadyH.cons (o := ⟨some 75, _, _, _, _, _⟩) rfl (fun K hK => ?_) AllReadyH.nil
          go_simp
          refine (known2_any _).mono ?_
          rintro e w24 ⟨rfl, hb'⟩
          refine hK.out _ _ (keep_call hHeld hgl hb') (fun hHeld2 => ?_)
          clear hK K hb' hHeld
          have hHeld := hHeld2
          clear hHeld2
          try simp only [Act.put, List.setIfInBounds_toArray, List.set_cons_zero, List.set_cons_succ]
          refine wpAnyH_take (i := 36) (oi := ⟨some 76, _, _, _, _, _⟩) (v := ?_) rfl (by kernel_rfl) (by kernel_rfl) (by kernel_rfl) (fun _ _ _ h => h) (Or.inl ⟨by rfl, by intro w hSw; go_simp; try rfl⟩) (by assumption) ?_
          try simp only [Act.put, List.setIfInBounds_toArray, List.set_cons_zero, List.set_cons_succ]
          refine wpAnyH_take (i := 37) (oi := ⟨some 6, _, _, _, _, _⟩) (v := ?_) rfl (by kernel_rfl) (by kernel_rfl) (by kernel_rfl) (fun _ _ _ h => h) (Or.inl ⟨by rfl, by intro w hSw; go_simp; try rfl⟩) (by assumption) ?_
          try simp only [Act.put, List.setIfInBounds_toArray, List.set_cons_zero, List.set_cons_succ]
          refine wpAnyH_done (by kernel_rfl) ?_ _
          go_wp2
          go_ret
          exact ⟨rfl, hB11.trans (hHeld.1.mono hB11.size)⟩
        · go_simp
          have LE : Kp _ := ⟨ls_two w20 23 (BA.out _ hHeld.1) (BC.out _ hHeld.1)⟩
          replace LD : Kp _ := ⟨(LD.out.below ((Below.refl _ _).alloc (Nat.le_refl _) (.cells #[.slice A n c, .slice C p f] 23))).more (B' := ((w20).alloc (.cells #[.slice A n c, .slice C p f] 23)).heap.size) (by simp)⟩
          refine hK.out _ _ (keep_alloc hHeld _) (fun hHeld2 => ?_)
          clear hK K hHeld
          have hHeld := hHeld2
          clear hHeld2
          generalize (w20).alloc (.cells #[.slice A n c, .slice C p f] 23) = w25 at *
          try simp only [Act.put, List.setIfInBounds_toArray, List.set_cons_zero, List.set_cons_succ]
          refine wpAnyH_ready (rs := [27]) (by kernel_rfl) (by simp) ?_
          refine AllReadyH.cons (o := ⟨some 67, _, _, _, _, _⟩) rfl (fun K hK => ?_) AllReadyH.nil
          go_simp
          refine (FANC.out _ _ LD.out).mono ?_
          rintro e w26 ⟨rfl, hb'⟩
          clear LD
          replace LE : Kp _ := ⟨LE.out.next hb' (Nat.le_refl _)⟩
          refine hK.out _ _ (keep_call hHeld hgl hb') (fun hHeld2 => ?_)
          clear hK K hb' hHeld
          have hHeld := hHeld2
          clear hHeld2
          try simp only [Act.put, List.setIfInBounds_toArray, List.set_cons_zero, List.set_cons_succ]
          refine wpAnyH_ready (rs := [31]) (by kernel_rfl) (by simp) ?_
          refine AllReadyH.cons (o := ⟨some 71, _, _, _, _, _⟩) rfl (fun K hK => ?_) AllReadyH.nil
          go_simp
          refine (FAC.out _ _ LE.out).mono ?_
          rintro e w27 ⟨rfl, hb'⟩
          clear LE
          refine hK.out _ _ (keep_call hHeld hgl hb') (fun hHeld2 => ?_)
          clear hK K hb' hHeld
          have hHeld := hHeld2
          clear hHeld2
          try simp only [Act.put, List.setIfInBounds_toArray, List.set_cons_zero, List.set_cons_succ]
          refine wpAnyH_take (i := 32) (oi := ⟨some 72, _, _, _, _, _⟩) (v := ?_) rfl (by kernel_rfl) (by kernel_rfl) (by kernel_rfl) (fun _ _ _ h => h) (Or.inl ⟨by rfl, by intro w hSw; go_simp; try rfl⟩) (by assumption) ?_
          try simp only [Act.put, List.setIfInBounds_toArray, List.set_cons_zero, List.set_cons_succ]
          refine wpAnyH_take (i := 33) (oi := ⟨some 73, _, _, _, _, _⟩) (v := ?_) rfl (by kernel_rfl) (by kernel_rfl) (by kernel_rfl) (fun _ _ _ h => h) (Or.inl ⟨by rfl, by intro w hSw; go_simp; try rfl⟩) (by assumption) ?_
          try simp only [Act.put, List.setIfInBounds_toArray, List.set_cons_zero, List.set_cons_succ]
          refine wpAnyH_take (i := 34) (oi := ⟨some 74, _, _, _, _, _⟩) (v := ?_) rfl (by kernel_rfl) (by kernel_rfl) (by kernel_rfl) (fun _ _ _ h => h) (Or.inl ⟨by rfl, by intro w hSw; go_simp; try rfl⟩) (by assumption) ?_
          try simp only [Act.put, List.setIfInBounds_toArray, List.set_cons_zero, List.set_cons_succ]
          refine wpAnyH_ready (rs := [35]) (by kernel_rfl) (by simp) ?_
          refine AllReadyH.cons (o := ⟨some 75, _, _, _, _, _⟩) rfl (fun K hK => ?_) AllReadyH.nil
          go_simp
          refine (known2_any _).mono ?_
          rintro e w28 ⟨rfl, hb'⟩
          refine hK.out _ _ (keep_call hHeld hgl hb') (fun hHeld2 => ?_)
          clear hK K hb' hHeld
          have hHeld := hHeld2
          clear hHeld2
          try simp only [Act.put, List.setIfInBounds_toArray, List.set_cons_zero, List.set_cons_succ]
          refine wpAnyH_take (i := 36) (oi := ⟨some 76, _, _, _, _, _⟩) (v := ?_) rfl (by kernel_rfl) (by kernel_rfl) (by kernel_rfl) (fun _ _ _ h => h) (Or.inl ⟨by rfl, by intro w hSw; go_simp; try rfl⟩) (by assumption) ?_
          try simp only [Act.put, List.setIfInBounds_toArray, List.set_cons_zero, List.set_cons_succ]
          refine wpAnyH_take (i := 37) (oi := ⟨some 6, _, _, _, _, _⟩) (v := ?_) rfl (by kernel_rfl) (by kernel_rfl) (by kernel_rfl) (fun _ _ _ h => h) (Or.inl ⟨by rfl, by intro w hSw; go_simp; try rfl⟩) (by assumption) ?_
          try simp only [Act.put, List.setIfInBounds_toArray, List.set_cons_zero, List.set_cons_succ]
          refine wpAnyH_done (by kernel_rfl) ?_ _
          go_wp2
          go_ret
          exact ⟨rfl, hB11.trans (hHeld.1.mono hB11.size)⟩
      · go_simp
        have LE : Kp _ := ⟨ls_two w19 23 (BA.out _ hHeld.1) (BC.out _ hHeld.1)⟩
        refine hK.out _ _ (keep_alloc hHeld _) (fun hHeld2 => ?_)
        clear hK K hHeld
        have hHeld := hHeld2
        clear hHeld2
        generalize (w19).alloc (.cells #[.slice A n c, .slice C p f] 23) = w29 at *
        try simp only [Act.put, List.setIfInBounds_toArray, List.set_cons_zero, List.set_cons_succ]
        refine wpAnyH_ready (rs := [26]) (by kernel_rfl) (by simp) ?_
        refine AllReadyH.cons (o := ⟨some 66, _, _, _, _, _⟩) rfl (fun K hK => ?_) AllReadyH.nil
        go_simp
        have LD : Kp _ := ⟨ls_nil w29 23 (BA.out _ hHeld.1) (BC.out _ hHeld.1)⟩
        replace LE : Kp _ := ⟨(LE.out.below ((Below.refl _ _).alloc (Nat.le_refl _) (.cells #[.slice A n c, .slice none 0 0, .slice C p f] 23))).more (B' := ((w29).alloc (.cells #[.slice A n c, .slice none 0 0, .slice C p f] 23)).heap.size) (by simp)⟩
        refine hK.out _ _ (keep_alloc hHeld _) (fun hHeld2 => ?_)
        clear hK K hHeld
        have hHeld := hHeld2
        clear hHeld2
        generalize (w29).alloc (.cells #[.slice A n c, .slice none 0 0, .slice C p f] 23) = w30 at *
        try simp only [Act.put, List.setIfInBounds_toArray, List.set_cons_zero, List.set_cons_succ]
        refine wpAnyH_ready (rs := [27]) (by kernel_rfl) (by simp) ?_
        refine AllReadyH.cons (o := ⟨some 67, _, _, _, _, _⟩) rfl (fun K hK => ?_) AllReadyH.nil
        go_simp
        refine (FANC.out _ _ LD.out).mono ?_
        rintro e w31 ⟨rfl, hb'⟩
        clear LD
        replace LE : Kp _ := ⟨LE.out.next hb' (Nat.le_refl _)⟩
        refine hK.out _ _ (keep_call hHeld hgl hb') (fun hHeld2 => ?_)
        clear hK K hb' hHeld
        have hHeld := hHeld2
        clear hHeld2
        try simp only [Act.put, List.setIfInBounds_toArray, List.set_cons_zero, List.set_cons_succ]
        refine wpAnyH_ready (rs := [31]) (by kernel_rfl) (by simp) ?_
        refine AllReadyH.cons (o := ⟨some 71, _, _, _, _, _⟩) rfl (fun K hK => ?_) AllReadyH.nil
        go_simp
        refine (FAC.out _ _ LE.out).mono ?_
        rintro e w32 ⟨rfl, hb'⟩
        clear LE
        refine hK.out _ _ (keep_call hHeld hgl hb') (fun hHeld2 => ?_)
        clear hK K hb' hHeld
        have hHeld := hHeld2
        clear hHeld2
        try simp only [Act.put, List.setIfInBounds_toArray, List.set_cons_zero, List.set_cons_succ]
        refine wpAnyH_take (i := 32) (oi := ⟨some 72, _, _, _, _, _⟩) (v := ?_) rfl (by kernel_rfl) (by kernel_rfl) (by kernel_rfl) (fun _ _ _ h => h) (Or.inl ⟨by rfl, by intro w hSw; go_simp; try rfl⟩) (by assumption) ?_
        try simp only [Act.put, List.setIfInBounds_toArray, List.set_cons_zero, List.set_cons_succ]
        refine wpAnyH_take (i := 33) (oi := ⟨some 73, _, _, _, _, _⟩) (v := ?_) rfl (by kernel_rfl) (by kernel_rfl) (by kernel_rfl) (fun _ _ _ h => h) (Or.inl ⟨by rfl, by intro w hSw; go_simp; try rfl⟩) (by assumption) ?_
        try simp only [Act.put, List.setIfInBounds_toArray, List.set_cons_zero, List.set_cons_succ]
        refine wpAnyH_take (i := 34) (oi := ⟨some 74, _, _, _, _, _⟩) (v := ?_) rfl (by kernel_rfl) (by kernel_rfl) (by kernel_rfl) (fun _ _ _ h => h) (Or.inl ⟨by rfl, by intro w hSw; go_simp; try rfl⟩) (by assumption) ?_
        try simp only [Act.put, List.setIfInBounds_toArray, List.set_cons_zero, List.set_cons_succ]
        refine wpAnyH_ready (rs := [35]) (by kernel_rfl) (by simp) ?_
        refine AllReadyH.cons (o := ⟨some 75, _, _, _, _, _⟩) rfl (fun K hK => ?_) AllReadyH.nil
        go_simp
        refine (known2_any _).mono ?_
        rintro e w33 ⟨rfl, hb'⟩
        refine hK.out _ _ (keep_call hHeld hgl hb') (fun hHeld2 => ?_)
        clear hK K hb' hHeld
        have hHeld := hHeld2
        clear hHeld2
        try simp only [Act.put, List.setIfInBounds_toArray, List.set_cons_zero, List.set_cons_succ]
        refine wpAnyH_take (i := 36) (oi := ⟨some 76, _, _, _, _, _⟩) (v := ?_) rfl (by kernel_rfl) (by kernel_rfl) (by kernel_rfl) (fun _ _ _ h => h) (Or.inl ⟨by rfl, by intro w hSw; go_simp; try rfl⟩) (by assumption) ?_
        try simp only [Act.put, List.setIfInBounds_toArray, List.set_cons_zero, List.set_cons_succ]
        refine wpAnyH_take (i := 37) (oi := ⟨some 6, _, _, _, _, _⟩) (v := ?_) rfl (by kernel_rfl) (by kernel_rfl) (by kernel_rfl) (fun _ _ _ h => h) (Or.inl ⟨by rfl, by intro w hSw; go_simp; try rfl⟩) (by assumption) ?_
        try simp only [Act.put, List.setIfInBounds_toArray, List.set_cons_zero, List.set_cons_succ]
        refine wpAnyH_done (by kernel_rfl) ?_ _
        go_wp2
        go_ret
        exact ⟨rfl, hB11.trans (hHeld.1.mono hB11.size)⟩
    · go_simp
      have LC : Kp _ := ⟨ls_two w16 23 (BB.out _ hHeld.1) (BC.out _ hHeld.1)⟩
      refine hK.out _ _ (keep_alloc hHeld _) (fun hHeld2 => ?_)
      clear hK K hHeld
      have hHeld := hHeld2
      clear hHeld2
      generalize (w16).alloc (.cells #[.slice B m d, .slice C p f] 23) = w34 at *
      try simp only [Act.put, List.setIfInBounds_toArray, List.set_cons_zero, List.set_cons_succ]
      refine wpAnyH_ready (rs := [16]) (by kernel_rfl) (by simp) ?_
      refine AllReadyH.cons (o := ⟨some 56, _, _, _, _, _⟩) rfl (fun K hK => ?_) AllReadyH.nil
      go_simp
      refine (CK.out _ hHeld.1).mono ?_
      rintro e w35 ⟨rfl, hb'⟩
      replace LC : Kp _ := ⟨LC.out.next hb' (Nat.le_refl _)⟩
      refine hK.out _ _ (keep_call hHeld hgl hb') (fun hHeld2 => ?_)
      clear hK K hb' hHeld
      have hHeld := hHeld2
      clear hHeld2
      try simp only [Act.put, List.setIfInBounds_toArray, List.set_cons_zero, List.set_cons_succ]
      refine wpAnyH_ready (rs := [20]) (by kernel_rfl) (by simp) ?_
      refine AllReadyH.cons (o := ⟨some 60, _, _, _, _, _⟩) rfl (fun K hK => ?_) AllReadyH.nil
      go_simp
      refine (FBC.out _ _ LC.out).mono ?_
      rintro e w36 ⟨rfl, hb'⟩
      clear LC
      refine hK.out _ _ (keep_call hHeld hgl hb') (fun hHeld2 => ?_)
      clear hK K hb' hHeld
      have hHeld := hHeld2
      clear hHeld2
      try simp only [Act.put, List.setIfInBounds_toArray, List.set_cons_zero, List.set_cons_succ]
      refine wpAnyH_take (i := 21) (oi := ⟨some 61, _, _, _, _, _⟩) (v := ?_) rfl (by kernel_rfl) (by kernel_rfl) (by kernel_rfl) (fun _ _ _ h => h) (Or.inl ⟨by rfl, by intro w hSw; go_simp; try rfl⟩) (by assumption) ?_
      try simp only [Act.put, List.setIfInBounds_toArray, List.set_cons_zero, List.set_cons_succ]
      refine wpAnyH_take (i := 22) (oi := ⟨some 62, _, _, _, _, _⟩) (v := ?_) rfl (by kernel_rfl) (by kernel_rfl) (by kernel_rfl) (fun _ _ _ h => h) (Or.inl ⟨by rfl, by intro w hSw; go_simp; try rfl⟩) (by assumption) ?_
      try simp only [Act.put, List.setIfInBounds_toArray, List.set_cons_zero, List.set_cons_succ]
      refine wpAnyH_take (i := 23) (oi := ⟨some 63, _, _, _, _, _⟩) (v := ?_) rfl (by kernel_rfl) (by kernel_rfl) (by kernel_rfl) (fun _ _ _ h => h) (Or.inl ⟨by rfl, by intro w hSw; go_simp; try rfl⟩) (by assumption) ?_
      try simp only [Act.put, List.setIfInBounds_toArray, List.set_cons_zero, List.set_cons_succ]
      refine wpAnyH_take (i := 24) (oi := ⟨some 64, _, _, _, _, _⟩) (v := ?_) rfl (by kernel_rfl) (by kernel_rfl) (by kernel_rfl) (fun _ _ _ h => h) (Or.inl ⟨by rfl, by intro w hSw; go_simp; try rfl⟩) (by assumption) ?_
      try simp only [Act.put, List.setIfInBounds_toArray, List.set_cons_zero, List.set_cons_succ]
      refine wpAnyH_take (i := 25) (oi := ⟨some 65, _, _, _, _, _⟩) (v := ?_) rfl (by kernel_rfl) (by kernel_rfl) (by kernel_rfl) (fun _ _ _ h => h) (Or.inl ⟨by rfl, by intro w hSw; go_simp; try rfl⟩) (by assumption) ?_
      try simp only [Act.put, List.setIfInBounds_toArray, List.set_cons_zero, List.set_cons_succ]
      refine wpAnyH_take (i := 28) (oi := ⟨some 68, _, _, _, _, _⟩) (v := ?_) rfl (by kernel_rfl) (by kernel_rfl) (by kernel_rfl) (fun _ _ _ h => h) (Or.inl ⟨by rfl, by intro w hSw; go_simp; try rfl⟩) (by assumption) ?_
      try simp only [Act.put, List.setIfInBounds_toArray, List.set_cons_zero, List.set_cons_succ]
      refine wpAnyH_take (i := 29) (oi := ⟨some 69, _, _, _, _, _⟩) (v := ?_) rfl (by kernel_rfl) (by kernel_rfl) (by kernel_rfl) (fun _ _ _ h => h) (Or.inl ⟨by rfl, by intro w hSw; go_simp; try rfl⟩) (by assumption) ?_
      try simp only [Act.put, List.setIfInBounds_toArray, List.set_cons_zero, List.set_cons_succ]
      refine wpAnyH_ready (rs := [26, 30]) (by kernel_rfl) (by simp) ?_
      refine AllReadyH.cons (o := ⟨some 66, _, _, _, _, _⟩) rfl (fun K hK => ?_) (AllReadyH.cons (o := ⟨some 70, _, _, _, _, _⟩) rfl (fun K hK => ?_) AllReadyH.nil)
      · go_simp
        have LD : Kp _ := ⟨ls_nil w36 23 (BA.out _ hHeld.1) (BC.out _ hHeld.1)⟩
        refine hK.out _ _ (keep_alloc hHeld _) (fun hHeld2 => ?_)
        clear hK K hHeld
        have hHeld := hHeld2
        clear hHeld2
        generalize (w36).alloc (.cells #[.slice A n c, .slice none 0 0, .slice C p f] 23) = w37 at *
        try simp only [Act.put, List.setIfInBounds_toArray, List.set_cons_zero, List.set_cons_succ]
        refine wpAnyH_ready (rs := [27, 30]) (by kernel_rfl) (by simp) ?_
        refine AllReadyH.cons (o := ⟨some 67, _, _, _, _, _⟩) rfl (fun K hK => ?_) (AllReadyH.cons (o := ⟨some 70, _, _, _, _, _⟩) rfl (fun K hK => ?_) AllReadyH.nil)
        · go_simp
          refine (FANC.out _ _ LD.out).mono ?_
          rintro e w38 ⟨rfl, hb'⟩
          clear LD
          refine hK.out _ _ (keep_call hHeld hgl hb') (fun hHeld2 => ?_)
          clear hK K hb' hHeld
          have hHeld := hHeld2
          clear hHeld2
          try simp only [Act.put, List.setIfInBounds_toArray, List.set_cons_zero, List.set_cons_succ]
          refine wpAnyH_ready (rs := [30]) (by kernel_rfl) (by simp) ?_
          refine AllReadyH.cons (o := ⟨some 70, _, _, _, _, _⟩) rfl (fun K hK => ?_) AllReadyH.nil
          go_simp
          have LE : Kp _ := ⟨ls_two w38 23 (BA.out _ hHeld.1) (BC.out _ hHeld.1)⟩
          refine hK.out _ _ (keep_alloc hHeld _) (fun hHeld2 => ?_)
          clear hK K hHeld
          have hHeld := hHeld2
          clear hHeld2
          generalize (w38).alloc (.cells #[.slice A n c, .slice C p f] 23) = w39 at *
          try simp only [Act.put, List.setIfInBounds_toArray, List.set_cons_zero, List.set_cons_succ]
          refine wpAnyH_ready (rs := [31]) (by kernel_rfl) (by simp) ?_
          refine AllReadyH.cons (o := ⟨some 71, _, _, _, _, _⟩) rfl (fun K hK => ?_) AllReadyH.nil
          go_simp
          refine (FAC.out _ _ LE.out).mono ?_
          rintro e w40 ⟨rfl, hb'⟩
          clear LE
          refine hK.out _ _ (keep_call hHeld hgl hb') (fun hHeld2 => ?_)
          clear hK K hb' hHeld
          have hHeld := hHeld2
          clear hHeld2
          try simp only [Act.put, List.setIfInBounds_toArray, List.set_cons_zero, List.set_cons_succ]
          refine wpAnyH_take (i := 32) (oi := ⟨some 72, _, _, _, _, _⟩) (v := ?_) rfl (by kernel_rfl) (by kernel_rfl) (by kernel_rfl) (fun _ _ _ h => h) (Or.inl ⟨by rfl, by intro w hSw; go_simp; try rfl⟩) (by assumption) ?_
          try simp only [Act.put, List.setIfInBounds_toArray, List.set_cons_zero, List.set_cons_succ]
          refine wpAnyH_take (i := 33) (oi := ⟨some 73, _, _, _, _, _⟩) (v := ?_) rfl (by kernel_rfl) (by kernel_rfl) (by kernel_rfl) (fun _ _ _ h => h) (Or.inl ⟨by rfl, by intro w hSw; go_simp; try rfl⟩) (by assumption) ?_
          try simp only [Act.put, List.setIfInBounds_toArray, List.set_cons_zero, List.set_cons_succ]
          refine wpAnyH_take (i := 34) (oi := ⟨some 74, _, _, _, _, _⟩) (v := ?_) rfl (by kernel_rfl) (by kernel_rfl) (by kernel_rfl) (fun _ _ _ h => h) (Or.inl ⟨by rfl, by intro w hSw; go_simp; try rfl⟩) (by assumption) ?_
          try simp only [Act.put, List.setIfInBounds_toArray, List.set_cons_zero, List.set_cons_succ]
          refine wpAnyH_ready (rs := [35]) (by kernel_rfl) (by simp) ?_
          refine AllReadyH.cons (o := ⟨some 75, _, _, _, _, _⟩) rfl (fun K hK => ?_) AllReadyH.nil
          go_simp
          refine (known2_any _).mono ?_
          rintro e w41 ⟨rfl, hb'⟩
          refine hK.out _ _ (keep_call hHeld hgl hb') (fun hHeld2 => ?_)
          clear hK K hb' hHeld
          have hHeld := hHeld2
          clear hHeld2
          try simp only [Act.put, List.setIfInBounds_toArray, List.set_cons_zero, List.set_cons_succ]
          refine wpAnyH_take (i := 36) (oi := ⟨some 76, _, _, _, _, _⟩) (v := ?_) rfl (by kernel_rfl) (by kernel_rfl) (by kernel_rfl) (fun _ _ _ h => h) (Or.inl ⟨by rfl, by intro w hSw; go_simp; try rfl⟩) (by assumption) ?_
          try simp only [Act.put, List.setIfInBounds_toArray, List.set_cons_zero, List.set_cons_succ]
          refine wpAnyH_take (i := 37) (oi := ⟨some 6, _, _, _, _, _⟩) (v := ?_) rfl (by kernel_rfl) (by kernel_rfl) (by kernel_rfl) (fun _ _ _ h => h) (Or.inl ⟨by rfl, by intro w hSw; go_simp; try rfl⟩) (by assumption) ?_
          try simp only [Act.put, List.setIfInBounds_toArray, List.set_cons_zero, List.set_cons_succ]
          refine wpAnyH_done (by kernel_rfl) ?_ _
          go_wp2
          go_ret
          exact ⟨rfl, hB11.trans (hHeld.1.mono hB11.size)⟩
        · go_simp
          have LE : Kp _ := ⟨ls_two w37 23 (BA.out _ hHeld.1) (BC.out _ hHeld.1)⟩
          replace LD : Kp _ := ⟨(LD.out.below ((Below.refl _ _).alloc (Nat.le_refl _) (.cells #[.slice A n c, .slice C p f] 23))).more (B' := ((w37).alloc (.cells #[.slice A n c, .slice C p f] 23)).heap.size) (by simp)⟩
          refine hK.out _ _ (keep_alloc hHeld _) (fun hHeld2 => ?_)
          clear hK K hHeld
          have hHeld := hHeld2
          clear hHeld2
          generalize (w37).alloc (.cells #[.slice A n c, .slice C p f] 23) = w42 at *
          try simp only [Act.put, List.setIfInBounds_toArray, List.set_cons_zero, List.set_cons_succ]
          refine wpAnyH_ready (rs := [27]) (by kernel_rfl) (by simp) ?_
          refine AllReadyH.cons (o := ⟨some 67, _, _, _, _, _⟩) rfl (fun K hK => ?_) AllReadyH.nil
          go_simp
          refine (FANC.out _ _ LD.out).mono ?_
          rintro e w43 ⟨rfl, hb'⟩
          clear LD
          replace LE : Kp _ := ⟨LE.out.next hb' (Nat.le_refl _)⟩
          refine hK.out _ _ (keep_call hHeld hgl hb') (fun hHeld2 => ?_)
          clear hK K hb' hHeld
          have hHeld := hHeld2
          clear hHeld2
          try simp only [Act.put, List.setIfInBounds_toArray, List.set_cons_zero, List.set_cons_succ]
          refine wpAnyH_ready (rs := [31]) (by kernel_rfl) (by simp) ?_
          refine AllReadyH.cons (o := ⟨some 71, _, _, _, _, _⟩) rfl (fun K hK => ?_) AllReadyH.nil
          go_simp
          refine (FAC.out _ _ LE.out).mono ?_
          rintro e w44 ⟨rfl, hb'⟩
          clear LE
          refine hK.out _ _ (keep_call hHeld hgl hb') (fun hHeld2 => ?_)
          clear hK K hb' hHeld
          have hHeld := hHeld2
          clear hHeld2
          try simp only [Act.put, List.setIfInBounds_toArray, List.set_cons_zero, List.set_cons_succ]
          refine wpAnyH_take (i := 32) (oi := ⟨some 72, _, _, _, _, _⟩) (v := ?_) rfl (by kernel_rfl) (by kernel_rfl) (by kernel_rfl) (fun _ _ _ h => h) (Or.inl ⟨by rfl, by intro w hSw; go_simp; try rfl⟩) (by assumption) ?_
          try simp only [Act.put, List.setIfInBounds_toArray, List.set_cons_zero, List.set_cons_succ]
          refine wpAnyH_take (i := 33) (oi := ⟨some 73, _, _, _, _, _⟩) (v := ?_) rfl (by kernel_rfl) (by kernel_rfl) (by kernel_rfl) (fun _ _ _ h => h) (Or.inl ⟨by rfl, by intro w hSw; go_simp; try rfl⟩) (by assumption) ?_
          try simp only [Act.put, List.setIfInBounds_toArray, List.set_cons_zero, List.set_cons_succ]
          refine wpAnyH_take (i := 34) (oi := ⟨some 74, _, _, _, _, _⟩) (v := ?_) rfl (by kernel_rfl) (by kernel_rfl) (by kernel_rfl) (fun _ _ _ h => h) (Or.inl ⟨by rfl, by intro w hSw; go_simp; try rfl⟩) (by assumption) ?_
          try simp only [Act.put, List.setIfInBounds_toArray, List.set_cons_zero, List.set_cons_succ]
          refine wpAnyH_ready (rs := [35]) (by kernel_rfl) (by simp) ?_
          refine AllReadyH.cons (o := ⟨some 75, _, _, _, _, _⟩) rfl (fun K hK => ?_) AllReadyH.nil
          go_simp
          refine (known2_any _).mono ?_
          rintro e w45 ⟨rfl, hb'⟩
          refine hK.out _ _ (keep_call hHeld hgl hb') (fun hHeld2 => ?_)
          clear hK K hb' hHeld
          have hHeld := hHeld2
          clear hHeld2
          try simp only [Act.put, List.setIfInBounds_toArray, List.set_cons_zero, List.set_cons_succ]
          refine wpAnyH_take (i := 36) (oi := ⟨some 76, _, _, _, _, _⟩) (v := ?_) rfl (by kernel_rfl) (by kernel_rfl) (by kernel_rfl) (fun _ _ _ h => h) (Or.inl ⟨by rfl, by intro w hSw; go_simp; try rfl⟩) (by assumption) ?_
          try simp only [Act.put, List.setIfInBounds_toArray, List.set_cons_zero, List.set_cons_succ]
          refine wpAnyH_take (i := 37) (oi := ⟨some 6, _, _, _, _, _⟩) (v := ?_) rfl (by kernel_rfl) (by kernel_rfl) (by kernel_rfl) (fun _ _ _ h => h) (Or.inl ⟨by rfl, by intro w hSw; go_simp; try rfl⟩) (by assumption) ?_
          try simp only [Act.put, List.setIfInBounds_toArray, List.set_cons_zero, List.set_cons_succ]
          refine wpAnyH_done (by kernel_rfl) ?_ _
          go_wp2
          go_ret
          exact ⟨rfl, hB11.trans (hHeld.1.mono hB11.size)⟩
      · go_simp
        have LE : Kp _ := ⟨ls_two w36 23 (BA.out _ hHeld.1) (BC.out _ hHeld.1)⟩
        refine hK.out _ _ (keep_alloc hHeld _) (fun hHeld2 => ?_)
        clear hK K hHeld
        have hHeld := hHeld2
        clear hHeld2
        generalize (w36).alloc (.cells #[.slice A n c, .slice C p f] 23) = w46 at *
        try simp only [Act.put, List.setIfInBounds_toArray, List.set_cons_zero, List.set_cons_succ]
        refine wpAnyH_ready (rs := [26]) (by kernel_rfl) (by simp) ?_
        refine AllReadyH.cons (o := ⟨some 66, _, _, _, _, _⟩) rfl (fun K hK => ?_) AllReadyH.nil
        go_simp
        have LD : Kp _ := ⟨ls_nil w46 23 (BA.out _ hHeld.1) (BC.out _ hHeld.1)⟩
        replace LE : Kp _ := ⟨(LE.out.below ((Below.refl _ _).alloc (Nat.le_refl _) (.cells #[.slice A n c, .slice none 0 0, .slice C p f] 23))).more (B' := ((w46).alloc (.cells #[.slice A n c, .slice none 0 0, .slice C p f] 23)).heap.size) (by simp)⟩
        refine hK.out _ _ (keep_alloc hHeld _) (fun hHeld2 => ?_)
        clear hK K hHeld
        have hHeld := hHeld2
        clear hHeld2
        generalize (w46).alloc (.cells #[.slice A n c, .slice none 0 0, .slice C p f] 23) = w47 at *
        try simp only [Act.put, List.setIfInBounds_toArray, List.set_cons_zero, List.set_cons_succ]
        refine wpAnyH_ready (rs := [27]) (by kernel_rfl) (by simp) ?_
        refine AllReadyH.cons (o := ⟨some 67, _, _, _, _, _⟩) rfl (fun K hK => ?_) AllReadyH.nil
        go_simp
        refine (FANC.out _ _ LD.out).mono ?_
        rintro e w48 ⟨rfl, hb'⟩
        clear LD
        replace LE : Kp _ := ⟨LE.out.next hb' (Nat.le_refl _)⟩
        refine hK.out _ _ (keep_call hHeld hgl hb') (fun hHeld2 => ?_)
        clear hK K hb' hHeld
        have hHeld := hHeld2
        clear hHeld2
        try simp only [Act.put, List.setIfInBounds_toArray, List.set_cons_zero, List.set_cons_succ]
        refine wpAnyH_ready (rs := [31]) (by kernel_rfl) (by simp) ?_
        refine AllReadyH.cons (o := ⟨some 71, _, _, _, _, _⟩) rfl (fun K hK => ?_) AllReadyH.nil
        go_simp
        refine (FAC.out _ _ LE.out).mono ?_
        rintro e w49 ⟨rfl, hb'⟩
        clear LE
        refine hK.out _ _ (keep_call hHeld hgl hb') (fun hHeld2 => ?_)
        clear hK K hb' hHeld
        have hHeld := hHeld2
        clear hHeld2
        try simp only [Act.put, List.setIfInBounds_toArray, List.set_cons_zero, List.set_cons_succ]
        refine wpAnyH_take (i := 32) (oi := ⟨some 72, _, _, _, _, _⟩) (v := ?_) rfl (by kernel_rfl) (by kernel_rfl) (by kernel_rfl) (fun _ _ _ h => h) (Or.inl ⟨by rfl, by intro w hSw; go_simp; try rfl⟩) (by assumption) ?_
        try simp only [Act.put, List.setIfInBounds_toArray, List.set_cons_zero, List.set_cons_succ]
        refine wpAnyH_take (i := 33) (oi := ⟨some 73, _, _, _, _, _⟩) (v := ?_) rfl (by kernel_rfl) (by kernel_rfl) (by kernel_rfl) (fun _ _ _ h => h) (Or.inl ⟨by rfl, by intro w hSw; go_simp; try rfl⟩) (by assumption) ?_
        try simp only [Act.put, List.setIfInBounds_toArray, List.set_cons_zero, List.set_cons_succ]
        refine wpAnyH_take (i := 34) (oi := ⟨some 74, _, _, _, _, _⟩) (v := ?_) rfl (by kernel_rfl) (by kernel_rfl) (by kernel_rfl) (fun _ _ _ h => h) (Or.inl ⟨by rfl, by intro w hSw; go_simp; try rfl⟩) (by assumption) ?_
        try simp only [Act.put, List.setIfInBounds_toArray, List.set_cons_zero, List.set_cons_succ]
        refine wpAnyH_ready (rs := [35]) (by kernel_rfl) (by simp) ?_
        refine AllReadyH.cons (o := ⟨some 75, _, _, _, _, _⟩) rfl (fun K hK => ?_) AllReadyH.nil
        go_simp
        refine (known2_any _).mono ?_
        rintro e w50 ⟨rfl, hb'⟩
        refine hK.out _ _ (keep_call hHeld hgl hb') (fun hHeld2 => ?_)
        clear hK K hb' hHeld
        have hHeld := hHeld2
        clear hHeld2
        try simp only [Act.put, List.setIfInBounds_toArray, List.set_cons_zero, List.set_cons_succ]
        refine wpAnyH_take (i := 36) (oi := ⟨some 76, _, _, _, _, _⟩) (v := ?_) rfl (by kernel_rfl) (by kernel_rfl) (by kernel_rfl) (fun _ _ _ h => h) (Or.inl ⟨by rfl, by intro w hSw; go_simp; try rfl⟩) (by assumption) ?_
        try simp only [Act.put, List.setIfInBounds_toArray, List.set_cons_zero, List.set_cons_succ]
        refine wpAnyH_take (i := 37) (oi := ⟨some 6, _, _, _, _, _⟩) (v := ?_) rfl (by kernel_rfl) (by kernel_rfl) (by kernel_rfl) (fun _ _ _ h => h) (Or.inl ⟨by rfl, by intro w hSw; go_simp; try rfl⟩) (by assumption) ?_
        try simp only [Act.put, List.setIfInBounds_toArray, List.set_cons_zero, List.set_cons_succ]
        refine wpAnyH_done (by kernel_rfl) ?_ _
        go_wp2
        go_ret
        exact ⟨rfl, hB11.trans (hHeld.1.mono hB11.size)⟩
  · go_simp
    have LB : Kp _ := ⟨ls_two w13 23 (BA.out _ hHeld.1) (BC.out _ hHeld.1)⟩
    refine hK.out _ _ (keep_alloc hHeld _) (fun hHeld2 => ?_)
    clear hK K hHeld
    have hHeld := hHeld2
    clear hHeld2
    generalize (w13).alloc (.cells #[.slice A n c, .slice C p f] 23) = w51 at *
    try simp only [Act.put, List.setIfInBounds_toArray, List.set_cons_zero, List.set_cons_succ]
    refine wpAnyH_ready (rs := [7]) (by kernel_rfl) (by simp) ?_
    refine AllReadyH.cons (o := ⟨some 47, _, _, _, _, _⟩) rfl (fun K hK => ?_) AllReadyH.nil
    go_simp
    refine (CH.out _ hHeld.1).mono ?_
    rintro e w52 ⟨rfl, hb'⟩
    replace LB : Kp _ := ⟨LB.out.next hb' (Nat.le_refl _)⟩
    refine hK.out _ _ (keep_call hHeld hgl hb') (fun hHeld2 => ?_)
    clear hK K hb' hHeld
    have hHeld := hHeld2
    clear hHeld2
    try simp only [Act.put, List.setIfInBounds_toArray, List.set_cons_zero, List.set_cons_succ]
    refine wpAnyH_ready (rs := [11]) (by kernel_rfl) (by simp) ?_
    refine AllReadyH.cons (o := ⟨some 51, _, _, _, _, _⟩) rfl (fun K hK => ?_) AllReadyH.nil
    go_simp
    refine (FAC.out _ _ LB.out).mono ?_
    rintro e w53 ⟨rfl, hb'⟩
    clear LB
    refine hK.out _ _ (keep_call hHeld hgl hb') (fun hHeld2 => ?_)
    clear hK K hb' hHeld
    have hHeld := hHeld2
    clear hHeld2
    try simp only [Act.put, List.setIfInBounds_toArray, List.set_cons_zero, List.set_cons_succ]
    refine wpAnyH_take (i := 12) (oi := ⟨some 52, _, _, _, _, _⟩) (v := ?_) rfl (by kernel_rfl) (by kernel_rfl) (by kernel_rfl) (fun _ _ _ h => h) (Or.inl ⟨by rfl, by intro w hSw; go_simp; try rfl⟩) (by assumption) ?_
    try simp only [Act.put, List.setIfInBounds_toArray, List.set_cons_zero, List.set_cons_succ]
    refine wpAnyH_take (i := 13) (oi := ⟨some 53, _, _, _, _, _⟩) (v := ?_) rfl (by kernel_rfl) (by kernel_rfl) (by kernel_rfl) (fun _ _ _ h => h) (Or.inl ⟨by rfl, by intro w hSw; go_simp; try rfl⟩) (by assumption) ?_
    try simp only [Act.put, List.setIfInBounds_toArray, List.set_cons_zero, List.set_cons_succ]
    refine wpAnyH_take (i := 14) (oi := ⟨some 54, _, _, _, _, _⟩) (v := ?_) rfl (by kernel_rfl) (by kernel_rfl) (by kernel_rfl) (fun _ _ _ h => h) (Or.inl ⟨by rfl, by intro w hSw; go_simp; try rfl⟩) (by assumption) ?_
    try simp only [Act.put, List.setIfInBounds_toArray, List.set_cons_zero, List.set_cons_succ]
    refine wpAnyH_take (i := 15) (oi := ⟨some 55, _, _, _, _, _⟩) (v := ?_) rfl (by kernel_rfl) (by kernel_rfl) (by kernel_rfl) (fun _ _ _ h => h) (Or.inl ⟨by rfl, by intro w hSw; go_simp; try rfl⟩) (by assumption) ?_
    try simp only [Act.put, List.setIfInBounds_toArray, List.set_cons_zero, List.set_cons_succ]
    refine wpAnyH_take (i := 17) (oi := ⟨some 57, _, _, _, _, _⟩) (v := ?_) rfl (by kernel_rfl) (by kernel_rfl) (by kernel_rfl) (fun _ _ _ h => h) (Or.inl ⟨by rfl, by intro w hSw; go_simp; try rfl⟩) (by assumption) ?_
    try simp only [Act.put, List.setIfInBounds_toArray, List.set_cons_zero, List.set_cons_succ]
    refine wpAnyH_take (i := 18) (oi := ⟨some 58, _, _, _, _, _⟩) (v := ?_) rfl (by kernel_rfl) (by kernel_rfl) (by kernel_rfl) (fun _ _ _ h => h) (Or.inl ⟨by rfl, by intro w hSw; go_simp; try rfl⟩) (by assumption) ?_
    try simp only [Act.put, List.setIfInBounds_toArray, List.set_cons_zero, List.set_cons_succ]
    refine wpAnyH_ready (rs := [16, 19]) (by kernel_rfl) (by simp) ?_
    refine AllReadyH.cons (o := ⟨some 56, _, _, _, _, _⟩) rfl (fun K hK => ?_) (AllReadyH.cons (o := ⟨some 59, _, _, _, _, _⟩) rfl (fun K hK => ?_) AllReadyH.nil)
    · go_simp
      refine (CK.out _ hHeld.1).mono ?_
      rintro e w54 ⟨rfl, hb'⟩
      refine hK.out _ _ (keep_call hHeld hgl hb') (fun hHeld2 => ?_)
      clear hK K hb' hHeld
      have hHeld := hHeld2
      clear hHeld2
      try simp only [Act.put, List.setIfInBounds_toArray, List.set_cons_zero, List.set_cons_succ]
      refine wpAnyH_ready (rs := [19]) (by kernel_rfl) (by simp) ?_
      refine AllReadyH.cons (o := ⟨some 59, _, _, _, _, _⟩) rfl (fun K hK => ?_) AllReadyH.nil
      go_simp
      have LC : Kp _ := ⟨ls_two w54 23 (BB.out _ hHeld.1) (BC.out _ hHeld.1)⟩
      refine hK.out _ _ (keep_alloc hHeld _) (fun hHeld2 => ?_)
      clear hK K hHeld
      have hHeld := hHeld2
      clear hHeld2
      generalize (w54).alloc (.cells #[.slice B m d, .slice C p f] 23) = w55 at *
      try simp only [Act.put, List.setIfInBounds_toArray, List.set_cons_zero, List.set_cons_succ]
      refine wpAnyH_ready (rs := [20]) (by kernel_rfl) (by simp) ?_
      refine AllReadyH.cons (o := ⟨some 60, _, _, _, _, _⟩) rfl (fun K hK => ?_) AllReadyH.nil
      go_simp
      refine (FBC.out _ _ LC.out).mono ?_
      rintro e w56 ⟨rfl, hb'⟩
      clear LC
      refine hK.out _ _ (keep_call hHeld hgl hb') (fun hHeld2 => ?_)
      clear hK K hb' hHeld
      have hHeld := hHeld2
      clear hHeld2
      try simp only [Act.put, List.setIfInBounds_toArray, List.set_cons_zero, List.set_cons_succ]
      refine wpAnyH_take (i := 21) (oi := ⟨some 61, _, _, _, _, _⟩) (v := ?_) rfl (by kernel_rfl) (by kernel_rfl) (by kernel_rfl) (fun _ _ _ h => h) (Or.inl ⟨by rfl, by intro w hSw; go_simp; try rfl⟩) (by assumption) ?_
      try simp only [Act.put, List.setIfInBounds_toArray, List.set_cons_zero, List.set_cons_succ]
      refine wpAnyH_take (i := 22) (oi := ⟨some 62, _, _, _, _, _⟩) (v := ?_) rfl (by kernel_rfl) (by kernel_rfl) (by kernel_rfl) (fun _ _ _ h => h) (Or.inl ⟨by rfl, by intro w hSw; go_simp; try rfl⟩) (by assumption) ?_
      try simp only [Act.put, List.setIfInBounds_toArray, List.set_cons_zero, List.set_cons_succ]
      refine wpAnyH_take (i := 23) (oi := ⟨some 63, _, _, _, _, _⟩) (v := ?_) rfl (by kernel_rfl) (by kernel_rfl) (by kernel_rfl) (fun _ _ _ h => h) (Or.inl ⟨by rfl, by intro w hSw; go_simp; try rfl⟩) (by assumption) ?_
      try simp only [Act.put, List.setIfInBounds_toArray, List.set_cons_zero, List.set_cons_succ]
      refine wpAnyH_take (i := 24) (oi := ⟨some 64, _, _, _, _, _⟩) (v := ?_) rfl (by kernel_rfl) (by kernel_rfl) (by kernel_rfl) (fun _ _ _ h => h) (Or.inl ⟨by rfl, by intro w hSw; go_simp; try rfl⟩) (by assumption) ?_
      try simp only [Act.put, List.setIfInBounds_toArray, List.set_cons_zero, List.set_cons_succ]
      refine wpAnyH_take (i := 25) (oi := ⟨some 65, _, _, _, _, _⟩) (v := ?_) rfl (by kernel_rfl) (by kernel_rfl) (by kernel_rfl) (fun _ _ _ h => h) (Or.inl ⟨by rfl, by intro w hSw; go_simp; try rfl⟩) (by assumption) ?_
      try simp only [Act.put, List.setIfInBounds_toArray, List.set_cons_zero, List.set_cons_succ]
      refine wpAnyH_take (i := 28) (oi := ⟨some 68, _, _, _, _, _⟩) (v := ?_) rfl (by kernel_rfl) (by kernel_rfl) (by kernel_rfl) (fun _ _ _ h => h) (Or.inl ⟨by rfl, by intro w hSw; go_simp; try rfl⟩) (by assumption) ?_
      try simp only [Act.put, List.setIfInBounds_toArray, List.set_cons_zero, List.set_cons_succ]
      refine wpAnyH_take (i := 29) (oi := ⟨some 69, _, _, _, _, _⟩) (v := ?_) rfl (by kernel_rfl) (by kernel_rfl) (by kernel_rfl) (fun _ _ _ h => h) (Or.inl ⟨by rfl, by intro w hSw; go_simp; try rfl⟩) (by assumption) ?_
      try simp only [Act.put, List.setIfInBounds_toArray, List.set_cons_zero, List.set_cons_succ]
      refine wpAnyH_ready (rs := [26, 30]) (by kernel_rfl) (by simp) ?_
      refine AllReadyH.cons (o := ⟨some 66, _, _, _, _, _⟩) rfl (fun K hK => ?_) (AllReadyH.cons (o := ⟨some 70, _, _, _, _, _⟩) rfl (fun K hK => ?_) AllReadyH.nil)
      · go_simp
        have LD : Kp _ := ⟨ls_nil w56 23 (BA.out _ hHeld.1) (BC.out _ hHeld.1)⟩
        refine hK.out _ _ (keep_alloc hHeld _) (fun hHeld2 => ?_)
        clear hK K hHeld
        have hHeld := hHeld2
        clear hHeld2
        generalize (w56).alloc (.cells #[.slice A n c, .slice none 0 0, .slice C p f] 23) = w57 at *
        try simp only [Act.put, List.setIfInBounds_toArray, List.set_cons_zero, List.set_cons_succ]
        refine wpAnyH_ready (rs := [27, 30]) (by kernel_rfl) (by simp) ?_
        refine AllReadyH.cons (o := ⟨some 67, _, _, _, _, _⟩) rfl (fun K hK => ?_) (AllReadyH.cons (o := ⟨some 70, _, _, _, _, _⟩) rfl (fun K hK => ?_) AllReadyH.nil)
        · go_simp
          refine (FANC.out _ _ LD.out).mono ?_
          rintro e w58 ⟨rfl, hb'⟩
          clear LD
          refine hK.out _ _ (keep_call hHeld hgl hb') (fun hHeld2 => ?_)
          clear hK K hb' hHeld
          have hHeld := hHeld2
          clear hHeld2
          try simp only [Act.put, List.setIfInBounds_toArray, List.set_cons_zero, List.set_cons_succ]
          refine wpAnyH_ready (rs := [30]) (by kernel_rfl) (by simp) ?_
          refine AllReadyH.cons (o := ⟨some 70, _, _, _, _, _⟩) rfl (fun K hK => ?_) AllReadyH.nil
          go_simp
          have LE : Kp _ := ⟨ls_two w58 23 (BA.out _ hHeld.1) (BC.out _ hHeld.1)⟩
          refine hK.out _ _ (keep_alloc hHeld _) (fun hHeld2 => ?_)
          clear hK K hHeld
          have hHeld := hHeld2
          clear hHeld2
          generalize (w58).alloc (.cells #[.slice A n c, .slice C p f] 23) = w59 at *
          try simp only [Act.put, List.setIfInBounds_toArray, List.set_cons_zero, List.set_cons_succ]
          refine wpAnyH_ready (rs := [31]) (by kernel_rfl) (by simp) ?_
          refine AllReadyH.cons (o := ⟨some 71, _, _, _, _, _⟩) rfl (fun K hK => ?_) AllReadyH.nil
          go_simp
          refine (FAC.out _ _ LE.out).mono ?_
          rintro e w60 ⟨rfl, hb'⟩
          clear LE
          refine hK.out _ _ (keep_call hHeld hgl hb') (fun hHeld2 => ?_)
          clear hK K hb' hHeld
          have hHeld := hHeld2
          clear hHeld2
          try simp only [Act.put, List.setIfInBounds_toArray, List.set_cons_zero, List.set_cons_succ]
          refine wpAnyH_take (i := 32) (oi := ⟨some 72, _, _, _, _, _⟩) (v := ?_) rfl (by kernel_rfl) (by kernel_rfl) (by kernel_rfl) (fun _ _ _ h => h) (Or.inl ⟨by rfl, by intro w hSw; go_simp; try rfl⟩) (by assumption) ?_
          try simp only [Act.put, List.setIfInBounds_toArray, List.set_cons_zero, List.set_cons_succ]
          refine wpAnyH_take (i := 33) (oi := ⟨some 73, _, _, _, _, _⟩) (v := ?_) rfl (by kernel_rfl) (by kernel_rfl) (by kernel_rfl) (fun _ _ _ h => h) (Or.inl ⟨by rfl, by intro w hSw; go_simp; try rfl⟩) (by assumption) ?_
          try simp only [Act.put, List.setIfInBounds_toArray, List.set_cons_zero, List.set_cons_succ]
          refine wpAnyH_take (i := 34) (oi := ⟨some 74, _, _, _, _, _⟩) (v := ?_) rfl (by kernel_rfl) (by kernel_rfl) (by kernel_rfl) (fun _ _ _ h => h) (Or.inl ⟨by rfl, by intro w hSw; go_simp; try rfl⟩) (by assumption) ?_
          try simp only [Act.put, List.setIfInBounds_toArray, List.set_cons_zero, List.set_cons_succ]
          refine wpAnyH_ready (rs := [35]) (by kernel_rfl) (by simp) ?_
          refine AllReadyH.cons (o := ⟨some 75, _, _, _, _, _⟩) rfl (fun K hK => ?_) AllReadyH.nil
          go_simp
          refine (known2_any _).mono ?_
          rintro e w61 ⟨rfl, hb'⟩
          refine hK.out _ _ (keep_call hHeld hgl hb') (fun hHeld2 => ?_)
          clear hK K hb' hHeld
          have hHeld := hHeld2
          clear hHeld2
          try simp only [Act.put, List.setIfInBounds_toArray, List.set_cons_zero, List.set_cons_succ]
          refine wpAnyH_take (i := 36) (oi := ⟨some 76, _, _, _, _, _⟩) (v := ?_) rfl (by kernel_rfl) (by kernel_rfl) (by kernel_rfl) (fun _ _ _ h => h) (Or.inl ⟨by rfl, by intro w hSw; go_simp; try rfl⟩) (by assumption) ?_
          try simp only [Act.put, List.setIfInBounds_toArray, List.set_cons_zero, List.set_cons_succ]
          refine wpAnyH_take (i := 37) (oi := ⟨some 6, _, _, _, _, _⟩) (v := ?_) rfl (by kernel_rfl) (by kernel_rfl) (by kernel_rfl) (fun _ _ _ h => h) (Or.inl ⟨by rfl, by intro w hSw; go_simp; try rfl⟩) (by assumption) ?_
          try simp only [Act.put, List.setIfInBounds_toArray, List.set_cons_zero, List.set_cons_succ]
          refine wpAnyH_done (by kernel_rfl) ?_ _
          go_wp2
          go_ret
          exact ⟨rfl, hB11.trans (hHeld.1.mono hB11.size)⟩
        · go_simp
          have LE : Kp _ := ⟨ls_two w57 23 (BA.out _ hHeld.1) (BC.out _ hHeld.1)⟩
          replace LD : Kp _ := ⟨(LD.out.below ((Below.refl _ _).alloc (Nat.le_refl _) (.cells #[.slice A n c, .slice C p f] 23))).more (B' := ((w57).alloc (.cells #[.slice A n c, .slice C p f] 23)).heap.size) (by simp)⟩
          refine hK.out _ _ (keep_alloc hHeld _) (fun hHeld2 => ?_)
          clear hK K hHeld
          have hHeld := hHeld2
          clear hHeld2
          generalize (w57).alloc (.cells #[.slice A n c, .slice C p f] 23) = w62 at *
          try simp only [Act.put, List.setIfInBounds_toArray, List.set_cons_zero, List.set_cons_succ]
          refine wpAnyH_ready (rs := [27]) (by kernel_rfl) (by simp) ?_
          refine AllReadyH.cons (o := ⟨some 67, _, _, _, _, _⟩) rfl (fun K hK => ?_) AllReadyH.nil
          go_simp
          refine (FANC.out _ _ LD.out).mono ?_
          rintro e w63 ⟨rfl, hb'⟩
          clear LD
          replace LE : Kp _ := ⟨LE.out.next hb' (Nat.le_refl _)⟩
          refine hK.out _ _ (keep_call hHeld hgl hb') (fun hHeld2 => ?_)
          clear hK K hb' hHeld
          have hHeld := hHeld2
          clear hHeld2
          try simp only [Act.put, List.setIfInBounds_toArray, List.set_cons_zero, List.set_cons_succ]
          refine wpAnyH_ready (rs := [31]) (by kernel_rfl) (by simp) ?_
          refine AllReadyH.cons (o := ⟨some 71, _, _, _, _, _⟩) rfl (fun K hK => ?_) AllReadyH.nil
          go_simp
          refine (FAC.out _ _ LE.out).mono ?_
          rintro e w64 ⟨rfl, hb'⟩
          clear LE
          refine hK.out _ _ (keep_call hHeld hgl hb') (fun hHeld2 => ?_)
          clear hK K hb' hHeld
          have hHeld := hHeld2
          clear hHeld2
          try simp only [Act.put, List.setIfInBounds_toArray, List.set_cons_zero, List.set_cons_succ]
          refine wpAnyH_take (i := 32) (oi := ⟨some 72, _, _, _, _, _⟩) (v := ?_) rfl (by kernel_rfl) (by kernel_rfl) (by kernel_rfl) (fun _ _ _ h => h) (Or.inl ⟨by rfl, by intro w hSw; go_simp; try rfl⟩) (by assumption) ?_
          try simp only [Act.put, List.setIfInBounds_toArray, List.set_cons_zero, List.set_cons_succ]
          refine wpAnyH_take (i := 33) (oi := ⟨some 73, _, _, _, _, _⟩) (v := ?_) rfl (by kernel_rfl) (by kernel_rfl) (by kernel_rfl) (fun _ _ _ h => h) (Or.inl ⟨by rfl, by intro w hSw; go_simp; try rfl⟩) (by assumption) ?_
          try simp only [Act.put, List.setIfInBounds_toArray, List.set_cons_zero, List.set_cons_succ]
          refine wpAnyH_take (i := 34) (oi := ⟨some 74, _, _, _, _, _⟩) (v := ?_) rfl (by kernel_rfl) (by kernel_rfl) (by kernel_rfl) (fun _ _ _ h => h) (Or.inl ⟨by rfl, by intro w hSw; go_simp; try rfl⟩) (by assumption) ?_
          try simp only [Act.put, List.setIfInBounds_toArray, List.set_cons_zero, List.set_cons_succ]
          refine wpAnyH_ready (rs := [35]) (by kernel_rfl) (by simp) ?_
          refine AllReadyH.cons (o := ⟨some 75, _, _, _, _, _⟩) rfl (fun K hK => ?_) AllReadyH.nil
          go_simp
          refine (known2_any _).mono ?_
          rintro e w65 ⟨rfl, hb'⟩
          refine hK.out _ _ (keep_call hHeld hgl hb') (fun hHeld2 => ?_)
          clear hK K hb' hHeld
          have hHeld := hHeld2
          clear hHeld2
          try simp only [Act.put, List.setIfInBounds_toArray, List.set_cons_zero, List.set_cons_succ]
          refine wpAnyH_take (i := 36) (oi := ⟨some 76, _, _, _, _, _⟩) (v := ?_) rfl (by kernel_rfl) (by kernel_rfl) (by kernel_rfl) (fun _ _ _ h => h) (Or.inl ⟨by rfl, by intro w hSw; go_simp; try rfl⟩) (by assumption) ?_
          try simp only [Act.put, List.setIfInBounds_toArray, List.set_cons_zero, List.set_cons_succ]
          refine wpAnyH_take (i := 37) (oi := ⟨some 6, _, _, _, _, _⟩) (v := ?_) rfl (by kernel_rfl) (by kernel_rfl) (by kernel_rfl) (fun _ _ _ h => h) (Or.inl ⟨by rfl, by intro w hSw; go_simp; try rfl⟩) (by assumption) ?_
          try simp only [Act.put, List.setIfInBounds_toArray, List.set_cons_zero, List.set_cons_succ]
          refine wpAnyH_done (by kernel_rfl) ?_ _
          go_wp2
          go_ret
          exact ⟨rfl, hB11.trans (hHeld.1.mono hB11.size)⟩
      · go_simp
        have LE : Kp _ := ⟨ls_two w56 23 (BA.out _ hHeld.1) (BC.out _ hHeld.1)⟩
        refine hK.out _ _ (keep_alloc hHeld _) (fun hHeld2 => ?_)
        clear hK K hHeld
        have hHeld := hHeld2
        clear hHeld2
        generalize (w56).alloc (.cells #[.slice A n c, .slice C p f] 23) = w66 at *
        try simp only [Act.put, List.setIfInBounds_toArray, List.set_cons_zero, List.set_cons_succ]
        refine wpAnyH_ready (rs := [26]) (by kernel_rfl) (by simp) ?_
        refine AllReadyH.cons (o := ⟨some 66, _, _, _, _, _⟩) rfl (fun K hK => ?_) AllReadyH.nil
        go_simp
        have LD : Kp _ := ⟨ls_nil w66 23 (BA.out _ hHeld.1) (BC.out _ hHeld.1)⟩
        replace LE : Kp _ := ⟨(LE.out.below ((Below.refl _ _).alloc (Nat.le_refl _) (.cells #[.slice A n c, .slice none 0 0, .slice C p f] 23))).more (B' := ((w66).alloc (.cells #[.slice A n c, .slice none 0 0, .slice C p f] 23)).heap.size) (by simp)⟩
        refine hK.out _ _ (keep_alloc hHeld _) (fun hHeld2 => ?_)
        clear hK K hHeld
        have hHeld := hHeld2
        clear hHeld2
        generalize (w66).alloc (.cells #[.slice A n c, .slice none 0 0, .slice C p f] 23) = w67 at *
        try simp only [Act.put, List.setIfInBounds_toArray, List.set_cons_zero, List.set_cons_succ]
        refine wpAnyH_ready (rs := [27]) (by kernel_rfl) (by simp) ?_
        refine AllReadyH.cons (o := ⟨some 67, _, _, _, _, _⟩) rfl (fun K hK => ?_) AllReadyH.nil
        go_simp
        refine (FANC.out _ _ LD.out).mono ?_
        rintro e w68 ⟨rfl, hb'⟩
        clear LD
        replace LE : Kp _ := ⟨LE.out.next hb' (Nat.le_refl _)⟩
        refine hK.out _ _ (keep_call hHeld hgl hb') (fun hHeld2 => ?_)
        clear hK K hb' hHeld
        have hHeld := hHeld2
        clear hHeld2
        try simp only [Act.put, List.setIfInBounds_toArray, List.set_cons_zero, List.set_cons_succ]
        refine wpAnyH_ready (rs := [31]) (by kernel_rfl) (by simp) ?_
        refine AllReadyH.cons (o := ⟨some 71, _, _, _, _, _⟩) rfl (fun K hK => ?_) AllReadyH.nil
        go_simp
        refine (FAC.out _ _ LE.out).mono ?_
        rintro e w69 ⟨rfl, hb'⟩
        clear LE
        refine hK.out _ _ (keep_call hHeld hgl hb') (fun hHeld2 => ?_)
        clear hK K hb' hHeld
        have hHeld := hHeld2
        clear hHeld2
        try simp only [Act.put, List.setIfInBounds_toArray, List.set_cons_zero, List.set_cons_succ]
        refine wpAnyH_take (i := 32) (oi := ⟨some 72, _, _, _, _, _⟩) (v := ?_) rfl (by kernel_rfl) (by kernel_rfl) (by kernel_rfl) (fun _ _ _ h => h) (Or.inl ⟨by rfl, by intro w hSw; go_simp; try rfl⟩) (by assumption) ?_
        try simp only [Act.put, List.setIfInBounds_toArray, List.set_cons_zero, List.set_cons_succ]
        refine wpAnyH_take (i := 33) (oi := ⟨some 73, _, _, _, _, _⟩) (v := ?_) rfl (by kernel_rfl) (by kernel_rfl) (by kernel_rfl) (fun _ _ _ h => h) (Or.inl ⟨by rfl, by intro w hSw; go_simp; try rfl⟩) (by assumption) ?_
        try simp only [Act.put, List.setIfInBounds_toArray, List.set_cons_zero, List.set_cons_succ]
        refine wpAnyH_take (i := 34) (oi := ⟨some 74, _, _, _, _, _⟩) (v := ?_) rfl (by kernel_rfl) (by kernel_rfl) (by kernel_rfl) (fun _ _ _ h => h) (Or.inl ⟨by rfl, by intro w hSw; go_simp; try rfl⟩) (by assumption) ?_
        try simp only [Act.put, List.setIfInBounds_toArray, List.set_cons_zero, List.set_cons_succ]
        refine wpAnyH_ready (rs := [35]) (by kernel_rfl) (by simp) ?_
        refine AllReadyH.cons (o := ⟨some 75, _, _, _, _, _⟩) rfl (fun K hK => ?_) AllReadyH.nil
        go_simp
        refine (known2_any _).mono ?_
        rintro e w70 ⟨rfl, hb'⟩
        refine hK.out _ _ (keep_call hHeld hgl hb') (fun hHeld2 => ?_)
        clear hK K hb' hHeld
        have hHeld := hHeld2
        clear hHeld2
        try simp only [Act.put, List.setIfInBounds_toArray, List.set_cons_zero, List.set_cons_succ]
        refine wpAnyH_take (i := 36) (oi := ⟨some 76, _, _, _, _, _⟩) (v := ?_) rfl (by kernel_rfl) (by kernel_rfl) (by kernel_rfl) (fun _ _ _ h => h) (Or.inl ⟨by rfl, by intro w hSw; go_simp; try rfl⟩) (by assumption) ?_
        try simp only [Act.put, List.setIfInBounds_toArray, List.set_cons_zero, List.set_cons_succ]
        refine wpAnyH_take (i := 37) (oi := ⟨some 6, _, _, _, _, _⟩) (v := ?_) rfl (by kernel_rfl) (by kernel_rfl) (by kernel_rfl) (fun _ _ _ h => h) (Or.inl ⟨by rfl, by intro w hSw; go_simp; try rfl⟩) (by assumption) ?_
        try simp only [Act.put, List.setIfInBounds_toArray, List.set_cons_zero, List.set_cons_succ]
        refine wpAnyH_done (by kernel_rfl) ?_ _
        go_wp2
        go_ret
        exact ⟨rfl, hB11.trans (hHeld.1.mono hB11.size)⟩
    · go_simp
      have LC : Kp _ := ⟨ls_two w53 23 (BB.out _ hHeld.1) (BC.out _ hHeld.1)⟩
      refine hK.out _ _ (keep_alloc hHeld _) (fun hHeld2 => ?_)
      clear hK K hHeld
      have hHeld := hHeld2
      clear hHeld2
      generalize (w53).alloc (.cells #[.slice B m d, .slice C p f] 23) = w71 at *
      try simp only [Act.put, List.setIfInBounds_toArray, List.set_cons_zero, List.set_cons_succ]
      refine wpAnyH_ready (rs := [16]) (by kernel_rfl) (by simp) ?_
      refine AllReadyH.cons (o := ⟨some 56, _, _, _, _, _⟩) rfl (fun K hK => ?_) AllReadyH.nil
      go_simp
      refine (CK.out _ hHeld.1).mono ?_
      rintro e w72 ⟨rfl, hb'⟩
      replace LC : Kp _ := ⟨LC.out.next hb' (Nat.le_refl _)⟩
      refine hK.out _ _ (keep_call hHeld hgl hb') (fun hHeld2 => ?_)
      clear hK K hb' hHeld
      have hHeld := hHeld2
      clear hHeld2
      try simp only [Act.put, List.setIfInBounds_toArray, List.set_cons_zero, List.set_cons_succ]
      refine wpAnyH_ready (rs := [20]) (by kernel_rfl) (by simp) ?_
      refine AllReadyH.cons (o := ⟨some 60, _, _, _, _, _⟩) rfl (fun K hK => ?_) AllReadyH.nil
      go_simp
      refine (FBC.out _ _ LC.out).mono ?_
      rintro e w73 ⟨rfl, hb'⟩
      clear LC
      refine hK.out _ _ (keep_call hHeld hgl hb') (fun hHeld2 => ?_)
      clear hK K hb' hHeld
      have hHeld := hHeld2
      clear hHeld2
      try simp only [Act.put, List.setIfInBounds_toArray, List.set_cons_zero, List.set_cons_succ]
      refine wpAnyH_take (i := 21) (oi := ⟨some 61, _, _, _, _, _⟩) (v := ?_) rfl (by kernel_rfl) (by kernel_rfl) (by kernel_rfl) (fun _ _ _ h => h) (Or.inl ⟨by rfl, by intro w hSw; go_simp; try rfl⟩) (by assumption) ?_
      try simp only [Act.put, List.setIfInBounds_toArray, List.set_cons_zero, List.set_cons_succ]
      refine wpAnyH_take (i := 22) (oi := ⟨some 62, _, _, _, _, _⟩) (v := ?_) rfl (by kernel_rfl) (by kernel_rfl) (by kernel_rfl) (fun _ _ _ h => h) (Or.inl ⟨by rfl, by intro w hSw; go_simp; try rfl⟩) (by assumption) ?_
      try simp only [Act.put, List.setIfInBounds_toArray, List.set_cons_zero, List.set_cons_succ]
      refine wpAnyH_take (i := 23) (oi := ⟨some 63, _, _, _, _, _⟩) (v := ?_) rfl (by kernel_rfl) (by kernel_rfl) (by kernel_rfl) (fun _ _ _ h => h) (Or.inl ⟨by rfl, by intro w hSw; go_simp; try rfl⟩) (by assumption) ?_
      try simp only [Act.put, List.setIfInBounds_toArray, List.set_cons_zero, List.set_cons_succ]
      refine wpAnyH_take (i := 24) (oi := ⟨some 64, _, _, _, _, _⟩) (v := ?_) rfl (by kernel_rfl) (by kernel_rfl) (by kernel_rfl) (fun _ _ _ h => h) (Or.inl ⟨by rfl, by intro w hSw; go_simp; try rfl⟩) (by assumption) ?_
      try simp only [Act.put, List.setIfInBounds_toArray, List.set_cons_zero, List.set_cons_succ]
      refine wpAnyH_take (i := 25) (oi := ⟨some 65, _, _, _, _, _⟩) (v := ?_) rfl (by kernel_rfl) (by kernel_rfl) (by kernel_rfl) (fun _ _ _ h => h) (Or.inl ⟨by rfl, by intro w hSw; go_simp; try rfl⟩) (by assumption) ?_
      try simp only [Act.put, List.setIfInBounds_toArray, List.set_cons_zero, List.set_cons_succ]
      refine wpAnyH_take (i := 28) (oi := ⟨some 68, _, _, _, _, _⟩) (v := ?_) rfl (by kernel_rfl) (by kernel_rfl) (by kernel_rfl) (fun _ _ _ h => h) (Or.inl ⟨by rfl, by intro w hSw; go_simp; try rfl⟩) (by assumption) ?_
      try simp only [Act.put, List.setIfInBounds_toArray, List.set_cons_zero, List.set_cons_succ]
      refine wpAnyH_take (i := 29) (oi := ⟨some 69, _, _, _, _, _⟩) (v := ?_) rfl (by kernel_rfl) (by kernel_rfl) (by kernel_rfl) (fun _ _ _ h => h) (Or.inl ⟨by rfl, by intro w hSw; go_simp; try rfl⟩) (by assumption) ?_
      try simp only [Act.put, List.setIfInBounds_toArray, List.set_cons_zero, List.set_cons_succ]
      refine wpAnyH_ready (rs := [26, 30]) (by kernel_rfl) (by simp) ?_
      refine AllReadyH.cons (o := ⟨some 66, _, _, _, _, _⟩) rfl (fun K hK => ?_) (AllReadyH.cons (o := ⟨some 70, _, _, _, _, _⟩) rfl (fun K hK => ?_) AllReadyH.nil)
      · go_simp
        have LD : Kp _ := ⟨ls_nil w73 23 (BA.out _ hHeld.1) (BC.out _ hHeld.1)⟩
        refine hK.out _ _ (keep_alloc hHeld _) (fun hHeld2 => ?_)
        clear hK K hHeld
        have hHeld := hHeld2
        clear hHeld2
        generalize (w73).alloc (.cells #[.slice A n c, .slice none 0 0, .slice C p f] 23) = w74 at *
        try simp only [Act.put, List.setIfInBounds_toArray, List.set_cons_zero, List.set_cons_succ]
        refine wpAnyH_ready (rs := [27, 30]) (by kernel_rfl) (by simp) ?_
        refine AllReadyH.cons (o := ⟨some 67, _, _, _, _, _⟩) rfl (fun K hK => ?_) (AllReadyH.cons (o := ⟨some 70, _, _, _, _, _⟩) rfl (fun K hK => ?_) AllReadyH.nil)
        · go_simp
          refine (FANC.out _ _ LD.out).mono ?_
          rintro e w75 ⟨rfl, hb'⟩
          clear LD
          refine hK.out _ _ (keep_call hHeld hgl hb') (fun hHeld2 => ?_)
          clear hK K hb' hHeld
          have hHeld := hHeld2
          clear hHeld2
          try simp only [Act.put, List.setIfInBounds_toArray, List.set_cons_zero, List.set_cons_succ]
          refine wpAnyH_ready (rs := [30]) (by kernel_rfl) (by simp) ?_
          refine AllReadyH.cons (o := ⟨some 70, _, _, _, _, _⟩) rfl (fun K hK => ?_) AllReadyH.nil
          go_simp
          have LE : Kp _ := ⟨ls_two w75 23 (BA.out _ hHeld.1) (BC.out _ hHeld.1)⟩
          refine hK.out _ _ (keep_alloc hHeld _) (fun hHeld2 => ?_)
          clear hK K hHeld
          have hHeld := hHeld2
          clear hHeld2
          generalize (w75).alloc (.cells #[.slice A n c, .slice C p f] 23) = w76 at *
          try simp only [Act.put, List.setIfInBounds_toArray, List.set_cons_zero, List.set_cons_succ]
          refine wpAnyH_ready (rs := [31]) (by kernel_rfl) (by simp) ?_
          refine AllReadyH.cons (o := ⟨some 71, _, _, _, _, _⟩) rfl (fun K hK => ?_) AllReadyH.nil
          go_simp
          refine (FAC.out _ _ LE.out).mono ?_
          rintro e w77 ⟨rfl, hb'⟩
          clear LE
          refine hK.out _ _ (keep_call hHeld hgl hb') (fun hHeld2 => ?_)
          clear hK K hb' hHeld
          have hHeld := hHeld2
          clear hHeld2
          try simp only [Act.put, List.setIfInBounds_toArray, List.set_cons_zero, List.set_cons_succ]
          refine wpAnyH_take (i := 32) (oi := ⟨some 72, _, _, _, _, _⟩) (v := ?_) rfl (by kernel_rfl) (by kernel_rfl) (by kernel_rfl) (fun _ _ _ h => h) (Or.inl ⟨by rfl, by intro w hSw; go_simp; try rfl⟩) (by assumption) ?_
          try simp only [Act.put, List.setIfInBounds_toArray, List.set_cons_zero, List.set_cons_succ]
          refine wpAnyH_take (i := 33) (oi := ⟨some 73, _, _, _, _, _⟩) (v := ?_) rfl (by kernel_rfl) (by kernel_rfl) (by kernel_rfl) (fun _ _ _ h => h) (Or.inl ⟨by rfl, by intro w hSw; go_simp; try rfl⟩) (by assumption) ?_
          try simp only [Act.put, List.setIfInBounds_toArray, List.set_cons_zero, List.set_cons_succ]
          refine wpAnyH_take (i := 34) (oi := ⟨some 74, _, _, _, _, _⟩) (v := ?_) rfl (by kernel_rfl) (by kernel_rfl) (by kernel_rfl) (fun _ _ _ h => h) (Or.inl ⟨by rfl, by intro w hSw; go_simp; try rfl⟩) (by assumption) ?_
          try simp only [Act.put, List.setIfInBounds_toArray, List.set_cons_zero, List.set_cons_succ]
          refine wpAnyH_ready (rs := [35]) (by kernel_rfl) (by simp) ?_
          refine AllReadyH.cons (o := ⟨some 75, _, _, _, _, _⟩) rfl (fun K hK => ?_) AllReadyH.nil
          go_simp
          refine (known2_any _).mono ?_
          rintro e w78 ⟨rfl, hb'⟩
          refine hK.out _ _ (keep_call hHeld hgl hb') (fun hHeld2 => ?_)
          clear hK K hb' hHeld
          have hHeld := hHeld2
          clear hHeld2
          try simp only [Act.put, List.setIfInBounds_toArray, List.set_cons_zero, List.set_cons_succ]
          refine wpAnyH_take (i := 36) (oi := ⟨some 76, _, _, _, _, _⟩) (v := ?_) rfl (by kernel_rfl) (by kernel_rfl) (by kernel_rfl) (fun _ _ _ h => h) (Or.inl ⟨by rfl, by intro w hSw; go_simp; try rfl⟩) (by assumption) ?_
          try simp only [Act.put, List.setIfInBounds_toArray, List.set_cons_zero, List.set_cons_succ]
          refine wpAnyH_take (i := 37) (oi := ⟨some 6, _, _, _, _, _⟩) (v := ?_) rfl (by kernel_rfl) (by kernel_rfl) (by kernel_rfl) (fun _ _ _ h => h) (Or.inl ⟨by rfl, by intro w hSw; go_simp; try rfl⟩) (by assumption) ?_
          try simp only [Act.put, List.setIfInBounds_toArray, List.set_cons_zero, List.set_cons_succ]
          refine wpAnyH_done (by kernel_rfl) ?_ _
          go_wp2
          go_ret
          exact ⟨rfl, hB11.trans (hHeld.1.mono hB11.size)⟩
        · go_simp
          have LE : Kp _ := ⟨ls_two w74 23 (BA.out _ hHeld.1) (BC.out _ hHeld.1)⟩
          replace LD : Kp _ := ⟨(LD.out.below ((Below.refl _ _).alloc (Nat.le_refl _) (.cells #[.slice A n c, .slice C p f] 23))).more (B' := ((w74).alloc (.cells #[.slice A n c, .slice C p f] 23)).heap.size) (by simp)⟩
          refine hK.out _ _ (keep_alloc hHeld _) (fun hHeld2 => ?_)
          clear hK K hHeld
          have hHeld := hHeld2
          clear hHeld2
          generalize (w74).alloc (.cells #[.slice A n c, .slice C p f] 23) = w79 at *
          try simp only [Act.put, List.setIfInBounds_toArray, List.set_cons_zero, List.set_cons_succ]
          refine wpAnyH_ready (rs := [27]) (by kernel_rfl) (by simp) ?_
          refine AllReadyH.cons (o := ⟨some 67, _, _, _, _, _⟩) rfl (fun K hK => ?_) AllReadyH.nil
          go_simp
          refine (FANC.out _ _ LD.out).mono ?_
          rintro e w80 ⟨rfl, hb'⟩
          clear LD
          replace LE : Kp _ := ⟨LE.out.next hb' (Nat.le_refl _)⟩
          refine hK.out _ _ (keep_call hHeld hgl hb') (fun hHeld2 => ?_)
          clear hK K hb' hHeld
          have hHeld := hHeld2
          clear hHeld2
          try simp only [Act.put, List.setIfInBounds_toArray, List.set_cons_zero, List.set_cons_succ]
          refine wpAnyH_ready (rs := [31]) (by kernel_rfl) (by simp) ?_
          refine AllReadyH.cons (o := ⟨some 71, _, _, _, _, _⟩) rfl (fun K hK => ?_) AllReadyH.nil
          go_simp
          refine (FAC.out _ _ LE.out).mono ?_
          rintro e w81 ⟨rfl, hb'⟩
          clear LE
          refine hK.out _ _ (keep_call hHeld hgl hb') (fun hHeld2 => ?_)
          clear hK K hb' hHeld
          have hHeld := hHeld2
          clear hHeld2
          try simp only [Act.put, List.setIfInBounds_toArray, List.set_cons_zero, List.set_cons_succ]
          refine wpAnyH_take (i := 32) (oi := ⟨some 72, _, _, _, _, _⟩) (v := ?_) rfl (by kernel_rfl) (by kernel_rfl) (by kernel_rfl) (fun _ _ _ h => h) (Or.inl ⟨by rfl, by intro w hSw; go_simp; try rfl⟩) (by assumption) ?_
          try simp only [Act.put, List.setIfInBounds_toArray, List.set_cons_zero, List.set_cons_succ]
          refine wpAnyH_take (i := 33) (oi := ⟨some 73, _, _, _, _, _⟩) (v := ?_) rfl (by kernel_rfl) (by kernel_rfl) (by kernel_rfl) (fun _ _ _ h => h) (Or.inl ⟨by rfl, by intro w hSw; go_simp; try rfl⟩) (by assumption) ?_
          try simp only [Act.put, List.setIfInBounds_toArray, List.set_cons_zero, List.set_cons_succ]
          refine wpAnyH_take (i := 34) (oi := ⟨some 74, _, _, _, _, _⟩) (v := ?_) rfl (by kernel_rfl) (by kernel_rfl) (by kernel_rfl) (fun _ _ _ h => h) (Or.inl ⟨by rfl, by intro w hSw; go_simp; try rfl⟩) (by assumption) ?_
          try simp only [Act.put, List.setIfInBounds_toArray, List.set_cons_zero, List.set_cons_succ]
          refine wpAnyH_ready (rs := [35]) (by kernel_rfl) (by simp) ?_
          refine AllReadyH.cons (o := ⟨some 75, _, _, _, _, _⟩) rfl (fun K hK => ?_) AllReadyH.nil
          go_simp
          refine (known2_any _).mono ?_
          rintro e w82 ⟨rfl, hb'⟩
          refine hK.out _ _ (keep_call hHeld hgl hb') (fun hHeld2 => ?_)
          clear hK K hb' hHeld
          have hHeld := hHeld2
          clear hHeld2
          try simp only [Act.put, List.setIfInBounds_toArray, List.set_cons_zero, List.set_cons_succ]
          refine wpAnyH_take (i := 36) (oi := ⟨some 76, _, _, _, _, _⟩) (v := ?_) rfl (by kernel_rfl) (by kernel_rfl) (by kernel_rfl) (fun _ _ _ h => h) (Or.inl ⟨by rfl, by intro w hSw; go_simp; try rfl⟩) (by assumption) ?_
          try simp only [Act.put, List.setIfInBounds_toArray, List.set_cons_zero, List.set_cons_succ]
          refine wpAnyH_take (i := 37) (oi := ⟨some 6, _, _, _, _, _⟩) (v := ?_) rfl (by kernel_rfl) (by kernel_rfl) (by kernel_rfl) (fun _ _ _ h => h) (Or.inl ⟨by rfl, by intro w hSw; go_simp; try rfl⟩) (by assumption) ?_
          try simp only [Act.put, List.setIfInBounds_toArray, List.set_cons_zero, List.set_cons_succ]
          refine wpAnyH_done (by kernel_rfl) ?_ _
          go_wp2
          go_ret
          exact ⟨rfl, hB11.trans (hHeld.1.mono hB11.size)⟩
      · go_simp
        have LE : Kp _ := ⟨ls_two w73 23 (BA.out _ hHeld.1) (BC.out _ hHeld.1)⟩
        refine hK.out _ _ (keep_alloc hHeld _) (fun hHeld2 => ?_)
        clear hK K hHeld
        have hHeld := hHeld2
        clear hHeld2
        generalize (w73).alloc (.cells #[.slice A n c, .slice C p f] 23) = w83 at *
        try simp only [Act.put, List.setIfInBounds_toArray, List.set_cons_zero, List.set_cons_succ]
        refine wpAnyH_ready (rs := [26]) (by kernel_rfl) (by simp) ?_
        refine AllReadyH.cons (o := ⟨some 66, _, _, _, _, _⟩) rfl (fun K hK => ?_) AllReadyH.nil
        go_simp
        have LD : Kp _ := ⟨ls_nil w83 23 (BA.out _ hHeld.1) (BC.out _ hHeld.1)⟩
        replace LE : Kp _ := ⟨(LE.out.below ((Below.refl _ _).alloc (Nat.le_refl _) (.cells #[.slice A n c, .slice none 0 0, .slice C p f] 23))).more (B' := ((w83).alloc (.cells #[.slice A n c, .slice none 0 0, .slice C p f] 23)).heap.size) (by simp)⟩
        refine hK.out _ _ (keep_alloc hHeld _) (fun hHeld2 => ?_)
        clear hK K hHeld
        have hHeld := hHeld2
        clear hHeld2
        generalize (w83).alloc (.cells #[.slice A n c, .slice none 0 0, .slice C p f] 23) = w84 at *
        try simp only [Act.put, List.setIfInBounds_toArray, List.set_cons_zero, List.set_cons_succ]
        refine wpAnyH_ready (rs := [27]) (by kernel_rfl) (by simp) ?_
        refine AllReadyH.cons (o := ⟨some 67, _, _, _, _, _⟩) rfl (fun K hK => ?_) AllReadyH.nil
        go_simp
        refine (FANC.out _ _ LD.out).mono ?_
        rintro e w85 ⟨rfl, hb'⟩
        clear LD
        replace LE : Kp _ := ⟨LE.out.next hb' (Nat.le_refl _)⟩
        refine hK.out _ _ (keep_call hHeld hgl hb') (fun hHeld2 => ?_)
        clear hK K hb' hHeld
        have hHeld := hHeld2
        clear hHeld2
        try simp only [Act.put, List.setIfInBounds_toArray, List.set_cons_zero, List.set_cons_succ]
        refine wpAnyH_ready (rs := [31]) (by kernel_rfl) (by simp) ?_
        refine AllReadyH.cons (o := ⟨some 71, _, _, _, _, _⟩) rfl (fun K hK => ?_) AllReadyH.nil
        go_simp
        refine (FAC.out _ _ LE.out).mono ?_
        rintro e w86 ⟨rfl, hb'⟩
        clear LE
        refine hK.out _ _ (keep_call hHeld hgl hb') (fun hHeld2 => ?_)
        clear hK K hb' hHeld
        have hHeld := hHeld2
        clear hHeld2
        try simp only [Act.put, List.setIfInBounds_toArray, List.set_cons_zero, List.set_cons_succ]
        refine wpAnyH_take (i := 32) (oi := ⟨some 72, _, _, _, _, _⟩) (v := ?_) rfl (by kernel_rfl) (by kernel_rfl) (by kernel_rfl) (fun _ _ _ h => h) (Or.inl ⟨by rfl, by intro w hSw; go_simp; try rfl⟩) (by assumption) ?_
        try simp only [Act.put, List.setIfInBounds_toArray, List.set_cons_zero, List.set_cons_succ]
        refine wpAnyH_take (i := 33) (oi := ⟨some 73, _, _, _, _, _⟩) (v := ?_) rfl (by kernel_rfl) (by kernel_rfl) (by kernel_rfl) (fun _ _ _ h => h) (Or.inl ⟨by rfl, by intro w hSw; go_simp; try rfl⟩) (by assumption) ?_
        try simp only [Act.put, List.setIfInBounds_toArray, List.set_cons_zero, List.set_cons_succ]
        refine wpAnyH_take (i := 34) (oi := ⟨some 74, _, _, _, _, _⟩) (v := ?_) rfl (by kernel_rfl) (by kernel_rfl) (by kernel_rfl) (fun _ _ _ h => h) (Or.inl ⟨by rfl, by intro w hSw; go_simp; try rfl⟩) (by assumption) ?_
        try simp only [Act.put, List.setIfInBounds_toArray, List.set_cons_zero, List.set_cons_succ]
        refine wpAnyH_ready (rs := [35]) (by kernel_rfl) (by simp) ?_
        refine AllReadyH.cons (o := ⟨some 75, _, _, _, _, _⟩) rfl (fun K hK => ?_) AllReadyH.nil
        go_simp
        refine (known2_any _).mono ?_
        rintro e w87 ⟨rfl, hb'⟩
        refine hK.out _ _ (keep_call hHeld hgl hb') (fun hHeld2 => ?_)
        clear hK K hb' hHeld
        have hHeld := hHeld2
        clear hHeld2
        try simp only [Act.put, List.setIfInBounds_toArray, List.set_cons_zero, List.set_cons_succ]
        refine wpAnyH_take (i := 36) (oi := ⟨some 76, _, _, _, _, _⟩) (v := ?_) rfl (by kernel_rfl) (by kernel_rfl) (by kernel_rfl) (fun _ _ _ h => h) (Or.inl ⟨by rfl, by intro w hSw; go_simp; try rfl⟩) (by assumption) ?_
        try simp only [Act.put, List.setIfInBounds_toArray, List.set_cons_zero, List.set_cons_succ]
        refine wpAnyH_take (i := 37) (oi := ⟨some 6, _, _, _, _, _⟩) (v := ?_) rfl (by kernel_rfl) (by kernel_rfl) (by kernel_rfl) (fun _ _ _ h => h) (Or.inl ⟨by rfl, by intro w hSw; go_simp; try rfl⟩) (by assumption) ?_
        try simp only [Act.put, List.setIfInBounds_toArray, List.set_cons_zero, List.set_cons_succ]
        refine wpAnyH_done (by kernel_rfl) ?_ _
        go_wp2
        go_ret
        exact ⟨rfl, hB11.trans (hHeld.1.mono hB11.size)⟩
theorem law_shaOne (A : Option Addr) (n c : Nat) (la : List UInt8) (B : Option Addr) (m d : Nat) (lb : List UInt8) (C : Option Addr) (p f : Nat) (lc : List UInt8) (w : World)
    (ha : Bs w w.heap.size A n c la ∧ c ≤ 140737488351232) (hb : Bs w w.heap.size B m d lb ∧ d ≤ 140737488351232) (hc : Bs w w.heap.size C p f lc ∧ f ≤ 140737488351232) :
    Calls Try.prog 7 #[.slice A n c, .slice B m d, .slice C p f] w fun e w' => e = .returned (.bool true) ∧ Below w.heap.size w w' :=
  walk_shaOne A n c la B m d lb C p f lc w ha.1 hb.1 hc.1 (Nat.le_trans ha.1.cap ha.2) (Nat.le_trans hb.1.cap hb.2) (Nat.le_trans hc.1.cap hc.2)

end Go.Proofs.Ytnpodomdagodbaa
