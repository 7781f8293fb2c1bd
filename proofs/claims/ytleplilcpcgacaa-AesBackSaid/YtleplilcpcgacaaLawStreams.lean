/- The walk of AesStreams. -/
import Derived.Test.YtleplilcpcgacaaLawBlocks
import Derived.Test.YtleplilcpcgacaaSame
namespace Go.Proofs.Ytleplilcpcgacaa
open Go.RowKit

theorem addL_comm (l m : List UInt8) (n : Nat) : addL l m n = addL m l n := by
  unfold addL
  refine List.map_congr_left fun i _ => ?_
  rw [UInt8.xor_comm]
set_option maxRecDepth 100000 in
set_option maxHeartbeats 4000000 in
theorem walk_aesStreams (key at' : List UInt8) (n : Int) (B : Option Addr) (m c : Nat) (b : List UInt8) (w : World) (hk : key.length = 16) (ha : at'.length = 16) (hb : Bs w w.heap.size B m c b) :
    Calls Try.prog 5 #[.agg (cells8 key).toArray, .agg (cells8 at').toArray, .int .i64 n, .slice B m c] w fun e w' => e = .returned (.bool true) ∧ Below w.heap.size w w' := by
  have HK : Kp (key.length = 16) := ⟨hk⟩
  have HA : Kp (at'.length = 16) := ⟨ha⟩
  have HLk : Kp ((cells8 key).length = 16) := ⟨by rw [cells8_length]; exact hk⟩
  have HLa : Kp ((cells8 at').length = 16) := ⟨by rw [cells8_length]; exact ha⟩
  have HB : Kp _ := ⟨hb⟩
  have hm63 := hb.le
  clear hk ha hb
  go_enter Try.func5, Try.ntmps5
  go_wp2_with (with_reducible refine wpList_box (o := ⟨some 4, _, _, _, _, _⟩) rfl (.tmp 0) rfl rfl ?_)
  intro w1 hk1 hb1 hs1
  have HK1 : Kp _ := ⟨hk1⟩
  have HB1 : Kp _ := ⟨HB.out.next hb1 (Nat.le_refl _)⟩
  clear hk1 hs1 HB
  go_wp2_with (with_reducible refine wpList_box (o := ⟨some 5, _, _, _, _, _⟩) rfl (.tmp 1) rfl rfl ?_)
  intro w2 hk2 hb2 hs2
  have HI2 : Kp _ := ⟨hk2⟩
  have HB2 : Kp _ := ⟨HB1.out.next hb2 (Nat.le_refl _)⟩
  have HK2 : Kp _ := ⟨HK1.out.below hb2 HK1.out.lt⟩
  have hB2 : Below w.heap.size w w2 := hb1.trans (hb2.mono hb1.size)
  obtain ⟨g1, hg1⟩ : ∃ g, g = w1.heap.size := ⟨_, rfl⟩
  rw [← hg1] at HI2 ⊢
  clear hk2 hs2 hb1 hb2 HK1 HB1 hg1
  by_cases h300 : (300 : Int) < n
  · go_wp2_with fail
    refine (known4_any _).mono ?_
    rintro e w5 ⟨rfl, hb5⟩
    have hB5 := hB2.trans (hb5.mono hB2.size)
    go_wp2
    go_ret
    exact ⟨rfl, hB5⟩
  have dh300 := decide_eq_false h300
  by_cases hm3 : (300 : Int) < m
  · go_wp2_with fail
    refine (known4_any _).mono ?_
    rintro e w5 ⟨rfl, hb5⟩
    have hB5 := hB2.trans (hb5.mono hB2.size)
    go_wp2
    go_ret
    exact ⟨rfl, hB5⟩
  have dhm3 := decide_eq_false hm3
  have hn3 : n ≤ 300 := by omega
  have hm3' : m ≤ 1048576 := by omega
  go_wp2_with (with_reducible refine wpList_loadAll (o := ⟨some 19, _, _, _, _, _⟩) rwKey rfl (.tmp 4) rfl rfl HK2.out HLk.out ?_)
  go_wp2_with fail
  refine (new_any key w2 HK.out).mono ?_
  rintro e w3 ⟨gc, rfl, hci, hb3⟩
  have HC3 : Kp _ := ⟨hci⟩
  have HK3 : Kp _ := ⟨HK2.out.below hb3 HK2.out.lt⟩
  have HI3 : Kp _ := ⟨HI2.out.below hb3 HI2.out.lt⟩
  have HB3 : Kp _ := ⟨HB2.out.next hb3 (Nat.le_refl _)⟩
  have hB3 := hB2.trans (hb3.mono hB2.size)
  clear hci hb3 HK2 HI2 HB2 hB2
  go_wp2_with (with_reducible refine wpList_loadAll (o := ⟨some 21, _, _, _, _, _⟩) rwKey rfl (.tmp 4) rfl rfl HK3.out HLk.out ?_)
  go_wp2_with fail
  refine (refnew_any key w3 HK.out).mono ?_
  rintro e w4 ⟨KA, kc, BA, bc, rfl, hci, hb4⟩
  have HD4 : Kp (Cx w4 KA kc BA bc key) := ⟨⟨hci⟩⟩
  have HC4 : Kp _ := ⟨HC3.out.below hb4⟩
  have HI4 : Kp _ := ⟨HI3.out.below hb4 HI3.out.lt⟩
  have HB4 : Kp _ := ⟨HB3.out.next hb4 (Nat.le_refl _)⟩
  have hB4 := hB3.trans (hb4.mono hB3.size)
  clear hci hb4 HC3 HK3 HI3 HB3 hB3
  have HZ : Kp (zeroC.length = 2) := ⟨rfl⟩
  go_wp2_with (with_reducible refine wpList_alloc (o := ⟨some 10, _, _, _, _, _⟩) tyC rfl rfl ?_)
  intro w5 hk5 hb5 hs5
  have HQ5 : Kp _ := ⟨hk5⟩
  have HD5 : Kp _ := ⟨HD4.out.next hb5 (Nat.le_refl _)⟩
  have HC5 : Kp _ := ⟨HC4.out.below hb5⟩
  have HI5 : Kp _ := ⟨HI4.out.below hb5 HI4.out.lt⟩
  have HB5 : Kp _ := ⟨HB4.out.next hb5 (Nat.le_refl _)⟩
  have hB5 := hB4.trans (hb5.mono hB4.size)
  have hgq : g1 < w4.heap.size := HI4.out.lt
  have hgw : w.heap.size ≤ w4.heap.size := hB4.size
  have hcq : gc < w4.heap.size := HC4.out.blk.lt
  have hszz := hb5.size
  have HBq : Kp (Bs w5 w4.heap.size B m c b) := ⟨HB4.out.below hb5⟩
  have HDq : Kp (∀ w', Only w4.heap.size w5 w' → CIs w' w'.heap.size KA kc (keysL boxB key) BA bc boxB) := ⟨fun w' ho => HD4.out.c.next (hb5.trans (ho.below (Nat.le_refl _)))⟩
  obtain ⟨gq, hgq0⟩ : ∃ g, g = w4.heap.size := ⟨_, rfl⟩
  rw [← hgq0] at HQ5 hgq hgw hcq hszz HBq HDq ⊢
  clear hk5 hs5 hb5 HC4 HI4 HB4 hB4 HD4 hgq0 HD5 HB5
  go_wp2_with (refine wpList_storeAll (o := ⟨none, _, _, _, _, _⟩) (vs := [.slice KA 11 kc, .slice BA 256 bc]) rwC rfl (.tmp 10) (.tmp 22) rfl rfl HQ5.out HZ.out rfl (one2 _ _ _ _ _ _) rfl ?_)
  intro w6 hk6 ho6
  have HQ6 : Kp _ := ⟨hk6⟩
  have HI6 : Kp _ := ⟨HI5.out.only ho6 (by omega)⟩
  have HC6 : Kp (Ci w6 gc key) := ⟨⟨HC5.out.blk.only ho6 (by omega)⟩⟩
  have HB6 : Kp (Bs w6 w6.heap.size B m c b) := ⟨(HBq.out.below (ho6.below (Nat.le_refl _))).more (by rw [ho6.size]; exact hszz)⟩
  have HD6 : Kp _ := ⟨HDq.out w6 ho6⟩
  have hB6 := hB5.trans (ho6.below hgw)
  have HRI : Kp (w6.rangeAt g1 0 (cells8 at')) := ⟨HI6.out.range (n := 16) (take_all HLa.out)⟩
  have HRQ : Kp (w6.rangeAt gq 0 [.slice KA 11 kc, .slice BA 256 bc]) := ⟨HQ6.out.range (n := 2) rfl⟩
  have hgl := HI6.out.lt
  have hgk := HQ6.out.lt
  have C26 : Kp (∀ W, Below w6.heap.size w6 W → Calls Try.prog 24 #[.pointer (some ⟨gc, 0, none⟩), .agg (cells8 at').toArray, .int .i64 n] W fun e w' => ∃ A d, e = .returned (.slice A n.toNat d) ∧ Bs w' w'.heap.size A n.toNat d (strL (strF key at') n.toNat) ∧ Below W.heap.size W w') := ⟨fun W hW => (stream_any gc key at' n W (HC6.out.below hW) HA.out (by omega)).mono fun e w' ⟨v, he, hown, hb⟩ => by
    obtain ⟨A, d, rfl, hbs⟩ := Bs.of_own hown
    exact ⟨A, d, he, hbs, hb⟩⟩
  have C30 : Kp (∀ W, Below w6.heap.size w6 W → Calls Try.prog 25 #[.agg #[.slice KA 11 kc, .slice BA 256 bc], .agg (cells8 at').toArray, .int .i64 n] W fun e w' => ∃ A d, e = .returned (.slice A n.toNat d) ∧ Bs w' w'.heap.size A n.toNat d (strL (strF key at') n.toNat) ∧ Below W.heap.size W w') := ⟨fun W hW => (refstream_any KA kc BA bc key at' n W (HD6.out.next hW) HA.out (by omega)).mono fun e w' ⟨v, he, hown, hb⟩ => by
    obtain ⟨A, d, rfl, hbs⟩ := Bs.of_own hown
    exact ⟨A, d, he, hbs, hb⟩⟩
  have C36 : Kp (∀ W, Below w6.heap.size w6 W → Calls Try.prog 26 #[.pointer (some ⟨gc, 0, none⟩), .agg (cells8 at').toArray, .slice B m c] W fun e w' => ∃ A d, e = .returned (.slice A m d) ∧ Bs w' w'.heap.size A m d (addL (strL (strF key at') m) b m) ∧ Below W.heap.size W w') := ⟨fun W hW => xor_any gc key at' B m c b W (HC6.out.below hW) HA.out (HB6.out.next hW (Nat.le_refl _)) (by omega)⟩
  have C40 : Kp (∀ W, Below w6.heap.size w6 W → Calls Try.prog 27 #[.agg #[.slice KA 11 kc, .slice BA 256 bc], .agg (cells8 at').toArray, .slice B m c] W fun e w' => ∃ A d, e = .returned (.slice A m d) ∧ Bs w' w'.heap.size A m d (addL (strL (strF key at') m) b m) ∧ Below W.heap.size W w') := ⟨fun W hW => by
    have h := refxor_any KA kc BA bc key at' B m c b W (HD6.out.next hW) HA.out (HB6.out.next hW (Nat.le_refl _)) (by omega)
    rw [addL_comm] at h
    exact h⟩
  have huN : (Try.prog).underlying 31 = some (.array 16 5) := rwNonce.ty
  have hiN : ((Try.prog).info? 31).map (·.size) = some (cells8 at').length := by rw [HLa.out]; exact rwNonce.size
  have hiC : ((Try.prog).info? 38).map (·.size) = some ([Value.slice KA 11 kc, .slice BA 256 bc] : List Value).length := rwC.size
  obtain ⟨N, hNN⟩ : ∃ N, N = n.toNat := ⟨_, rfl⟩
  rw [← hNN] at C26 C30
  obtain ⟨SL, hSL⟩ : ∃ l, l = strL (strF key at') N := ⟨_, rfl⟩
  rw [← hSL] at C26 C30
  obtain ⟨XL, hXL⟩ : ∃ l, l = addL (strL (strF key at') m) b m := ⟨_, rfl⟩
  rw [← hXL] at C36 C40
  have hSS : (SL == SL) = true := beq_self_eq_true _
  have hXX : (XL == XL) = true := beq_self_eq_true _
  clear hk6 ho6 HQ6 HI6 HC6 HB6 HD6 hB5 hNN hSL hXL HQ5 HC5 HI5 HBq HDq
  go_wp2_with fail
  refine wp_region_held_drew (S := fun W => Below w6.heap.size w6 W ∧ W.rangeAt g1 0 (cells8 at')) (by kernel_rfl) (⟨(Below.refl _ _).drew, HRI.out⟩) (fun hHeld => ?_)
  generalize w6.drew = wS at *
  refine wpAnyH_take (i := 0) (oi := ⟨some 23, _, _, _, _, _⟩) (v := ?_) rfl (by kernel_rfl) (by kernel_rfl) (by kernel_rfl) (fun _ _ _ h => h) (Or.inl ⟨by rfl, by intro w hSw; go_simp; try rfl⟩) (by assumption) ?_
  try simp only [Act.put, List.setIfInBounds_toArray, List.set_cons_zero, List.set_cons_succ]
  refine wpAnyH_take (i := 1) (oi := ⟨some 24, _, _, _, _, _⟩) (v := _) rfl (by kernel_rfl) (by kernel_rfl) (by kernel_rfl) (fun _ _ _ h => h) (yieldsIf_load_mid (by rfl) _ (.tmp 5) rfl _ _ rfl (cells8 at') _ (fun W hW => hW.2) huN rfl hiN) (by assumption) ?_
  try simp only [Act.put, List.setIfInBounds_toArray, List.set_cons_zero, List.set_cons_succ]
  refine wpAnyH_take (i := 2) (oi := ⟨some 25, _, _, _, _, _⟩) (v := ?_) rfl (by kernel_rfl) (by kernel_rfl) (by kernel_rfl) (fun _ _ _ h => h) (Or.inl ⟨by rfl, by intro w hSw; go_simp; try rfl⟩) (by assumption) ?_
  try simp only [Act.put, List.setIfInBounds_toArray, List.set_cons_zero, List.set_cons_succ]
  refine wpAnyH_take (i := 4) (oi := ⟨some 27, _, _, _, _, _⟩) (v := _) rfl (by kernel_rfl) (by kernel_rfl) (by kernel_rfl) (fun _ _ _ h => h) (yieldsIf_load_mid (by rfl) _ (.tmp 10) rfl _ _ rfl [.slice KA 11 kc, .slice BA 256 bc] _ (fun W hW => range_below HRQ.out hW.1 hgk) rwC.ty rwC.row hiC) (by assumption) ?_
  try simp only [Act.put, List.setIfInBounds_toArray, List.set_cons_zero, List.set_cons_succ]
  refine wpAnyH_take (i := 5) (oi := ⟨some 28, _, _, _, _, _⟩) (v := _) rfl (by kernel_rfl) (by kernel_rfl) (by kernel_rfl) (fun _ _ _ h => h) (yieldsIf_load_mid (by rfl) _ (.tmp 5) rfl _ _ rfl (cells8 at') _ (fun W hW => hW.2) huN rfl hiN) (by assumption) ?_
  try simp only [Act.put, List.setIfInBounds_toArray, List.set_cons_zero, List.set_cons_succ]
  refine wpAnyH_take (i := 6) (oi := ⟨some 29, _, _, _, _, _⟩) (v := ?_) rfl (by kernel_rfl) (by kernel_rfl) (by kernel_rfl) (fun _ _ _ h => h) (Or.inl ⟨by rfl, by intro w hSw; go_simp; try rfl⟩) (by assumption) ?_
  try simp only [Act.put, List.setIfInBounds_toArray, List.set_cons_zero, List.set_cons_succ]
  refine wpAnyH_ready (rs := [3]) (by kernel_rfl) (by simp) ?_
  refine AllReadyH.cons (o := ⟨some 26, _, _, _, _, _⟩) rfl (fun K hK => ?_) AllReadyH.nil
  go_simp
  refine (C26.out _ hHeld.1).mono ?_
  rintro e w51 ⟨Aa, da, rfl, hbs, hb'⟩
  have Ha : Kp _ := ⟨hbs⟩
  clear hbs
  refine hK.out _ _ (keep_call hHeld hgl hb') (fun hHeld2 => ?_)
  clear hK K hb' hHeld
  have hHeld := hHeld2
  clear hHeld2
  try simp only [Act.put, List.setIfInBounds_toArray, List.set_cons_zero, List.set_cons_succ]
  refine wpAnyH_ready (rs := [7]) (by kernel_rfl) (by simp) ?_
  refine AllReadyH.cons (o := ⟨some 30, _, _, _, _, _⟩) rfl (fun K hK => ?_) AllReadyH.nil
  go_simp
  refine (C30.out _ hHeld.1).mono ?_
  rintro e w52 ⟨Ab, db, rfl, hbs, hb'⟩
  replace Ha : Kp _ := ⟨Ha.out.next hb' (Nat.le_refl _)⟩
  have Hb : Kp _ := ⟨hbs⟩
  clear hbs
  refine hK.out _ _ (keep_call hHeld hgl hb') (fun hHeld2 => ?_)
  clear hK K hb' hHeld
  have hHeld := hHeld2
  clear hHeld2
  try simp only [Act.put, List.setIfInBounds_toArray, List.set_cons_zero, List.set_cons_succ]
  refine wpAnyH_ready (rs := [8]) (by kernel_rfl) (by simp) ?_
  refine AllReadyH.cons (o := ⟨some 31, _, _, _, _, _⟩) rfl (fun K hK => ?_) AllReadyH.nil
  go_simp
  refine (same_any _ _ _ _ _ _ SL SL _ _ _ Ha.out Hb.out).mono ?_
  rintro e w53 ⟨rfl, hww⟩
  clear Ha
  clear Hb
  have hb' : Below w52.heap.size w52 w53 := by rw [← hww]; exact Below.refl _ _
  clear hww
  refine hK.out _ _ (keep_call hHeld hgl hb') (fun hHeld2 => ?_)
  clear hK K hb' hHeld
  have hHeld := hHeld2
  clear hHeld2
  try simp only [Act.put, List.setIfInBounds_toArray, List.set_cons_zero, List.set_cons_succ]
  refine wpAnyH_take (i := 9) (oi := ⟨some 32, _, _, _, _, _⟩) (v := ?_) rfl (by kernel_rfl) (by kernel_rfl) (by kernel_rfl) (fun _ _ _ h => h) (Or.inl ⟨by rfl, by intro w hSw; go_simp; try rfl⟩) (by assumption) ?_
  try simp only [Act.put, List.setIfInBounds_toArray, List.set_cons_zero, List.set_cons_succ]
  refine wpAnyH_take (i := 10) (oi := ⟨some 33, _, _, _, _, _⟩) (v := ?_) rfl (by kernel_rfl) (by kernel_rfl) (by kernel_rfl) (fun _ _ _ h => h) (Or.inl ⟨by rfl, by intro w hSw; go_simp; try rfl⟩) (by assumption) ?_
  try simp only [Act.put, List.setIfInBounds_toArray, List.set_cons_zero, List.set_cons_succ]
  refine wpAnyH_take (i := 11) (oi := ⟨some 34, _, _, _, _, _⟩) (v := _) rfl (by kernel_rfl) (by kernel_rfl) (by kernel_rfl) (fun _ _ _ h => h) (yieldsIf_load_mid (by rfl) _ (.tmp 5) rfl _ _ rfl (cells8 at') _ (fun W hW => hW.2) huN rfl hiN) (by assumption) ?_
  try simp only [Act.put, List.setIfInBounds_toArray, List.set_cons_zero, List.set_cons_succ]
  refine wpAnyH_take (i := 12) (oi := ⟨some 35, _, _, _, _, _⟩) (v := ?_) rfl (by kernel_rfl) (by kernel_rfl) (by kernel_rfl) (fun _ _ _ h => h) (Or.inl ⟨by rfl, by intro w hSw; go_simp; try rfl⟩) (by assumption) ?_
  try simp only [Act.put, List.setIfInBounds_toArray, List.set_cons_zero, List.set_cons_succ]
  refine wpAnyH_take (i := 14) (oi := ⟨some 37, _, _, _, _, _⟩) (v := _) rfl (by kernel_rfl) (by kernel_rfl) (by kernel_rfl) (fun _ _ _ h => h) (yieldsIf_load_mid (by rfl) _ (.tmp 10) rfl _ _ rfl [.slice KA 11 kc, .slice BA 256 bc] _ (fun W hW => range_below HRQ.out hW.1 hgk) rwC.ty rwC.row hiC) (by assumption) ?_
  try simp only [Act.put, List.setIfInBounds_toArray, List.set_cons_zero, List.set_cons_succ]
  refine wpAnyH_take (i := 15) (oi := ⟨some 38, _, _, _, _, _⟩) (v := _) rfl (by kernel_rfl) (by kernel_rfl) (by kernel_rfl) (fun _ _ _ h => h) (yieldsIf_load_mid (by rfl) _ (.tmp 5) rfl _ _ rfl (cells8 at') _ (fun W hW => hW.2) huN rfl hiN) (by assumption) ?_
  try simp only [Act.put, List.setIfInBounds_toArray, List.set_cons_zero, List.set_cons_succ]
  refine wpAnyH_take (i := 16) (oi := ⟨some 39, _, _, _, _, _⟩) (v := ?_) rfl (by kernel_rfl) (by kernel_rfl) (by kernel_rfl) (fun _ _ _ h => h) (Or.inl ⟨by rfl, by intro w hSw; go_simp; try rfl⟩) (by assumption) ?_
  try simp only [Act.put, List.setIfInBounds_toArray, List.set_cons_zero, List.set_cons_succ]
  refine wpAnyH_ready (rs := [13]) (by kernel_rfl) (by simp) ?_
  refine AllReadyH.cons (o := ⟨some 36, _, _, _, _, _⟩) rfl (fun K hK => ?_) AllReadyH.nil
  go_simp
  refine (C36.out _ hHeld.1).mono ?_
  rintro e w54 ⟨Ax, dx, rfl, hbs, hb'⟩
  have Hx : Kp _ := ⟨hbs⟩
  clear hbs
  refine hK.out _ _ (keep_call hHeld hgl hb') (fun hHeld2 => ?_)
  clear hK K hb' hHeld
  have hHeld := hHeld2
  clear hHeld2
  try simp only [Act.put, List.setIfInBounds_toArray, List.set_cons_zero, List.set_cons_succ]
  refine wpAnyH_ready (rs := [17]) (by kernel_rfl) (by simp) ?_
  refine AllReadyH.cons (o := ⟨some 40, _, _, _, _, _⟩) rfl (fun K hK => ?_) AllReadyH.nil
  go_simp
  refine (C40.out _ hHeld.1).mono ?_
  rintro e w55 ⟨Ay, dy, rfl, hbs, hb'⟩
  replace Hx : Kp _ := ⟨Hx.out.next hb' (Nat.le_refl _)⟩
  have Hy : Kp _ := ⟨hbs⟩
  clear hbs
  refine hK.out _ _ (keep_call hHeld hgl hb') (fun hHeld2 => ?_)
  clear hK K hb' hHeld
  have hHeld := hHeld2
  clear hHeld2
  try simp only [Act.put, List.setIfInBounds_toArray, List.set_cons_zero, List.set_cons_succ]
  refine wpAnyH_ready (rs := [18]) (by kernel_rfl) (by simp) ?_
  refine AllReadyH.cons (o := ⟨some 41, _, _, _, _, _⟩) rfl (fun K hK => ?_) AllReadyH.nil
  go_simp
  refine (same_any _ _ _ _ _ _ XL XL _ _ _ Hx.out Hy.out).mono ?_
  rintro e w56 ⟨rfl, hww⟩
  clear Hx
  clear Hy
  have hb' : Below w55.heap.size w55 w56 := by rw [← hww]; exact Below.refl _ _
  clear hww
  refine hK.out _ _ (keep_call hHeld hgl hb') (fun hHeld2 => ?_)
  clear hK K hb' hHeld
  have hHeld := hHeld2
  clear hHeld2
  try simp only [Act.put, List.setIfInBounds_toArray, List.set_cons_zero, List.set_cons_succ]
  refine wpAnyH_take (i := 19) (oi := ⟨some 42, _, _, _, _, _⟩) (v := ?_) rfl (by kernel_rfl) (by kernel_rfl) (by kernel_rfl) (fun _ _ _ h => h) (Or.inl ⟨by rfl, by intro w hSw; go_simp; try rfl⟩) (by assumption) ?_
  try simp only [Act.put, List.setIfInBounds_toArray, List.set_cons_zero, List.set_cons_succ]
  refine wpAnyH_take (i := 20) (oi := ⟨some 43, _, _, _, _, _⟩) (v := ?_) rfl (by kernel_rfl) (by kernel_rfl) (by kernel_rfl) (fun _ _ _ h => h) (Or.inl ⟨by rfl, by intro w hSw; go_simp; try rfl⟩) (by assumption) ?_
  try simp only [Act.put, List.setIfInBounds_toArray, List.set_cons_zero, List.set_cons_succ]
  refine wpAnyH_ready (rs := [21]) (by kernel_rfl) (by simp) ?_
  refine AllReadyH.cons (o := ⟨some 44, _, _, _, _, _⟩) rfl (fun K hK => ?_) AllReadyH.nil
  go_simp
  refine (known4_any _).mono ?_
  rintro e w57 ⟨rfl, hb'⟩
  refine hK.out _ _ (keep_call hHeld hgl hb') (fun hHeld2 => ?_)
  clear hK K hb' hHeld
  have hHeld := hHeld2
  clear hHeld2
  try simp only [Act.put, List.setIfInBounds_toArray, List.set_cons_zero, List.set_cons_succ]
  refine wpAnyH_take (i := 22) (oi := ⟨some 45, _, _, _, _, _⟩) (v := ?_) rfl (by kernel_rfl) (by kernel_rfl) (by kernel_rfl) (fun _ _ _ h => h) (Or.inl ⟨by rfl, by intro w hSw; go_simp; try rfl⟩) (by assumption) ?_
  try simp only [Act.put, List.setIfInBounds_toArray, List.set_cons_zero, List.set_cons_succ]
  refine wpAnyH_take (i := 23) (oi := ⟨some 8, _, _, _, _, _⟩) (v := ?_) rfl (by kernel_rfl) (by kernel_rfl) (by kernel_rfl) (fun _ _ _ h => h) (Or.inl ⟨by rfl, by intro w hSw; go_simp; try rfl⟩) (by assumption) ?_
  try simp only [Act.put, List.setIfInBounds_toArray, List.set_cons_zero, List.set_cons_succ]
  refine wpAnyH_done (by kernel_rfl) ?_ _
  go_wp2
  go_ret
  exact ⟨rfl, hB6.trans (hHeld.1.mono hB6.size)⟩
end Go.Proofs.Ytleplilcpcgacaa
