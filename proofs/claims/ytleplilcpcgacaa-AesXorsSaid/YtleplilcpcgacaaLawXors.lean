/- The walk of AesXors. -/
import Derived.Test.YtleplilcpcgacaaLawBack
import Derived.Test.YtleplilcpcgacaaCutIf
namespace Go.Proofs.Ytleplilcpcgacaa
open Go.RowKit

/-- a Cipher, as a fact that is carried from call to call -/
structure Cy (w : World) (g : Nat) (key : List UInt8) : Prop where
  c : Ci w g key
theorem Cy.next {w0 w1 : World} {g : Nat} {key : List UInt8} (h : Cy w0 g key) (hb : Below w0.heap.size w0 w1) (_ : w0.heap.size ≤ w0.heap.size) : Cy w1 g key := ⟨h.c.below hb⟩
theorem strL_getD (f : Nat → List UInt8) (n i : Nat) (h : i < n) : (strL f n).getD i 0 = (f (i / 16)).getD (i % 16) 0 := map_getD (fun p => (f (p / 16)).getD (p % 16) 0) n i 0 h
theorem addL_getD (s b : List UInt8) (n i : Nat) (h : i < n) : (addL s b n).getD i 0 = s.getD i 0 ^^^ b.getD i 0 := map_getD (fun i => s.getD i 0 ^^^ b.getD i 0) n i 0 h
theorem addL_take (f : Nat → List UInt8) (a : List UInt8) (n m : Nat) (h : n ≤ m) : (addL (strL f m) a m).take n = addL (strL f n) (a.take n) n := by
  refine List.ext_getElem (by rw [List.length_take, addL_length, addL_length]; omega) fun i h1 h2 => ?_
  have hi : i < n := by rwa [addL_length] at h2
  have e1 : (strL f m).getD i 0 = (strL f n).getD i 0 := (strL_getD f m i (by omega)).trans (strL_getD f n i hi).symm
  have e2 : (a.take n).getD i 0 = a.getD i 0 := by simp [hi]
  simp only [List.getElem_take, addL, List.getElem_map, List.getElem_range]
  rw [e1, e2]
theorem xor_cancel (s a b : UInt8) : (s ^^^ a) ^^^ (s ^^^ b) = a ^^^ b := by
  rw [show (s ^^^ a) ^^^ (s ^^^ b) = (s ^^^ s) ^^^ (a ^^^ b) by ac_rfl, UInt8.xor_self]; simp
theorem row_at {w : World} {L : Nat} {A : Option Addr} {n c : Nat} {l : List UInt8} (h : Bs w L A n c l) {i : Nat} (hi : i < n) : ∃ b o, A = some ⟨b, o, none⟩ ∧ w.cell? ⟨b, o + i, none⟩ = some (.int .u8 ((l.getD i 0).toNat : Int)) := by
  obtain ⟨b, o, hA, _, hc⟩ := h.cell hi
  have hl := h.len
  refine ⟨b, o, hA, ?_⟩
  rw [hc]
  simp [List.getD, List.getElem?_eq_getElem (show i < l.length by omega)]
set_option maxRecDepth 100000 in
set_option maxHeartbeats 4000000 in
theorem walk_aesXors_le (key at' : List UInt8) (A : Option Addr) (na ca : Nat) (a : List UInt8) (B : Option Addr) (nb cb : Nat) (b : List UInt8) (w : World) (hk : key.length = 16) (ht : at'.length = 16) (ha : Bs w w.heap.size A na ca a) (hb : Bs w w.heap.size B nb cb b) (hmin : na ≤ nb) (hra : na ≤ 140737488355328) (hrb : nb ≤ 140737488355328) :
    Calls Try.prog 10 #[.agg (cells8 key).toArray, .agg (cells8 at').toArray, .slice A na ca, .slice B nb cb] w fun e w' => e = .returned (.bool true) ∧ Below w.heap.size w w' := by
  have HK : Kp (key.length = 16) := ⟨hk⟩
  have HA : Kp (at'.length = 16) := ⟨ht⟩
  have HLk : Kp ((cells8 key).length = 16) := ⟨by rw [cells8_length]; exact hk⟩
  have HLa : Kp ((cells8 at').length = 16) := ⟨by rw [cells8_length]; exact ht⟩
  have HX : Kp _ := ⟨ha⟩
  have HY : Kp _ := ⟨hb⟩
  have hna63 := ha.le
  have hnb63 := hb.le
  have hmI : (na : Int) ≤ (nb : Int) := by omega
  have ham := ha.max
  have hbm := hb.max
  simp only [maxLen] at ham hbm
  have hac := ha.cap
  have hbc := hb.cap
  clear hk ht ha hb
  go_enter Try.func10, Try.ntmps10
  go_wp2_with (with_reducible refine wpList_box (o := ⟨some 4, _, _, _, _, _⟩) rfl (.tmp 0) rfl rfl ?_)
  intro w1 hk1 hb1 hs1
  have HK1 : Kp _ := ⟨hk1⟩
  have HX1 : Kp _ := ⟨HX.out.next hb1 (Nat.le_refl _)⟩
  have HY1 : Kp _ := ⟨HY.out.next hb1 (Nat.le_refl _)⟩
  clear hk1 hs1 HX HY
  go_wp2_with (with_reducible refine wpList_box (o := ⟨some 5, _, _, _, _, _⟩) rfl (.tmp 1) rfl rfl ?_)
  intro w2 hk2 hb2 hs2
  have HI2 : Kp _ := ⟨hk2⟩
  have HX2 : Kp _ := ⟨HX1.out.next hb2 (Nat.le_refl _)⟩
  have HY2 : Kp _ := ⟨HY1.out.next hb2 (Nat.le_refl _)⟩
  have HK2 : Kp _ := ⟨HK1.out.below hb2 HK1.out.lt⟩
  have hB2 : Below w.heap.size w w2 := hb1.trans (hb2.mono hb1.size)
  obtain ⟨g1, hg1⟩ : ∃ g, g = w1.heap.size := ⟨_, rfl⟩
  rw [← hg1] at HI2 ⊢
  clear hk2 hs2 hb1 hb2 HK1 HX1 HY1 hg1
  by_cases h5 : (500 : Int) < (na : Int) + (nb : Int)
  · go_wp2_with fail
    refine (known4_any _).mono ?_
    rintro e w5 ⟨rfl, hb5⟩
    have hB5 := hB2.trans (hb5.mono hB2.size)
    go_wp2
    go_ret
    exact ⟨rfl, hB5⟩
  have hna6 : na ≤ 1048576 := by omega
  have hnb6 : nb ≤ 1048576 := by omega
  go_wp2_with (with_reducible refine wpList_loadAll (o := ⟨some 21, _, _, _, _, _⟩) rwKey rfl (.tmp 4) rfl rfl HK2.out HLk.out ?_)
  go_wp2_with fail
  refine (new_any key w2 HK.out).mono ?_
  rintro e w3 ⟨gc, rfl, hci, hb3⟩
  have HC3 : Kp _ := ⟨hci⟩
  have HI3 : Kp _ := ⟨HI2.out.below hb3 HI2.out.lt⟩
  have HK3 : Kp _ := ⟨HK2.out.below hb3 HK2.out.lt⟩
  have HX3 : Kp _ := ⟨HX2.out.next hb3 (Nat.le_refl _)⟩
  have HY3 : Kp _ := ⟨HY2.out.next hb3 (Nat.le_refl _)⟩
  have hB3 := hB2.trans (hb3.mono hB2.size)
  clear hci hb3 HK2 HI2 HX2 HY2 hB2
  go_wp2_with (with_reducible refine wpList_loadAll (o := ⟨some 29, _, _, _, _, _⟩) rwNonce rfl (.tmp 5) rfl rfl HI3.out HLa.out ?_)
  go_wp2_with fail
  refine (xor_any gc key at' A na ca a w3 HC3.out HA.out HX3.out hna6).mono ?_
  rintro e w4 ⟨A4, d4, rfl, hbs4, hb4⟩
  have HP4 : Kp _ := ⟨hbs4⟩
  have HC4 : Kp _ := ⟨HC3.out.below hb4⟩
  have HI4 : Kp _ := ⟨HI3.out.below hb4 HI3.out.lt⟩
  have HK4 : Kp _ := ⟨HK3.out.below hb4 HK3.out.lt⟩
  have HX4 : Kp _ := ⟨HX3.out.next hb4 (Nat.le_refl _)⟩
  have HY4 : Kp _ := ⟨HY3.out.next hb4 (Nat.le_refl _)⟩
  have hB4 := hB3.trans (hb4.mono hB3.size)
  have hd4 := hbs4.cap
  clear hbs4 hb4 HK3 HI3 HX3 HY3 hB3 HC3
  go_wp2_with (with_reducible refine wpList_loadAll (o := ⟨some 33, _, _, _, _, _⟩) rwNonce rfl (.tmp 5) rfl rfl HI4.out HLa.out ?_)
  go_wp2_with fail
  refine (xor_any gc key at' B nb cb b w4 HC4.out HA.out HY4.out hnb6).mono ?_
  rintro e w5 ⟨A5, d5, rfl, hbs5, hb5⟩
  have HQ5 : Kp _ := ⟨hbs5⟩
  have HP5 : Kp _ := ⟨HP4.out.next hb5 (Nat.le_refl _)⟩
  have HC5 : Kp _ := ⟨HC4.out.below hb5⟩
  have HI5 : Kp _ := ⟨HI4.out.below hb5 HI4.out.lt⟩
  have HK5 : Kp _ := ⟨HK4.out.below hb5 HK4.out.lt⟩
  have HX5 : Kp _ := ⟨HX4.out.next hb5 (Nat.le_refl _)⟩
  have HY5 : Kp _ := ⟨HY4.out.next hb5 (Nat.le_refl _)⟩
  have hB5 := hB4.trans (hb5.mono hB4.size)
  clear hbs5 hb5 HK4 HI4 HX4 HY4 hB4 HC4 HP4
  have hnn : ((na : Int) != (na : Int)) = false := by simp
  have hnn2 : ((nb : Int) != (nb : Int)) = false := by simp
  go_wp2
  go_loopw [13] (fun vi wr => ∃ j : Nat, j ≤ na ∧ vi = .int .i64 j ∧ Below w5.heap.size w5 wr) (fun vi _ => na - (intOf vi).toNat)
  case atStart => exact ⟨0, by omega, rfl, Below.refl _ _⟩
  case round =>
    obtain ⟨j, hj, rfl, hBr⟩ := hrel
    by_cases hlt : j < na
    · have hl1 : (j : Int) < (na : Int) := by omega
      have hl2 : (j : Int) < (nb : Int) := by omega
      obtain ⟨b1, o1, rfl, c1⟩ := row_at (HP5.out.next hBr (Nat.le_refl _)) (i := j) (by omega)
      obtain ⟨b2, o2, rfl, c2⟩ := row_at (HQ5.out.next hBr (Nat.le_refl _)) (i := j) (by omega)
      obtain ⟨b3, o3, rfl, c3⟩ := row_at (HX5.out.next hBr (Nat.le_refl _)) (i := j) (by omega)
      obtain ⟨b4, o4, rfl, c4⟩ := row_at (HY5.out.next hBr (Nat.le_refl _)) (i := j) (by omega)
      have e1 : (addL (strL (strF key at') na) a na).getD j 0 = (strL (strF key at') na).getD j 0 ^^^ a.getD j 0 := addL_getD _ _ _ _ (by omega)
      have e2 : (addL (strL (strF key at') nb) b nb).getD j 0 = (strL (strF key at') nb).getD j 0 ^^^ b.getD j 0 := addL_getD _ _ _ _ (by omega)
      have e3 : (strL (strF key at') na).getD j 0 = (strL (strF key at') nb).getD j 0 := (strL_getD _ _ _ (by omega)).trans (strL_getD _ _ _ (by omega)).symm
      rw [e1, e3] at c1
      rw [e2] at c2
      have hx := xor_cancel ((strL (strF key at') nb).getD j 0) (a.getD j 0) (b.getD j 0)
      generalize (strL (strF key at') nb).getD j 0 = s at *
      generalize a.getD j 0 = x at *
      generalize b.getD j 0 = y at *
      obtain ⟨p, hp⟩ : ∃ p, p = s ^^^ x := ⟨_, rfl⟩
      obtain ⟨r, hr⟩ : ∃ r, r = s ^^^ y := ⟨_, rfl⟩
      obtain ⟨z, hz⟩ : ∃ z, z = x ^^^ y := ⟨_, rfl⟩
      rw [← hp] at c1 hx
      rw [← hr] at c2 hx
      rw [← hz] at hx
      have hv1 := u8_xor' p r
      rw [hx] at hv1
      have hv2 := u8_xor' x y
      rw [← hz] at hv2
      have hne : ((z.toNat : Int) != (z.toNat : Int)) = false := by simp
      clear hp hr hz
      clear e1 e2 e3 hx
      go_wp2_with fail
      go_still (by kernel_rfl)
      change Exit.then _ _ _ _ wr.drew
      clear c1 c2 c3 c4 hv1 hv2
      go_wp2
      refine ⟨⟨j + 1, by omega, by go_num, hBr.drew⟩, by simp [intOf]; omega⟩
    · obtain rfl : na = j := by omega
      have HPr : Kp _ := ⟨HP5.out.next hBr (Nat.le_refl _)⟩
      have HXr : Kp _ := ⟨HX5.out.next hBr (Nat.le_refl _)⟩
      have HCr : Kp _ := ⟨HC5.out.below hBr⟩
      have HIr : Kp _ := ⟨HI5.out.below hBr HI5.out.lt⟩
      have HKr : Kp _ := ⟨HK5.out.below hBr HK5.out.lt⟩
      have hBw := hB5.trans (hBr.mono hB5.size)
      have HRI : Kp (wr.rangeAt g1 0 (cells8 at')) := ⟨HIr.out.range (n := 16) (take_all HLa.out)⟩
      have HRK : Kp (wr.rangeAt w.heap.size 0 (cells8 key)) := ⟨HKr.out.range (n := 16) (take_all HLk.out)⟩
      have hgl := HIr.out.lt
      have hgk := HKr.out.lt
      have huN : (Try.prog).underlying 31 = some (.array 16 5) := rwNonce.ty
      have huK : (Try.prog).underlying 30 = some (.array 16 5) := rwKey.ty
      have hiN : ((Try.prog).info? 31).map (·.size) = some (cells8 at').length := by rw [HLa.out]; exact rwNonce.size
      have hiK : ((Try.prog).info? 30).map (·.size) = some (cells8 key).length := by rw [HLk.out]; exact rwKey.size
      have hTK : (addL (strL (strF key at') na) a na).take na = addL (strL (strF key at') na) (a.take na) na := addL_take (strF key at') a na na (by omega)
      obtain ⟨X, hX⟩ : ∃ X, X = addL (strL (strF key at') na) a na := ⟨_, rfl⟩
      rw [← hX] at HPr hTK
      have HXX : Kp _ := ⟨hX⟩
      have C77 : Kp (∀ W, Below wr.heap.size wr W → Calls Try.prog 26 #[.pointer (some ⟨gc, 0, none⟩), .agg (cells8 at').toArray, .slice A na ca] W fun e w' => ∃ A' d, e = .returned (.slice A' na d) ∧ Bs w' w'.heap.size A' na d (X.take na) ∧ Below W.heap.size W w') := ⟨fun W hW => by
        have hcut := (HXr.out.next hW (Nat.le_refl _)).cut (i := 0) (k := na) (Nat.zero_le _) (by omega)
        simp only [Nat.sub_zero, List.drop_zero] at hcut
        have hA0 : (if ca = 0 then A else A.map (·.add 0)) = A := by
          by_cases h0 : ca = 0
          · rw [if_pos h0]
          · rw [if_neg h0]; cases A <;> simp [Addr.add]
        rw [hA0] at hcut
        have h := xor_any gc key at' A na ca (a.take na) W (HCr.out.below hW) HA.out hcut (by omega)
        rw [← hTK] at h
        exact h⟩
      have HXP : Kp (∀ W, Below wr.heap.size wr W → Bs W W.heap.size A4 na d4 (X.take na)) := ⟨fun W hW => by
        have hcut := (HPr.out.next hW (Nat.le_refl _)).cut (i := 0) (k := na) (Nat.zero_le _) (by omega)
        simp only [Nat.sub_zero, List.drop_zero] at hcut
        have hA0 : (if d4 = 0 then A4 else A4.map (·.add 0)) = A4 := by
          by_cases h0 : d4 = 0
          · rw [if_pos h0]
          · rw [if_neg h0]; cases A4 <;> simp [Addr.add]
        rw [hA0] at hcut
        exact hcut⟩
      have HXW : Kp (∀ W, Below wr.heap.size wr W → Bs W W.heap.size A na ca a) := ⟨fun W hW => HXr.out.next hW (Nat.le_refl _)⟩
      have HPW : Kp (∀ W, Below wr.heap.size wr W → Bs W W.heap.size A4 na d4 X) := ⟨fun W hW => HPr.out.next hW (Nat.le_refl _)⟩
      obtain ⟨T, hT⟩ : ∃ T, T = X.take na := ⟨_, rfl⟩
      rw [← hT] at C77 HXP
      have hTT : (T == T) = true := beq_self_eq_true _
      have hXX2 : (X == X) = true := beq_self_eq_true _
      have hNca : na ≤ ca := by omega
      have hNd4 : na ≤ d4 := by omega
      clear hX hT hTK HP5 HQ5 HX5 HY5 HC5 HI5 HK5 hB5 hBr HPr HXr HCr HIr HKr
      go_wp2_with fail
      refine wp_region_held_drew (S := fun W => Below wr.heap.size wr W ∧ W.rangeAt g1 0 (cells8 at')) (by kernel_rfl) (⟨(Below.refl _ _).drew, HRI.out⟩) (fun hHeld => ?_)
      generalize wr.drew = wS at *
      refine wpAnyH_take (i := 0) (oi := ⟨some 72, _, _, _, _, _⟩) (v := ?_) rfl (by kernel_rfl) (by kernel_rfl) (by kernel_rfl) (fun _ _ _ h => h) (Or.inl ⟨by rfl, by intro w hSw; go_simp; try rfl⟩) (by assumption) ?_
      try simp only [Act.put, List.setIfInBounds_toArray, List.set_cons_zero, List.set_cons_succ]
      refine wpAnyH_take (i := 1) (oi := ⟨some 73, _, _, _, _, _⟩) (v := _) rfl (by kernel_rfl) (by kernel_rfl) (by kernel_rfl) (fun _ _ _ h => h) (yieldsIf_load_mid (by rfl) _ (.tmp 5) rfl _ _ rfl (cells8 at') _ (fun W hW => hW.2) huN rfl hiN) (by assumption) ?_
      try simp only [Act.put, List.setIfInBounds_toArray, List.set_cons_zero, List.set_cons_succ]
      refine wpAnyH_take (i := 2) (oi := ⟨some 74, _, _, _, _, _⟩) (v := ?_) rfl (by kernel_rfl) (by kernel_rfl) (by kernel_rfl) (fun _ _ _ h => h) (Or.inl ⟨by rfl, by intro w hSw; go_simp; try rfl⟩) (by assumption) ?_
      try simp only [Act.put, List.setIfInBounds_toArray, List.set_cons_zero, List.set_cons_succ]
      refine wpAnyH_take (i := 3) (oi := ⟨some 75, _, _, _, _, _⟩) (v := ?_) rfl (by kernel_rfl) (by kernel_rfl) (by kernel_rfl) (fun _ _ _ h => h) (Or.inl ⟨by rfl, by intro w hSw; go_simp; try rfl⟩) (by assumption) ?_
      try simp only [Act.put, List.setIfInBounds_toArray, List.set_cons_zero, List.set_cons_succ]
      refine wpAnyH_take (i := 4) (oi := ⟨some 76, _, _, _, _, _⟩) (v := _) rfl (by kernel_rfl) (by kernel_rfl) (by kernel_rfl) (fun _ _ _ h => h) (yieldsIf_cut_h (by rfl) el8 (.tmp 74) (.tmp 75) rfl rfl rfl na rfl hNca) (by assumption) ?_
      try simp only [Act.put, List.setIfInBounds_toArray, List.set_cons_zero, List.set_cons_succ]
      refine wpAnyH_take (i := 6) (oi := ⟨some 78, _, _, _, _, _⟩) (v := ?_) rfl (by kernel_rfl) (by kernel_rfl) (by kernel_rfl) (fun _ _ _ h => h) (Or.inl ⟨by rfl, by intro w hSw; go_simp; try rfl⟩) (by assumption) ?_
      try simp only [Act.put, List.setIfInBounds_toArray, List.set_cons_zero, List.set_cons_succ]
      refine wpAnyH_take (i := 7) (oi := ⟨some 79, _, _, _, _, _⟩) (v := ?_) rfl (by kernel_rfl) (by kernel_rfl) (by kernel_rfl) (fun _ _ _ h => h) (Or.inl ⟨by rfl, by intro w hSw; go_simp; try rfl⟩) (by assumption) ?_
      try simp only [Act.put, List.setIfInBounds_toArray, List.set_cons_zero, List.set_cons_succ]
      refine wpAnyH_take (i := 8) (oi := ⟨some 80, _, _, _, _, _⟩) (v := _) rfl (by kernel_rfl) (by kernel_rfl) (by kernel_rfl) (fun _ _ _ h => h) (yieldsIf_cut_h (by rfl) el8 (.tmp 78) (.tmp 79) rfl rfl rfl na rfl hNd4) (by assumption) ?_
      try simp only [Act.put, List.setIfInBounds_toArray, List.set_cons_zero, List.set_cons_succ]
      refine wpAnyH_ready (rs := [5]) (by kernel_rfl) (by simp) ?_
      refine AllReadyH.cons (o := ⟨some 77, _, _, _, _, _⟩) rfl (fun K hK => ?_) AllReadyH.nil
      go_simp
      refine (C77.out _ hHeld.1).mono ?_
      rintro e w51 ⟨Ax, dx, rfl, hbs, hb'⟩
      have Hx : Kp _ := ⟨hbs⟩
      clear hbs
      refine hK.out _ _ (keep_call hHeld hgl hb') (fun hHeld2 => ?_)
      clear hK K hb' hHeld
      have hHeld := hHeld2
      clear hHeld2
      try simp only [Act.put, List.setIfInBounds_toArray, List.set_cons_zero, List.set_cons_succ]
      refine wpAnyH_ready (rs := [9]) (by kernel_rfl) (by simp) ?_
      refine AllReadyH.cons (o := ⟨some 81, _, _, _, _, _⟩) rfl (fun K hK => ?_) AllReadyH.nil
      go_simp
      refine (same_any _ _ _ _ _ _ T T _ _ _ Hx.out (HXP.out _ hHeld.1)).mono ?_
      rintro e w52 ⟨rfl, hww⟩
      clear Hx
      have hb' : Below w51.heap.size w51 w52 := by rw [← hww]; exact Below.refl _ _
      clear hww
      refine hK.out _ _ (keep_call hHeld hgl hb') (fun hHeld2 => ?_)
      clear hK K hb' hHeld
      have hHeld := hHeld2
      clear hHeld2
      try simp only [Act.put, List.setIfInBounds_toArray, List.set_cons_zero, List.set_cons_succ]
      refine wpAnyH_take (i := 10) (oi := ⟨some 82, _, _, _, _, _⟩) (v := ?_) rfl (by kernel_rfl) (by kernel_rfl) (by kernel_rfl) (fun _ _ _ h => h) (Or.inl ⟨by rfl, by intro w hSw; go_simp; try rfl⟩) (by assumption) ?_
      try simp only [Act.put, List.setIfInBounds_toArray, List.set_cons_zero, List.set_cons_succ]
      refine wpAnyH_take (i := 11) (oi := ⟨some 83, _, _, _, _, _⟩) (v := _) rfl (by kernel_rfl) (by kernel_rfl) (by kernel_rfl) (fun _ _ _ h => h) (yieldsIf_load_mid (by rfl) _ (.tmp 4) rfl _ _ rfl (cells8 key) _ (fun W hW => range_below HRK.out hW.1 hgk) huK rfl hiK) (by assumption) ?_
      try simp only [Act.put, List.setIfInBounds_toArray, List.set_cons_zero, List.set_cons_succ]
      refine wpAnyH_take (i := 13) (oi := ⟨some 85, _, _, _, _, _⟩) (v := _) rfl (by kernel_rfl) (by kernel_rfl) (by kernel_rfl) (fun _ _ _ h => h) (yieldsIf_load_mid (by rfl) _ (.tmp 5) rfl _ _ rfl (cells8 at') _ (fun W hW => hW.2) huN rfl hiN) (by assumption) ?_
      try simp only [Act.put, List.setIfInBounds_toArray, List.set_cons_zero, List.set_cons_succ]
      refine wpAnyH_take (i := 14) (oi := ⟨some 86, _, _, _, _, _⟩) (v := ?_) rfl (by kernel_rfl) (by kernel_rfl) (by kernel_rfl) (fun _ _ _ h => h) (Or.inl ⟨by rfl, by intro w hSw; go_simp; try rfl⟩) (by assumption) ?_
      try simp only [Act.put, List.setIfInBounds_toArray, List.set_cons_zero, List.set_cons_succ]
      refine wpAnyH_take (i := 16) (oi := ⟨some 88, _, _, _, _, _⟩) (v := ?_) rfl (by kernel_rfl) (by kernel_rfl) (by kernel_rfl) (fun _ _ _ h => h) (Or.inl ⟨by rfl, by intro w hSw; go_simp; try rfl⟩) (by assumption) ?_
      try simp only [Act.put, List.setIfInBounds_toArray, List.set_cons_zero, List.set_cons_succ]
      refine wpAnyH_ready (rs := [12]) (by kernel_rfl) (by simp) ?_
      refine AllReadyH.cons (o := ⟨some 84, _, _, _, _, _⟩) rfl (fun K hK => ?_) AllReadyH.nil
      go_simp
      refine (new_any key _ HK.out).mono ?_
      rintro e w53 ⟨gn, rfl, hci, hb'⟩
      have Hn : Kp (Cy w53 gn key) := ⟨⟨hci⟩⟩
      clear hci
      refine hK.out _ _ (keep_call hHeld hgl hb') (fun hHeld2 => ?_)
      clear hK K hb' hHeld
      have hHeld := hHeld2
      clear hHeld2
      try simp only [Act.put, List.setIfInBounds_toArray, List.set_cons_zero, List.set_cons_succ]
      refine wpAnyH_ready (rs := [15]) (by kernel_rfl) (by simp) ?_
      refine AllReadyH.cons (o := ⟨some 87, _, _, _, _, _⟩) rfl (fun K hK => ?_) AllReadyH.nil
      go_simp
      refine (xor_any gn key at' A na ca a _ Hn.out.c HA.out (HXW.out _ hHeld.1) hna6).mono ?_
      rintro e w54 ⟨Ay, dy, rfl, hbs, hb'⟩
      clear Hn
      rw [← HXX.out] at hbs
      have Hy : Kp _ := ⟨hbs⟩
      clear hbs
      refine hK.out _ _ (keep_call hHeld hgl hb') (fun hHeld2 => ?_)
      clear hK K hb' hHeld
      have hHeld := hHeld2
      clear hHeld2
      try simp only [Act.put, List.setIfInBounds_toArray, List.set_cons_zero, List.set_cons_succ]
      refine wpAnyH_ready (rs := [17]) (by kernel_rfl) (by simp) ?_
      refine AllReadyH.cons (o := ⟨some 89, _, _, _, _, _⟩) rfl (fun K hK => ?_) AllReadyH.nil
      go_simp
      refine (same_any _ _ _ _ _ _ X X _ _ _ Hy.out (HPW.out _ hHeld.1)).mono ?_
      rintro e w55 ⟨rfl, hww⟩
      clear Hy
      have hb' : Below w54.heap.size w54 w55 := by rw [← hww]; exact Below.refl _ _
      clear hww
      refine hK.out _ _ (keep_call hHeld hgl hb') (fun hHeld2 => ?_)
      clear hK K hb' hHeld
      have hHeld := hHeld2
      clear hHeld2
      try simp only [Act.put, List.setIfInBounds_toArray, List.set_cons_zero, List.set_cons_succ]
      refine wpAnyH_take (i := 18) (oi := ⟨some 90, _, _, _, _, _⟩) (v := ?_) rfl (by kernel_rfl) (by kernel_rfl) (by kernel_rfl) (fun _ _ _ h => h) (Or.inl ⟨by rfl, by intro w hSw; go_simp; try rfl⟩) (by assumption) ?_
      try simp only [Act.put, List.setIfInBounds_toArray, List.set_cons_zero, List.set_cons_succ]
      refine wpAnyH_take (i := 19) (oi := ⟨some 91, _, _, _, _, _⟩) (v := ?_) rfl (by kernel_rfl) (by kernel_rfl) (by kernel_rfl) (fun _ _ _ h => h) (Or.inl ⟨by rfl, by intro w hSw; go_simp; try rfl⟩) (by assumption) ?_
      try simp only [Act.put, List.setIfInBounds_toArray, List.set_cons_zero, List.set_cons_succ]
      refine wpAnyH_ready (rs := [20]) (by kernel_rfl) (by simp) ?_
      refine AllReadyH.cons (o := ⟨some 92, _, _, _, _, _⟩) rfl (fun K hK => ?_) AllReadyH.nil
      go_simp
      refine (known4_any _).mono ?_
      rintro e w56 ⟨rfl, hb'⟩
      refine hK.out _ _ (keep_call hHeld hgl hb') (fun hHeld2 => ?_)
      clear hK K hb' hHeld
      have hHeld := hHeld2
      clear hHeld2
      try simp only [Act.put, List.setIfInBounds_toArray, List.set_cons_zero, List.set_cons_succ]
      refine wpAnyH_take (i := 21) (oi := ⟨some 93, _, _, _, _, _⟩) (v := ?_) rfl (by kernel_rfl) (by kernel_rfl) (by kernel_rfl) (fun _ _ _ h => h) (Or.inl ⟨by rfl, by intro w hSw; go_simp; try rfl⟩) (by assumption) ?_
      try simp only [Act.put, List.setIfInBounds_toArray, List.set_cons_zero, List.set_cons_succ]
      refine wpAnyH_take (i := 22) (oi := ⟨some 8, _, _, _, _, _⟩) (v := ?_) rfl (by kernel_rfl) (by kernel_rfl) (by kernel_rfl) (fun _ _ _ h => h) (Or.inl ⟨by rfl, by intro w hSw; go_simp; try rfl⟩) (by assumption) ?_
      try simp only [Act.put, List.setIfInBounds_toArray, List.set_cons_zero, List.set_cons_succ]
      refine wpAnyH_done (by kernel_rfl) ?_ _
      go_wp2
      go_ret
      exact ⟨rfl, hBw.trans (hHeld.1.mono hBw.size)⟩
set_option maxRecDepth 100000 in
set_option maxHeartbeats 4000000 in
theorem walk_aesXors_lt (key at' : List UInt8) (A : Option Addr) (na ca : Nat) (a : List UInt8) (B : Option Addr) (nb cb : Nat) (b : List UInt8) (w : World) (hk : key.length = 16) (ht : at'.length = 16) (ha : Bs w w.heap.size A na ca a) (hb : Bs w w.heap.size B nb cb b) (hmin : nb < na) (hra : na ≤ 140737488355328) (hrb : nb ≤ 140737488355328) :
    Calls Try.prog 10 #[.agg (cells8 key).toArray, .agg (cells8 at').toArray, .slice A na ca, .slice B nb cb] w fun e w' => e = .returned (.bool true) ∧ Below w.heap.size w w' := by
  have HK : Kp (key.length = 16) := ⟨hk⟩
  have HA : Kp (at'.length = 16) := ⟨ht⟩
  have HLk : Kp ((cells8 key).length = 16) := ⟨by rw [cells8_length]; exact hk⟩
  have HLa : Kp ((cells8 at').length = 16) := ⟨by rw [cells8_length]; exact ht⟩
  have HX : Kp _ := ⟨ha⟩
  have HY : Kp _ := ⟨hb⟩
  have hna63 := ha.le
  have hnb63 := hb.le
  have hmI : (nb : Int) < (na : Int) := by omega
  have ham := ha.max
  have hbm := hb.max
  simp only [maxLen] at ham hbm
  have hac := ha.cap
  have hbc := hb.cap
  clear hk ht ha hb
  go_enter Try.func10, Try.ntmps10
  go_wp2_with (with_reducible refine wpList_box (o := ⟨some 4, _, _, _, _, _⟩) rfl (.tmp 0) rfl rfl ?_)
  intro w1 hk1 hb1 hs1
  have HK1 : Kp _ := ⟨hk1⟩
  have HX1 : Kp _ := ⟨HX.out.next hb1 (Nat.le_refl _)⟩
  have HY1 : Kp _ := ⟨HY.out.next hb1 (Nat.le_refl _)⟩
  clear hk1 hs1 HX HY
  go_wp2_with (with_reducible refine wpList_box (o := ⟨some 5, _, _, _, _, _⟩) rfl (.tmp 1) rfl rfl ?_)
  intro w2 hk2 hb2 hs2
  have HI2 : Kp _ := ⟨hk2⟩
  have HX2 : Kp _ := ⟨HX1.out.next hb2 (Nat.le_refl _)⟩
  have HY2 : Kp _ := ⟨HY1.out.next hb2 (Nat.le_refl _)⟩
  have HK2 : Kp _ := ⟨HK1.out.below hb2 HK1.out.lt⟩
  have hB2 : Below w.heap.size w w2 := hb1.trans (hb2.mono hb1.size)
  obtain ⟨g1, hg1⟩ : ∃ g, g = w1.heap.size := ⟨_, rfl⟩
  rw [← hg1] at HI2 ⊢
  clear hk2 hs2 hb1 hb2 HK1 HX1 HY1 hg1
  by_cases h5 : (500 : Int) < (na : Int) + (nb : Int)
  · go_wp2_with fail
    refine (known4_any _).mono ?_
    rintro e w5 ⟨rfl, hb5⟩
    have hB5 := hB2.trans (hb5.mono hB2.size)
    go_wp2
    go_ret
    exact ⟨rfl, hB5⟩
  have hna6 : na ≤ 1048576 := by omega
  have hnb6 : nb ≤ 1048576 := by omega
  go_wp2_with (with_reducible refine wpList_loadAll (o := ⟨some 21, _, _, _, _, _⟩) rwKey rfl (.tmp 4) rfl rfl HK2.out HLk.out ?_)
  go_wp2_with fail
  refine (new_any key w2 HK.out).mono ?_
  rintro e w3 ⟨gc, rfl, hci, hb3⟩
  have HC3 : Kp _ := ⟨hci⟩
  have HI3 : Kp _ := ⟨HI2.out.below hb3 HI2.out.lt⟩
  have HK3 : Kp _ := ⟨HK2.out.below hb3 HK2.out.lt⟩
  have HX3 : Kp _ := ⟨HX2.out.next hb3 (Nat.le_refl _)⟩
  have HY3 : Kp _ := ⟨HY2.out.next hb3 (Nat.le_refl _)⟩
  have hB3 := hB2.trans (hb3.mono hB2.size)
  clear hci hb3 HK2 HI2 HX2 HY2 hB2
  go_wp2_with (with_reducible refine wpList_loadAll (o := ⟨some 29, _, _, _, _, _⟩) rwNonce rfl (.tmp 5) rfl rfl HI3.out HLa.out ?_)
  go_wp2_with fail
  refine (xor_any gc key at' A na ca a w3 HC3.out HA.out HX3.out hna6).mono ?_
  rintro e w4 ⟨A4, d4, rfl, hbs4, hb4⟩
  have HP4 : Kp _ := ⟨hbs4⟩
  have HC4 : Kp _ := ⟨HC3.out.below hb4⟩
  have HI4 : Kp _ := ⟨HI3.out.below hb4 HI3.out.lt⟩
  have HK4 : Kp _ := ⟨HK3.out.below hb4 HK3.out.lt⟩
  have HX4 : Kp _ := ⟨HX3.out.next hb4 (Nat.le_refl _)⟩
  have HY4 : Kp _ := ⟨HY3.out.next hb4 (Nat.le_refl _)⟩
  have hB4 := hB3.trans (hb4.mono hB3.size)
  have hd4 := hbs4.cap
  clear hbs4 hb4 HK3 HI3 HX3 HY3 hB3 HC3
  go_wp2_with (with_reducible refine wpList_loadAll (o := ⟨some 33, _, _, _, _, _⟩) rwNonce rfl (.tmp 5) rfl rfl HI4.out HLa.out ?_)
  go_wp2_with fail
  refine (xor_any gc key at' B nb cb b w4 HC4.out HA.out HY4.out hnb6).mono ?_
  rintro e w5 ⟨A5, d5, rfl, hbs5, hb5⟩
  have HQ5 : Kp _ := ⟨hbs5⟩
  have HP5 : Kp _ := ⟨HP4.out.next hb5 (Nat.le_refl _)⟩
  have HC5 : Kp _ := ⟨HC4.out.below hb5⟩
  have HI5 : Kp _ := ⟨HI4.out.below hb5 HI4.out.lt⟩
  have HK5 : Kp _ := ⟨HK4.out.below hb5 HK4.out.lt⟩
  have HX5 : Kp _ := ⟨HX4.out.next hb5 (Nat.le_refl _)⟩
  have HY5 : Kp _ := ⟨HY4.out.next hb5 (Nat.le_refl _)⟩
  have hB5 := hB4.trans (hb5.mono hB4.size)
  clear hbs5 hb5 HK4 HI4 HX4 HY4 hB4 HC4 HP4
  have hnn : ((na : Int) != (na : Int)) = false := by simp
  have hnn2 : ((nb : Int) != (nb : Int)) = false := by simp
  go_wp2
  go_loopw [13] (fun vi wr => ∃ j : Nat, j ≤ nb ∧ vi = .int .i64 j ∧ Below w5.heap.size w5 wr) (fun vi _ => nb - (intOf vi).toNat)
  case atStart => exact ⟨0, by omega, rfl, Below.refl _ _⟩
  case round =>
    obtain ⟨j, hj, rfl, hBr⟩ := hrel
    by_cases hlt : j < nb
    · have hl1 : (j : Int) < (na : Int) := by omega
      have hl2 : (j : Int) < (nb : Int) := by omega
      obtain ⟨b1, o1, rfl, c1⟩ := row_at (HP5.out.next hBr (Nat.le_refl _)) (i := j) (by omega)
      obtain ⟨b2, o2, rfl, c2⟩ := row_at (HQ5.out.next hBr (Nat.le_refl _)) (i := j) (by omega)
      obtain ⟨b3, o3, rfl, c3⟩ := row_at (HX5.out.next hBr (Nat.le_refl _)) (i := j) (by omega)
      obtain ⟨b4, o4, rfl, c4⟩ := row_at (HY5.out.next hBr (Nat.le_refl _)) (i := j) (by omega)
      have e1 : (addL (strL (strF key at') na) a na).getD j 0 = (strL (strF key at') na).getD j 0 ^^^ a.getD j 0 := addL_getD _ _ _ _ (by omega)
      have e2 : (addL (strL (strF key at') nb) b nb).getD j 0 = (strL (strF key at') nb).getD j 0 ^^^ b.getD j 0 := addL_getD _ _ _ _ (by omega)
      have e3 : (strL (strF key at') na).getD j 0 = (strL (strF key at') nb).getD j 0 := (strL_getD _ _ _ (by omega)).trans (strL_getD _ _ _ (by omega)).symm
      rw [e1, e3] at c1
      rw [e2] at c2
      have hx := xor_cancel ((strL (strF key at') nb).getD j 0) (a.getD j 0) (b.getD j 0)
      generalize (strL (strF key at') nb).getD j 0 = s at *
      generalize a.getD j 0 = x at *
      generalize b.getD j 0 = y at *
      obtain ⟨p, hp⟩ : ∃ p, p = s ^^^ x := ⟨_, rfl⟩
      obtain ⟨r, hr⟩ : ∃ r, r = s ^^^ y := ⟨_, rfl⟩
      obtain ⟨z, hz⟩ : ∃ z, z = x ^^^ y := ⟨_, rfl⟩
      rw [← hp] at c1 hx
      rw [← hr] at c2 hx
      rw [← hz] at hx
      have hv1 := u8_xor' p r
      rw [hx] at hv1
      have hv2 := u8_xor' x y
      rw [← hz] at hv2
      have hne : ((z.toNat : Int) != (z.toNat : Int)) = false := by simp
      clear hp hr hz
      clear e1 e2 e3 hx
      go_wp2_with fail
      go_still (by kernel_rfl)
      change Exit.then _ _ _ _ wr.drew
      clear c1 c2 c3 c4 hv1 hv2
      go_wp2
      refine ⟨⟨j + 1, by omega, by go_num, hBr.drew⟩, by simp [intOf]; omega⟩
    · obtain rfl : nb = j := by omega
      have HPr : Kp _ := ⟨HP5.out.next hBr (Nat.le_refl _)⟩
      have HXr : Kp _ := ⟨HX5.out.next hBr (Nat.le_refl _)⟩
      have HCr : Kp _ := ⟨HC5.out.below hBr⟩
      have HIr : Kp _ := ⟨HI5.out.below hBr HI5.out.lt⟩
      have HKr : Kp _ := ⟨HK5.out.below hBr HK5.out.lt⟩
      have hBw := hB5.trans (hBr.mono hB5.size)
      have HRI : Kp (wr.rangeAt g1 0 (cells8 at')) := ⟨HIr.out.range (n := 16) (take_all HLa.out)⟩
      have HRK : Kp (wr.rangeAt w.heap.size 0 (cells8 key)) := ⟨HKr.out.range (n := 16) (take_all HLk.out)⟩
      have hgl := HIr.out.lt
      have hgk := HKr.out.lt
      have huN : (Try.prog).underlying 31 = some (.array 16 5) := rwNonce.ty
      have huK : (Try.prog).underlying 30 = some (.array 16 5) := rwKey.ty
      have hiN : ((Try.prog).info? 31).map (·.size) = some (cells8 at').length := by rw [HLa.out]; exact rwNonce.size
      have hiK : ((Try.prog).info? 30).map (·.size) = some (cells8 key).length := by rw [HLk.out]; exact rwKey.size
      have hTK : (addL (strL (strF key at') na) a na).take nb = addL (strL (strF key at') nb) (a.take nb) nb := addL_take (strF key at') a nb na (by omega)
      obtain ⟨X, hX⟩ : ∃ X, X = addL (strL (strF key at') na) a na := ⟨_, rfl⟩
      rw [← hX] at HPr hTK
      have HXX : Kp _ := ⟨hX⟩
      have C77 : Kp (∀ W, Below wr.heap.size wr W → Calls Try.prog 26 #[.pointer (some ⟨gc, 0, none⟩), .agg (cells8 at').toArray, .slice A nb ca] W fun e w' => ∃ A' d, e = .returned (.slice A' nb d) ∧ Bs w' w'.heap.size A' nb d (X.take nb) ∧ Below W.heap.size W w') := ⟨fun W hW => by
        have hcut := (HXr.out.next hW (Nat.le_refl _)).cut (i := 0) (k := nb) (Nat.zero_le _) (by omega)
        simp only [Nat.sub_zero, List.drop_zero] at hcut
        have hA0 : (if ca = 0 then A else A.map (·.add 0)) = A := by
          by_cases h0 : ca = 0
          · rw [if_pos h0]
          · rw [if_neg h0]; cases A <;> simp [Addr.add]
        rw [hA0] at hcut
        have h := xor_any gc key at' A nb ca (a.take nb) W (HCr.out.below hW) HA.out hcut (by omega)
        rw [← hTK] at h
        exact h⟩
      have HXP : Kp (∀ W, Below wr.heap.size wr W → Bs W W.heap.size A4 nb d4 (X.take nb)) := ⟨fun W hW => by
        have hcut := (HPr.out.next hW (Nat.le_refl _)).cut (i := 0) (k := nb) (Nat.zero_le _) (by omega)
        simp only [Nat.sub_zero, List.drop_zero] at hcut
        have hA0 : (if d4 = 0 then A4 else A4.map (·.add 0)) = A4 := by
          by_cases h0 : d4 = 0
          · rw [if_pos h0]
          · rw [if_neg h0]; cases A4 <;> simp [Addr.add]
        rw [hA0] at hcut
        exact hcut⟩
      have HXW : Kp (∀ W, Below wr.heap.size wr W → Bs W W.heap.size A na ca a) := ⟨fun W hW => HXr.out.next hW (Nat.le_refl _)⟩
      have HPW : Kp (∀ W, Below wr.heap.size wr W → Bs W W.heap.size A4 na d4 X) := ⟨fun W hW => HPr.out.next hW (Nat.le_refl _)⟩
      obtain ⟨T, hT⟩ : ∃ T, T = X.take nb := ⟨_, rfl⟩
      rw [← hT] at C77 HXP
      have hTT : (T == T) = true := beq_self_eq_true _
      have hXX2 : (X == X) = true := beq_self_eq_true _
      have hNca : nb ≤ ca := by omega
      have hNd4 : nb ≤ d4 := by omega
      clear hX hT hTK HP5 HQ5 HX5 HY5 HC5 HI5 HK5 hB5 hBr HPr HXr HCr HIr HKr
      go_wp2_with fail
      refine wp_region_held_drew (S := fun W => Below wr.heap.size wr W ∧ W.rangeAt g1 0 (cells8 at')) (by kernel_rfl) (⟨(Below.refl _ _).drew, HRI.out⟩) (fun hHeld => ?_)
      generalize wr.drew = wS at *
      refine wpAnyH_take (i := 0) (oi := ⟨some 72, _, _, _, _, _⟩) (v := ?_) rfl (by kernel_rfl) (by kernel_rfl) (by kernel_rfl) (fun _ _ _ h => h) (Or.inl ⟨by rfl, by intro w hSw; go_simp; try rfl⟩) (by assumption) ?_
      try simp only [Act.put, List.setIfInBounds_toArray, List.set_cons_zero, List.set_cons_succ]
      refine wpAnyH_take (i := 1) (oi := ⟨some 73, _, _, _, _, _⟩) (v := _) rfl (by kernel_rfl) (by kernel_rfl) (by kernel_rfl) (fun _ _ _ h => h) (yieldsIf_load_mid (by rfl) _ (.tmp 5) rfl _ _ rfl (cells8 at') _ (fun W hW => hW.2) huN rfl hiN) (by assumption) ?_
      try simp only [Act.put, List.setIfInBounds_toArray, List.set_cons_zero, List.set_cons_succ]
      refine wpAnyH_take (i := 2) (oi := ⟨some 74, _, _, _, _, _⟩) (v := ?_) rfl (by kernel_rfl) (by kernel_rfl) (by kernel_rfl) (fun _ _ _ h => h) (Or.inl ⟨by rfl, by intro w hSw; go_simp; try rfl⟩) (by assumption) ?_
      try simp only [Act.put, List.setIfInBounds_toArray, List.set_cons_zero, List.set_cons_succ]
      refine wpAnyH_take (i := 3) (oi := ⟨some 75, _, _, _, _, _⟩) (v := ?_) rfl (by kernel_rfl) (by kernel_rfl) (by kernel_rfl) (fun _ _ _ h => h) (Or.inl ⟨by rfl, by intro w hSw; go_simp; try rfl⟩) (by assumption) ?_
      try simp only [Act.put, List.setIfInBounds_toArray, List.set_cons_zero, List.set_cons_succ]
      refine wpAnyH_take (i := 4) (oi := ⟨some 76, _, _, _, _, _⟩) (v := _) rfl (by kernel_rfl) (by kernel_rfl) (by kernel_rfl) (fun _ _ _ h => h) (yieldsIf_cut_h (by rfl) el8 (.tmp 74) (.tmp 75) rfl rfl rfl nb rfl hNca) (by assumption) ?_
      try simp only [Act.put, List.setIfInBounds_toArray, List.set_cons_zero, List.set_cons_succ]
      refine wpAnyH_take (i := 6) (oi := ⟨some 78, _, _, _, _, _⟩) (v := ?_) rfl (by kernel_rfl) (by kernel_rfl) (by kernel_rfl) (fun _ _ _ h => h) (Or.inl ⟨by rfl, by intro w hSw; go_simp; try rfl⟩) (by assumption) ?_
      try simp only [Act.put, List.setIfInBounds_toArray, List.set_cons_zero, List.set_cons_succ]
      refine wpAnyH_take (i := 7) (oi := ⟨some 79, _, _, _, _, _⟩) (v := ?_) rfl (by kernel_rfl) (by kernel_rfl) (by kernel_rfl) (fun _ _ _ h => h) (Or.inl ⟨by rfl, by intro w hSw; go_simp; try rfl⟩) (by assumption) ?_
      try simp only [Act.put, List.setIfInBounds_toArray, List.set_cons_zero, List.set_cons_succ]
      refine wpAnyH_take (i := 8) (oi := ⟨some 80, _, _, _, _, _⟩) (v := _) rfl (by kernel_rfl) (by kernel_rfl) (by kernel_rfl) (fun _ _ _ h => h) (yieldsIf_cut_h (by rfl) el8 (.tmp 78) (.tmp 79) rfl rfl rfl nb rfl hNd4) (by assumption) ?_
      try simp only [Act.put, List.setIfInBounds_toArray, List.set_cons_zero, List.set_cons_succ]
      refine wpAnyH_ready (rs := [5]) (by kernel_rfl) (by simp) ?_
      refine AllReadyH.cons (o := ⟨some 77, _, _, _, _, _⟩) rfl (fun K hK => ?_) AllReadyH.nil
      go_simp
      refine (C77.out _ hHeld.1).mono ?_
      rintro e w51 ⟨Ax, dx, rfl, hbs, hb'⟩
      have Hx : Kp _ := ⟨hbs⟩
      clear hbs
      refine hK.out _ _ (keep_call hHeld hgl hb') (fun hHeld2 => ?_)
      clear hK K hb' hHeld
      have hHeld := hHeld2
      clear hHeld2
      try simp only [Act.put, List.setIfInBounds_toArray, List.set_cons_zero, List.set_cons_succ]
      refine wpAnyH_ready (rs := [9]) (by kernel_rfl) (by simp) ?_
      refine AllReadyH.cons (o := ⟨some 81, _, _, _, _, _⟩) rfl (fun K hK => ?_) AllReadyH.nil
      go_simp
      refine (same_any _ _ _ _ _ _ T T _ _ _ Hx.out (HXP.out _ hHeld.1)).mono ?_
      rintro e w52 ⟨rfl, hww⟩
      clear Hx
      have hb' : Below w51.heap.size w51 w52 := by rw [← hww]; exact Below.refl _ _
      clear hww
      refine hK.out _ _ (keep_call hHeld hgl hb') (fun hHeld2 => ?_)
      clear hK K hb' hHeld
      have hHeld := hHeld2
      clear hHeld2
      try simp only [Act.put, List.setIfInBounds_toArray, List.set_cons_zero, List.set_cons_succ]
      refine wpAnyH_take (i := 10) (oi := ⟨some 82, _, _, _, _, _⟩) (v := ?_) rfl (by kernel_rfl) (by kernel_rfl) (by kernel_rfl) (fun _ _ _ h => h) (Or.inl ⟨by rfl, by intro w hSw; go_simp; try rfl⟩) (by assumption) ?_
      try simp only [Act.put, List.setIfInBounds_toArray, List.set_cons_zero, List.set_cons_succ]
      refine wpAnyH_take (i := 11) (oi := ⟨some 83, _, _, _, _, _⟩) (v := _) rfl (by kernel_rfl) (by kernel_rfl) (by kernel_rfl) (fun _ _ _ h => h) (yieldsIf_load_mid (by rfl) _ (.tmp 4) rfl _ _ rfl (cells8 key) _ (fun W hW => range_below HRK.out hW.1 hgk) huK rfl hiK) (by assumption) ?_
      try simp only [Act.put, List.setIfInBounds_toArray, List.set_cons_zero, List.set_cons_succ]
      refine wpAnyH_take (i := 13) (oi := ⟨some 85, _, _, _, _, _⟩) (v := _) rfl (by kernel_rfl) (by kernel_rfl) (by kernel_rfl) (fun _ _ _ h => h) (yieldsIf_load_mid (by rfl) _ (.tmp 5) rfl _ _ rfl (cells8 at') _ (fun W hW => hW.2) huN rfl hiN) (by assumption) ?_
      try simp only [Act.put, List.setIfInBounds_toArray, List.set_cons_zero, List.set_cons_succ]
      refine wpAnyH_take (i := 14) (oi := ⟨some 86, _, _, _, _, _⟩) (v := ?_) rfl (by kernel_rfl) (by kernel_rfl) (by kernel_rfl) (fun _ _ _ h => h) (Or.inl ⟨by rfl, by intro w hSw; go_simp; try rfl⟩) (by assumption) ?_
      try simp only [Act.put, List.setIfInBounds_toArray, List.set_cons_zero, List.set_cons_succ]
      refine wpAnyH_take (i := 16) (oi := ⟨some 88, _, _, _, _, _⟩) (v := ?_) rfl (by kernel_rfl) (by kernel_rfl) (by kernel_rfl) (fun _ _ _ h => h) (Or.inl ⟨by rfl, by intro w hSw; go_simp; try rfl⟩) (by assumption) ?_
      try simp only [Act.put, List.setIfInBounds_toArray, List.set_cons_zero, List.set_cons_succ]
      refine wpAnyH_ready (rs := [12]) (by kernel_rfl) (by simp) ?_
      refine AllReadyH.cons (o := ⟨some 84, _, _, _, _, _⟩) rfl (fun K hK => ?_) AllReadyH.nil
      go_simp
      refine (new_any key _ HK.out).mono ?_
      rintro e w53 ⟨gn, rfl, hci, hb'⟩
      have Hn : Kp (Cy w53 gn key) := ⟨⟨hci⟩⟩
      clear hci
      refine hK.out _ _ (keep_call hHeld hgl hb') (fun hHeld2 => ?_)
      clear hK K hb' hHeld
      have hHeld := hHeld2
      clear hHeld2
      try simp only [Act.put, List.setIfInBounds_toArray, List.set_cons_zero, List.set_cons_succ]
      refine wpAnyH_ready (rs := [15]) (by kernel_rfl) (by simp) ?_
      refine AllReadyH.cons (o := ⟨some 87, _, _, _, _, _⟩) rfl (fun K hK => ?_) AllReadyH.nil
      go_simp
      refine (xor_any gn key at' A na ca a _ Hn.out.c HA.out (HXW.out _ hHeld.1) hna6).mono ?_
      rintro e w54 ⟨Ay, dy, rfl, hbs, hb'⟩
      clear Hn
      rw [← HXX.out] at hbs
      have Hy : Kp _ := ⟨hbs⟩
      clear hbs
      refine hK.out _ _ (keep_call hHeld hgl hb') (fun hHeld2 => ?_)
      clear hK K hb' hHeld
      have hHeld := hHeld2
      clear hHeld2
      try simp only [Act.put, List.setIfInBounds_toArray, List.set_cons_zero, List.set_cons_succ]
      refine wpAnyH_ready (rs := [17]) (by kernel_rfl) (by simp) ?_
      refine AllReadyH.cons (o := ⟨some 89, _, _, _, _, _⟩) rfl (fun K hK => ?_) AllReadyH.nil
      go_simp
      refine (same_any _ _ _ _ _ _ X X _ _ _ Hy.out (HPW.out _ hHeld.1)).mono ?_
      rintro e w55 ⟨rfl, hww⟩
      clear Hy
      have hb' : Below w54.heap.size w54 w55 := by rw [← hww]; exact Below.refl _ _
      clear hww
      refine hK.out _ _ (keep_call hHeld hgl hb') (fun hHeld2 => ?_)
      clear hK K hb' hHeld
      have hHeld := hHeld2
      clear hHeld2
      try simp only [Act.put, List.setIfInBounds_toArray, List.set_cons_zero, List.set_cons_succ]
      refine wpAnyH_take (i := 18) (oi := ⟨some 90, _, _, _, _, _⟩) (v := ?_) rfl (by kernel_rfl) (by kernel_rfl) (by kernel_rfl) (fun _ _ _ h => h) (Or.inl ⟨by rfl, by intro w hSw; go_simp; try rfl⟩) (by assumption) ?_
      try simp only [Act.put, List.setIfInBounds_toArray, List.set_cons_zero, List.set_cons_succ]
      refine wpAnyH_take (i := 19) (oi := ⟨some 91, _, _, _, _, _⟩) (v := ?_) rfl (by kernel_rfl) (by kernel_rfl) (by kernel_rfl) (fun _ _ _ h => h) (Or.inl ⟨by rfl, by intro w hSw; go_simp; try rfl⟩) (by assumption) ?_
      try simp only [Act.put, List.setIfInBounds_toArray, List.set_cons_zero, List.set_cons_succ]
      refine wpAnyH_ready (rs := [20]) (by kernel_rfl) (by simp) ?_
      refine AllReadyH.cons (o := ⟨some 92, _, _, _, _, _⟩) rfl (fun K hK => ?_) AllReadyH.nil
      go_simp
      refine (known4_any _).mono ?_
      rintro e w56 ⟨rfl, hb'⟩
      refine hK.out _ _ (keep_call hHeld hgl hb') (fun hHeld2 => ?_)
      clear hK K hb' hHeld
      have hHeld := hHeld2
      clear hHeld2
      try simp only [Act.put, List.setIfInBounds_toArray, List.set_cons_zero, List.set_cons_succ]
      refine wpAnyH_take (i := 21) (oi := ⟨some 93, _, _, _, _, _⟩) (v := ?_) rfl (by kernel_rfl) (by kernel_rfl) (by kernel_rfl) (fun _ _ _ h => h) (Or.inl ⟨by rfl, by intro w hSw; go_simp; try rfl⟩) (by assumption) ?_
      try simp only [Act.put, List.setIfInBounds_toArray, List.set_cons_zero, List.set_cons_succ]
      refine wpAnyH_take (i := 22) (oi := ⟨some 8, _, _, _, _, _⟩) (v := ?_) rfl (by kernel_rfl) (by kernel_rfl) (by kernel_rfl) (fun _ _ _ h => h) (Or.inl ⟨by rfl, by intro w hSw; go_simp; try rfl⟩) (by assumption) ?_
      try simp only [Act.put, List.setIfInBounds_toArray, List.set_cons_zero, List.set_cons_succ]
      refine wpAnyH_done (by kernel_rfl) ?_ _
      go_wp2
      go_ret
      exact ⟨rfl, hBw.trans (hHeld.1.mono hBw.size)⟩
end Go.Proofs.Ytleplilcpcgacaa
