/- The contract of package aes's Stream. -/
import Derived.Test.YtleplilcpcgacaaAesNext
import Derived.Test.YtleplilcpcgacaaAesNew
import Derived.Test.YtleplilcpcgacaaEl
import Derived.Test.YtleplilcpcgacaaIndex
import Derived.Deep.LoopGhost
namespace Go.Proofs.Ytleplilcpcgacaa
open Go.RowKit

theorem own_base {w : World} {b base : Nat} {e : TypeId} {v : Value} {n : Nat} {xs : List Value} (h : w.ownsRow base e 1 v n xs) (hb : b ≤ base) : w.ownsRow b e 1 v n xs := by
  refine ⟨h.1, ?_⟩
  rcases h.2 with ⟨rfl, rfl⟩ | ⟨g, cap, cur, rfl, hg, hh, hn, hm, hs, ht⟩
  · exact .inl ⟨rfl, rfl⟩
  · exact .inr ⟨g, cap, cur, rfl, Nat.le_trans hb hg, hh, hn, hm, hs, ht⟩
theorem und16 : Try.prog.underlying 29 = some (.array 16 5) := by kernel_rfl
theorem own_some_lt {w : World} {base g n c : Nat} {e : TypeId} {xs : List Value} (h : w.ownsRow base e 1 (.slice (some ⟨g, 0, none⟩) n c) n xs) : g < w.heap.size := by
  obtain ⟨A, c', e1, _, _, _, hs⟩ := own_form h
  injection e1 with e2 _ _
  obtain ⟨g', e3, _, h4⟩ := hs _ e2.symm
  injection e3 with e4
  omega
theorem own_only {w w' : World} {base gx n : Nat} {e : TypeId} {v : Value} {xs : List Value} (h : w.ownsRow base e 1 v n xs) (ho : Only gx w w') (hne : v.ownBlock ≠ some gx) : w'.ownsRow base e 1 v n xs :=
  h.kept (row := some gx) ⟨ho.os, ho.tape, ho.output, by rw [ho.size]; exact Nat.le_refl _, fun k _ hk => ho.block k (fun e => hk (by rw [e]))⟩ (.inr hne)
/-- blocks of 16, one behind the other: the first n bytes -/
def strL (f : Nat → List UInt8) (n : Nat) : List UInt8 := (List.range n).map fun p => (f (p / 16)).getD (p % 16) 0
theorem strL_length (f : Nat → List UInt8) (n : Nat) : (strL f n).length = n := by simp [strL]
theorem strL_succ (f : Nat → List UInt8) (n : Nat) : strL f (n + 1) = strL f n ++ [(f (n / 16)).getD (n % 16) 0] := by simp [strL, List.range_succ]
theorem strL_step (f : Nat → List UInt8) (i j : Nat) (hj : j < (f i).length) (h : (f i).length = 16) : strL f (16 * i + (j + 1)) = strL f (16 * i + j) ++ [(f i)[j]] := by
  rw [show 16 * i + (j + 1) = (16 * i + j) + 1 by omega, strL_succ, show (16 * i + j) / 16 = i by omega, show (16 * i + j) % 16 = j by omega]
  simp [List.getD, List.getElem?_eq_getElem hj]
/-- a stream's blocks -/
def strF (key at' : List UInt8) (i : Nat) : List UInt8 := blockL (keysL boxB key) boxB (nextL at' i)
theorem strF_length (key at' : List UInt8) (i : Nat) : (strF key at' i).length = 16 := blockL_length _ _ _

set_option maxRecDepth 100000 in
set_option maxHeartbeats 4000000 in
theorem stream_mid (gc : Nat) (key at' : List UInt8) (N : Nat) (w : World) (hc : Ci w gc key) (ha : at'.length = 16) (hN : N ≤ 1048576) :
    Calls Try.prog 24 #[.pointer (some ⟨gc, 0, none⟩), .agg (cells8 at').toArray, .int .i64 (N : Int)] w fun e w' => ∃ v, e = .returned v ∧ w'.ownsRow w.heap.size 5 1 v N (cells8 (strL (strF key at') N)) ∧ Below w.heap.size w w' := by
  have HC : Kp _ := ⟨hc⟩
  have HA : Kp _ := ⟨ha⟩
  have HGC : Kp (gc < w.heap.size) := ⟨hc.blk.lt⟩
  have HLa : Kp ((cells8 at').length = 16) := ⟨by rw [cells8_length]; exact ha⟩
  clear hc ha
  go_enter Try.func24, Try.ntmps24
  go_wp2_with (with_reducible refine wpList_box (o := ⟨some 4, _, _, _, _, _⟩) rfl (.tmp 1) rfl rfl ?_)
  intro w1 hk1 hb1 hs1
  have HK1 : Kp _ := ⟨hk1⟩
  clear hk1 hs1
  have h0 : (0 : Int) ≤ (N : Int) := by omega
  have h1 : (N : Int) ≤ 1048576 := by omega
  go_wp2
  go_step3
  obtain ⟨b0, hb0⟩ : ∃ b, b = w1.heap.size := ⟨_, rfl⟩
  have hlt0 : w.heap.size < b0 := by rw [hb0]; exact HK1.out.lt
  have hle0 : b0 ≤ w1.heap.size := by rw [hb0]; exact Nat.le_refl _
  clear hb0
  go_wp2_with (with_reducible refine wpList_mk0 (o := ⟨some 19, _, _, _, _, _⟩) el8 rfl _ _ rfl b0 _ _ _ N rfl rfl (by omega) (by omega) (by simp only [maxLen]; omega) hle0 ?_)
  intro w2 H2 hb2
  have HK2 : Kp _ := ⟨HK1.out.below hb2 hlt0⟩
  have hB2 : Below w.heap.size w w2 := hb1.trans (hb2.mono (Nat.le_of_lt hlt0))
  have HC2 : Kp _ := ⟨HC.out.below hB2⟩
  have hs2 : b0 ≤ w2.heap.size := Nat.le_trans hle0 hb2.size
  clear hb1 hb2 HK1 HC
  obtain ⟨K, hK⟩ : ∃ K : Nat, K = (N + 15) / 16 := ⟨_, rfl⟩
  have HKK : Kp (16 * K < N + 16 ∧ N ≤ 16 * K) := ⟨by omega⟩
  have HN : Kp (N ≤ 1048576) := ⟨by omega⟩
  clear hK
  go_wp2_with fail
  refine (makeBox_any w2).mono ?_
  rintro e w3 ⟨rfl, hb3⟩
  have H3 : Hid (w3.ownsRow b0 5 1 (.slice (some ⟨w1.heap.size, 0, none⟩) 0 N) 0 []) := own_below H2 hb3
  have HK3 : Kp _ := ⟨HK2.out.below hb3 HK2.out.lt⟩
  have HC3 : Kp _ := ⟨HC2.out.below hb3⟩
  have hB3 := hB2.trans (hb3.mono hB2.size)
  have hs3 : b0 ≤ w3.heap.size := Nat.le_trans hs2 hb3.size
  have HLb : Kp ((cells8 boxB).length = 256) := ⟨by rw [cells8_length, boxB_length]⟩
  have HZ : Kp (zero256.length = 256) := ⟨by unfold zero256; exact List.length_replicate⟩
  clear hb3 H2 HK2 HC2 hB2 hs2
  go_wp2_with (with_reducible refine wpList_alloc (o := ⟨some 9, _, _, _, _, _⟩) tyTable rfl rfl ?_)
  intro w4 hk4 hb4 hs4
  have H4 : Hid (w4.ownsRow b0 5 1 (.slice (some ⟨w1.heap.size, 0, none⟩) 0 N) 0 []) := own_below H3 hb4
  have HK4 : Kp _ := ⟨HK3.out.below hb4 HK3.out.lt⟩
  have HC4 : Kp _ := ⟨HC3.out.below hb4⟩
  have hB4 := hB3.trans (hb4.mono hB3.size)
  have hs5 : b0 ≤ w4.heap.size := Nat.le_trans hs3 hb4.size
  have HT : Kp _ := ⟨hk4⟩
  have n1 : w1.heap.size < w3.heap.size := by have h := own_some_lt H3; omega
  obtain ⟨gx, hgx⟩ : ∃ g, g = w3.heap.size := ⟨_, rfl⟩
  rw [← hgx] at HT n1 hs3 ⊢
  have n2 : w.heap.size < gx := by omega
  have n3 : gc < gx := by have := HGC.out; omega
  clear hk4 hs4 hb4 hgx H3 HK3 HC3 hB3
  go_wp2_with (refine wpList_storeAll (o := ⟨none, _, _, _, _, _⟩) (vs := cells8 boxB) rwTable rfl (.tmp 9) (.tmp 20) rfl rfl HT.out HZ.out HLb.out (cells8_one _) rfl ?_)
  intro w5 hk5 ho5
  have HX : Kp _ := ⟨hk5⟩
  have H5 : Hid (w5.ownsRow b0 5 1 (.slice (some ⟨w1.heap.size, 0, none⟩) 0 N) 0 []) := own_only H4 ho5 (fun h => by have h2 : w1.heap.size = gx := Option.some.inj h; omega)
  have HK5 : Kp _ := ⟨HK4.out.only ho5 (by omega)⟩
  have HC5 : Kp (Ci w5 gc key) := ⟨⟨HC4.out.blk.only ho5 (by omega)⟩⟩
  have hB5 := hB4.trans (ho5.below (Nat.le_of_lt n2))
  have hs6 : b0 ≤ w5.heap.size := by rw [ho5.size]; exact hs5
  have hbx : b0 ≤ gx := hs3
  have hgl : gx < w5.heap.size := HX.out.lt
  have HNo : (Value.slice (some ⟨w1.heap.size, 0, none⟩) 0 N).ownBlock ≠ some gx := fun h => by have h2 : w1.heap.size = gx := Option.some.inj h; omega
  have HGx : Kp (gx < w5.heap.size) := ⟨hgl⟩
  clear hk5 ho5 HT HZ HLb n1 n3 hs3 hs5 H4 HK4 HC4 hB4 hgl
  go_wp2
  go_step3
  go_wp2
  clear h0 h1
  go_loopg [8, 25] K (fun gk v8 v23 wr => ∃ i : Nat, i + gk = K ∧ v23 = .int .i64 i ∧ 16 * i ≤ N ∧ Hid (wr.ownsRow b0 5 1 v8 (16 * i) (cells8 (strL (strF key at') (16 * i)))) ∧ Kp (Blk wr w.heap.size 31 (cells8 at')) ∧ Kp (Ci wr gc key) ∧ Kp (Blk wr gx 57 (cells8 boxB)) ∧ Below w.heap.size w wr ∧ b0 ≤ wr.heap.size ∧ v8.ownBlock ≠ some gx)
  case atStart => exact ⟨0, by omega, rfl, by omega, H5, HK5, HC5, HX, hB5, hs6, HNo⟩
  case round =>
    clear H5 HK5 HC5 HX hB5 hs6
    obtain ⟨i, hig, rfl, hiN, H, HAt, HCi, HX, hB, hsz, hno⟩ := hrel
    obtain ⟨A8, c8, rfl, hc8⟩ := own_form H.out
    cases gk with
    | zero =>
      have hi2 : i = K := by omega
      have hi3 : ¬ ((i : Int) < ((N : Nat) + 16 - 1 : Int) / 16) := by have := HKK.out; omega
      have hNi : 16 * i = N := by have := HKK.out; omega
      have H3 : Kp (wr.ownsRow w.heap.size 5 1 (.slice A8 (16 * i) c8) N (cells8 (strL (strF key at') N))) := ⟨by have h := own_base H (Nat.le_of_lt hlt0); rw [hNi] at h ⊢; exact h⟩
      clear hNi hi2
      clear H HAt HCi HX hno
      go_wp2
      try rw [Exit.noGoto_ret]
      go_ret
      exact ⟨_, rfl, H3.out, hB⟩
    | succ g2 =>
      have hi2 : (i : Int) < ((N : Nat) + 16 - 1 : Int) / 16 := by have := HKK.out; omega
      obtain ⟨wa, rfl⟩ : ∃ x, x = wr := ⟨wr, rfl⟩
      go_wp2_with fail
      refine wp_region_any (by kernel_rfl) ?_
      change wpAny _ _ _ _ _ _ _ wa.drew
      replace H : Hid (wa.drew.ownsRow b0 5 1 (.slice A8 (16 * i) c8) (16 * i) (cells8 (strL (strF key at') (16 * i)))) := H
      replace HAt : Kp _ := ⟨HAt.out.drew⟩
      replace HCi : Kp (Ci wa.drew gc key) := ⟨⟨HCi.out.blk.drew⟩⟩
      replace HX : Kp _ := ⟨HX.out.drew⟩
      replace hB := hB.drew
      replace hsz : b0 ≤ wa.drew.heap.size := hsz
      generalize wa.drew = wS at *
      refine wpAny_take (i := 1) (oi := ⟨some 29, _, _, _, _, _⟩) (v := ?_) rfl (by kernel_rfl) (by kernel_rfl) (by kernel_rfl) (fun _ _ _ h => h) (Or.inl ⟨by rfl, by intro w; go_simp; try rfl⟩) ?_
      try simp only [Act.put, List.setIfInBounds_toArray, List.set_cons_zero, List.set_cons_succ]
      refine wpAny_take (i := 4) (oi := ⟨some 32, _, _, _, _, _⟩) (v := ?_) rfl (by kernel_rfl) (by kernel_rfl) (by kernel_rfl) (fun _ _ _ h => h) (Or.inl ⟨by rfl, by intro w; go_simp; try rfl⟩) ?_
      try simp only [Act.put, List.setIfInBounds_toArray, List.set_cons_zero, List.set_cons_succ]
      refine wpAny_take (i := 5) (oi := ⟨some 33, _, _, _, _, _⟩) (v := ?_) rfl (by kernel_rfl) (by kernel_rfl) (by kernel_rfl) (fun _ _ _ h => h) (Or.inl ⟨by rfl, by intro w; go_simp; try rfl⟩) ?_
      try simp only [Act.put, List.setIfInBounds_toArray, List.set_cons_zero, List.set_cons_succ]
      refine wpAny_take (i := 6) (oi := ⟨some 34, _, _, _, _, _⟩) (v := ?_) rfl (by kernel_rfl) (by kernel_rfl) (by kernel_rfl) (fun _ _ _ h => h) (Or.inl ⟨by rfl, by intro w; go_simp; try rfl⟩) ?_
      try simp only [Act.put, List.setIfInBounds_toArray, List.set_cons_zero, List.set_cons_succ]
      refine wpAny_take (i := 9) (oi := ⟨some 37, _, _, _, _, _⟩) (v := ?_) rfl (by kernel_rfl) (by kernel_rfl) (by kernel_rfl) (fun _ _ _ h => h) (Or.inl ⟨by rfl, by intro w; go_simp; try rfl⟩) ?_
      try simp only [Act.put, List.setIfInBounds_toArray, List.set_cons_zero, List.set_cons_succ]
      refine wpAny_ready (rs := [0]) (by kernel_rfl) (by simp) ?_
      refine AllReady.cons (o := ⟨some 28, _, _, _, _, _⟩) rfl (fun K hK => ?_) AllReady.nil
      refine step_load rwNonce rfl (.tmp 4) rfl rfl HAt.out (fit_all HLa.out) (take_all HLa.out) ?_
      refine hK _ _ ?_
      clear hK K
      try simp only [Act.put, List.setIfInBounds_toArray, List.set_cons_zero, List.set_cons_succ]
      refine wpAny_ready (rs := [2]) (by kernel_rfl) (by simp) ?_
      refine AllReady.cons (o := ⟨some 30, _, _, _, _, _⟩) rfl (fun K hK => ?_) AllReady.nil
      go_simp
      refine (next_mid at' i wS HA.out (by have := HN.out; omega)).mono ?_
      rintro e wb ⟨rfl, hb'⟩
      refine hK _ _ ?_
      clear hK K
      try simp only [Act.put, List.setIfInBounds_toArray, List.set_cons_zero, List.set_cons_succ]
      replace H : Hid (wb.ownsRow b0 5 1 (.slice A8 (16 * i) c8) (16 * i) (cells8 (strL (strF key at') (16 * i)))) := own_below H hb'
      replace HAt : Kp _ := ⟨HAt.out.below hb' HAt.out.lt⟩
      replace HCi : Kp _ := ⟨HCi.out.below hb'⟩
      replace HX : Kp _ := ⟨HX.out.below hb' HX.out.lt⟩
      replace hB := hB.trans (hb'.mono hB.size)
      replace hsz : b0 ≤ wb.heap.size := Nat.le_trans hsz hb'.size
      clear hb'
      refine wpAny_ready (rs := [3]) (by kernel_rfl) (by simp) ?_
      refine AllReady.cons (o := ⟨some 31, _, _, _, _, _⟩) rfl (fun K hK => ?_) AllReady.nil
      go_simp
      refine (columns_any (nextL at' i) wb (nextL_length _ _)).mono ?_
      rintro e wc ⟨rfl, hb'⟩
      refine hK _ _ ?_
      clear hK K
      try simp only [Act.put, List.setIfInBounds_toArray, List.set_cons_zero, List.set_cons_succ]
      replace H : Hid (wc.ownsRow b0 5 1 (.slice A8 (16 * i) c8) (16 * i) (cells8 (strL (strF key at') (16 * i)))) := own_below H hb'
      replace HAt : Kp _ := ⟨HAt.out.below hb' HAt.out.lt⟩
      replace HCi : Kp _ := ⟨HCi.out.below hb'⟩
      replace HX : Kp _ := ⟨HX.out.below hb' HX.out.lt⟩
      replace hB := hB.trans (hb'.mono hB.size)
      replace hsz : b0 ≤ wc.heap.size := Nat.le_trans hsz hb'.size
      clear hb'
      refine wpAny_ready (rs := [7]) (by kernel_rfl) (by simp) ?_
      refine AllReady.cons (o := ⟨some 35, _, _, _, _, _⟩) rfl (fun K hK => ?_) AllReady.nil
      go_simp
      refine (encipher_any (nextL at' i) gc gx _ _ boxB key wc HCi.out.blk HX.out boxB_length).mono ?_
      rintro e wd ⟨rfl, hb'⟩
      refine hK _ _ ?_
      clear hK K
      try simp only [Act.put, List.setIfInBounds_toArray, List.set_cons_zero, List.set_cons_succ]
      replace H : Hid (wd.ownsRow b0 5 1 (.slice A8 (16 * i) c8) (16 * i) (cells8 (strL (strF key at') (16 * i)))) := own_below H hb'
      replace HAt : Kp _ := ⟨HAt.out.below hb' HAt.out.lt⟩
      replace HCi : Kp _ := ⟨HCi.out.below hb'⟩
      replace HX : Kp _ := ⟨HX.out.below hb' HX.out.lt⟩
      replace hB := hB.trans (hb'.mono hB.size)
      replace hsz : b0 ≤ wd.heap.size := Nat.le_trans hsz hb'.size
      clear hb'
      refine wpAny_ready (rs := [8]) (by kernel_rfl) (by simp) ?_
      refine AllReady.cons (o := ⟨some 36, _, _, _, _, _⟩) rfl (fun K hK => ?_) AllReady.nil
      go_simp
      refine (bytes_any _ wd (blockL_length _ _ _)).mono ?_
      rintro e we ⟨rfl, hb'⟩
      refine hK _ _ ?_
      clear hK K
      try simp only [Act.put, List.setIfInBounds_toArray, List.set_cons_zero, List.set_cons_succ]
      replace H : Hid (we.ownsRow b0 5 1 (.slice A8 (16 * i) c8) (16 * i) (cells8 (strL (strF key at') (16 * i)))) := own_below H hb'
      replace HAt : Kp _ := ⟨HAt.out.below hb' HAt.out.lt⟩
      replace HCi : Kp _ := ⟨HCi.out.below hb'⟩
      replace HX : Kp _ := ⟨HX.out.below hb' HX.out.lt⟩
      replace hB := hB.trans (hb'.mono hB.size)
      replace hsz : b0 ≤ we.heap.size := Nat.le_trans hsz hb'.size
      clear hb'
      refine wpAny_done (by kernel_rfl) ?_ _
      have Hc : Hid (we.ownsRow b0 5 1 (.slice A8 (16 * i) c8) (16 * i + 0) (cells8 (strL (strF key at') (16 * i + 0)))) := H
      clear H
      have HF : Kp ((strF key at' i).length = 16) := ⟨strF_length key at' i⟩
      have HSt : Kp (∀ j (hj : j < (strF key at' i).length), strL (strF key at') (16 * i + (j + 1)) = strL (strF key at') (16 * i + j) ++ [(strF key at' i)[j]]) := ⟨fun j hj => strL_step _ _ _ hj HF.out⟩
      rw [show blockL (keysL boxB key) boxB (nextL at' i) = strF key at' i from rfl]
      generalize strF key at' i = F at *
      go_wp2
      go_loopg [8, 37] 16 (fun g3 v8 v37 wx => ∃ j : Nat, j + g3 = 16 ∧ v37 = .int .i64 j ∧ 16 * i + j ≤ N ∧ Hid (wx.ownsRow b0 5 1 v8 (16 * i + j) (cells8 (strL (strF key at') (16 * i + j)))) ∧ Kp (Blk wx w.heap.size 31 (cells8 at')) ∧ Kp (Ci wx gc key) ∧ Kp (Blk wx gx 57 (cells8 boxB)) ∧ Below w.heap.size w wx ∧ b0 ≤ wx.heap.size ∧ v8.ownBlock ≠ some gx)
      case atStart => exact ⟨0, by omega, rfl, by omega, Hc, HAt, HCi, HX, hB, hsz, hno⟩
      case round =>
        clear Hc HAt HCi HX hB hsz hno
        obtain ⟨j, hjg, rfl, hjN, H, HAt, HCi, HX, hB, hsz, hno⟩ := hrel
        cases gk with
        | zero =>
          obtain rfl : j = 16 := by omega
          obtain ⟨Ak, ck, rfl, _⟩ := own_form H.out
          have H2 : Hid (wr.ownsRow b0 5 1 (.slice Ak (16 * i + 16) ck) (16 * (i + 1)) (cells8 (strL (strF key at') (16 * (i + 1))))) := H
          go_wp2
          go_roundg g2
          case rel => exact ⟨i + 1, by omega, by go_num, by omega, H2, HAt, HCi, HX, hB, hsz, hno⟩
          case measure => omega
        | succ g4 =>
          have hj2 : (j : Int) < 16 := by omega
          have hjF : j < F.length := by rw [HF.out]; omega
          have he : (cells8 F)[j]? = some (.int .u8 (F[j].toNat : Int)) := cells8_at _ j hjF
          have HNx : Kp _ := ⟨HSt.out j hjF⟩
          generalize F[j] = x at *
          obtain ⟨Ak, ck, rfl, hck, hcm, _⟩ := own_form H.out
          by_cases hq : 16 * i + j = N
          · have hq2 : (16 * (i : Int) + (j : Int) == (N : Nat)) = true := by rw [beq_iff_eq]; omega
            have H3 : Kp (wr.ownsRow w.heap.size 5 1 (.slice Ak N ck) N (cells8 (strL (strF key at') N))) := ⟨by have h := own_base H.out (Nat.le_of_lt hlt0); rw [hq] at h; exact h⟩
            clear H HNx HSt HAt HCi HX hno
            go_wp2_with (with_reducible refine wpList_index (o := ⟨some 39, _, _, _, _, _⟩) und16 plain8 rfl _ _ rfl rfl rfl j rfl (by omega) he ?_)
            try rw [Exit.noGoto_ret]
            go_ret
            exact ⟨_, rfl, H3.out, hB⟩
          · have hq2 : (16 * (i : Int) + (j : Int) == (N : Nat)) = false := by rw [beq_eq_false_iff_ne]; omega
            go_wp2_with (first
              | (with_reducible refine wpList_index (o := ⟨some 39, _, _, _, _, _⟩) und16 plain8 rfl _ _ rfl rfl rfl j rfl (by omega) he ?_)
              | (at_builtin; refine wpList_app1 el8 rfl _ _ rfl b0 _ (16 * i + j) _ rfl H.out rfl rfl (by simp only [maxLen]; omega) (by have := HN.out; omega) hsz ?_))
            intro v' w' H' hb' hot hwh
            have hgl := HX.out.lt
            have HX2 : Kp (Blk w' gx 57 (cells8 boxB)) := ⟨⟨(hot gx hno hgl).trans HX.out.heap⟩⟩
            have hno2 : v'.ownBlock ≠ some gx := by
              rcases hwh with h | ⟨g, h, hg⟩
              · rw [h]; exact hno
              · rw [h]; intro h2; injection h2 with h2; omega
            have H2 : Hid (w'.ownsRow b0 5 1 v' (16 * i + (j + 1)) (cells8 (strL (strF key at') (16 * i + (j + 1))))) := by
              show World.ownsRow _ _ _ _ _ _ _
              rw [HNx.out, cells8_append]
              exact H'.out
            have HA2 : Kp _ := ⟨HAt.out.below hb' hlt0⟩
            have HC2 : Kp (Ci w' gc key) := ⟨⟨HCi.out.blk.below hb' (by have := HGC.out; omega)⟩⟩
            have hB2 : Below w.heap.size w w' := hB.trans (hb'.mono (Nat.le_of_lt hlt0))
            have hs2 : b0 ≤ w'.heap.size := Nat.le_trans hsz hb'.size
            clear H H' HNx HAt HCi HX hB hsz hb' hot hwh hno hgl
            go_wp2
            go_roundg g4
            case rel => exact ⟨j + 1, by omega, by go_num, by omega, H2, HA2, HC2, HX2, hB2, hs2, hno2⟩
            case measure => omega
set_option maxRecDepth 100000 in
set_option maxHeartbeats 4000000 in
theorem stream_neg (gc : Nat) (key at' : List UInt8) (n : Int) (w : World) (hc : Ci w gc key) (ha : at'.length = 16) (hn : n < 0) :
    Calls Try.prog 24 #[.pointer (some ⟨gc, 0, none⟩), .agg (cells8 at').toArray, .int .i64 n] w fun e w' => ∃ v, e = .returned v ∧ w'.ownsRow w.heap.size 5 1 v 0 (cells8 (strL (strF key at') 0)) ∧ Below w.heap.size w w' := by
  have HC : Kp _ := ⟨hc⟩
  have HA : Kp _ := ⟨ha⟩
  have HGC : Kp (gc < w.heap.size) := ⟨hc.blk.lt⟩
  have HLa : Kp ((cells8 at').length = 16) := ⟨by rw [cells8_length]; exact ha⟩
  clear hc ha
  go_enter Try.func24, Try.ntmps24
  go_wp2_with (with_reducible refine wpList_box (o := ⟨some 4, _, _, _, _, _⟩) rfl (.tmp 1) rfl rfl ?_)
  intro w1 hk1 hb1 hs1
  have HK1 : Kp _ := ⟨hk1⟩
  clear hk1 hs1
  go_wp2
  go_step3
  obtain ⟨b0, hb0⟩ : ∃ b, b = w1.heap.size := ⟨_, rfl⟩
  have hlt0 : w.heap.size < b0 := by rw [hb0]; exact HK1.out.lt
  have hle0 : b0 ≤ w1.heap.size := by rw [hb0]; exact Nat.le_refl _
  clear hb0
  go_wp2_with (with_reducible refine wpList_mk0 (o := ⟨some 19, _, _, _, _, _⟩) el8 rfl _ _ rfl b0 _ _ _ 0 rfl rfl (by omega) (by omega) (by simp only [maxLen]; omega) hle0 ?_)
  intro w2 H2 hb2
  have HK2 : Kp _ := ⟨HK1.out.below hb2 hlt0⟩
  have hB2 : Below w.heap.size w w2 := hb1.trans (hb2.mono (Nat.le_of_lt hlt0))
  have HC2 : Kp _ := ⟨HC.out.below hB2⟩
  have hs2 : b0 ≤ w2.heap.size := Nat.le_trans hle0 hb2.size
  clear hb1 hb2 HK1 HC
  obtain ⟨K, hK⟩ : ∃ K : Nat, K = (0 + 15) / 16 := ⟨_, rfl⟩
  have HKK : Kp (16 * K < 0 + 16 ∧ 0 ≤ 16 * K) := ⟨by omega⟩
  have HN : Kp (0 ≤ 1048576) := ⟨by omega⟩
  clear hK
  go_wp2_with fail
  refine (makeBox_any w2).mono ?_
  rintro e w3 ⟨rfl, hb3⟩
  have H3 : Hid (w3.ownsRow b0 5 1 (.slice (some ⟨w1.heap.size, 0, none⟩) 0 0) 0 []) := own_below H2 hb3
  have HK3 : Kp _ := ⟨HK2.out.below hb3 HK2.out.lt⟩
  have HC3 : Kp _ := ⟨HC2.out.below hb3⟩
  have hB3 := hB2.trans (hb3.mono hB2.size)
  have hs3 : b0 ≤ w3.heap.size := Nat.le_trans hs2 hb3.size
  have HLb : Kp ((cells8 boxB).length = 256) := ⟨by rw [cells8_length, boxB_length]⟩
  have HZ : Kp (zero256.length = 256) := ⟨by unfold zero256; exact List.length_replicate⟩
  clear hb3 H2 HK2 HC2 hB2 hs2
  go_wp2_with (with_reducible refine wpList_alloc (o := ⟨some 9, _, _, _, _, _⟩) tyTable rfl rfl ?_)
  intro w4 hk4 hb4 hs4
  have H4 : Hid (w4.ownsRow b0 5 1 (.slice (some ⟨w1.heap.size, 0, none⟩) 0 0) 0 []) := own_below H3 hb4
  have HK4 : Kp _ := ⟨HK3.out.below hb4 HK3.out.lt⟩
  have HC4 : Kp _ := ⟨HC3.out.below hb4⟩
  have hB4 := hB3.trans (hb4.mono hB3.size)
  have hs5 : b0 ≤ w4.heap.size := Nat.le_trans hs3 hb4.size
  have HT : Kp _ := ⟨hk4⟩
  have n1 : w1.heap.size < w3.heap.size := by have h := own_some_lt H3; omega
  obtain ⟨gx, hgx⟩ : ∃ g, g = w3.heap.size := ⟨_, rfl⟩
  rw [← hgx] at HT n1 hs3 ⊢
  have n2 : w.heap.size < gx := by omega
  have n3 : gc < gx := by have := HGC.out; omega
  clear hk4 hs4 hb4 hgx H3 HK3 HC3 hB3
  go_wp2_with (refine wpList_storeAll (o := ⟨none, _, _, _, _, _⟩) (vs := cells8 boxB) rwTable rfl (.tmp 9) (.tmp 20) rfl rfl HT.out HZ.out HLb.out (cells8_one _) rfl ?_)
  intro w5 hk5 ho5
  have HX : Kp _ := ⟨hk5⟩
  have H5 : Hid (w5.ownsRow b0 5 1 (.slice (some ⟨w1.heap.size, 0, none⟩) 0 0) 0 []) := own_only H4 ho5 (fun h => by have h2 : w1.heap.size = gx := Option.some.inj h; omega)
  have HK5 : Kp _ := ⟨HK4.out.only ho5 (by omega)⟩
  have HC5 : Kp (Ci w5 gc key) := ⟨⟨HC4.out.blk.only ho5 (by omega)⟩⟩
  have hB5 := hB4.trans (ho5.below (Nat.le_of_lt n2))
  have hs6 : b0 ≤ w5.heap.size := by rw [ho5.size]; exact hs5
  have hbx : b0 ≤ gx := hs3
  have hgl : gx < w5.heap.size := HX.out.lt
  have HNo : (Value.slice (some ⟨w1.heap.size, 0, none⟩) 0 0).ownBlock ≠ some gx := fun h => by have h2 : w1.heap.size = gx := Option.some.inj h; omega
  have HGx : Kp (gx < w5.heap.size) := ⟨hgl⟩
  clear hk5 ho5 HT HZ HLb n1 n3 hs3 hs5 H4 HK4 HC4 hB4 hgl
  go_wp2
  go_step3
  go_wp2
  go_loopg [8, 25] K (fun gk v8 v23 wr => ∃ i : Nat, i + gk = K ∧ v23 = .int .i64 i ∧ 16 * i ≤ 0 ∧ Hid (wr.ownsRow b0 5 1 v8 (16 * i) (cells8 (strL (strF key at') (16 * i)))) ∧ Kp (Blk wr w.heap.size 31 (cells8 at')) ∧ Kp (Ci wr gc key) ∧ Kp (Blk wr gx 57 (cells8 boxB)) ∧ Below w.heap.size w wr ∧ b0 ≤ wr.heap.size ∧ v8.ownBlock ≠ some gx)
  case atStart => exact ⟨0, by omega, rfl, by omega, H5, HK5, HC5, HX, hB5, hs6, HNo⟩
  case round =>
    clear H5 HK5 HC5 HX hB5 hs6
    obtain ⟨i, hig, rfl, hiN, H, HAt, HCi, HX, hB, hsz, hno⟩ := hrel
    obtain ⟨A8, c8, rfl, hc8⟩ := own_form H.out
    cases gk with
    | zero =>
      have hi2 : i = K := by omega
      have hi3 : ¬ ((i : Int) < ((0 : Nat) + 16 - 1 : Int) / 16) := by have := HKK.out; omega
      have hNi : 16 * i = 0 := by have := HKK.out; omega
      have H3 : Kp (wr.ownsRow w.heap.size 5 1 (.slice A8 (16 * i) c8) 0 (cells8 (strL (strF key at') 0))) := ⟨by have h := own_base H (Nat.le_of_lt hlt0); rw [hNi] at h ⊢; exact h⟩
      clear hNi hi2
      clear H HAt HCi HX hno
      go_wp2
      try rw [Exit.noGoto_ret]
      go_ret
      exact ⟨_, rfl, H3.out, hB⟩
    | succ g2 =>
      exfalso
      have := HKK.out
      omega
theorem stream_any (gc : Nat) (key at' : List UInt8) (n : Int) (w : World) (hc : Ci w gc key) (ha : at'.length = 16) (hn : n ≤ 1048576) :
    Calls Try.prog 24 #[.pointer (some ⟨gc, 0, none⟩), .agg (cells8 at').toArray, .int .i64 n] w fun e w' => ∃ v, e = .returned v ∧ w'.ownsRow w.heap.size 5 1 v n.toNat (cells8 (strL (strF key at') n.toNat)) ∧ Below w.heap.size w w' := by
  by_cases h : n < 0
  · have e : n.toNat = 0 := by omega
    rw [e]; exact stream_neg gc key at' n w hc ha h
  · obtain ⟨N, rfl⟩ : ∃ N : Nat, n = N := ⟨n.toNat, by omega⟩
    have e : ((N : Int)).toNat = N := by omega
    rw [e]; exact stream_mid gc key at' N w hc ha (by omega)
end Go.Proofs.Ytleplilcpcgacaa
