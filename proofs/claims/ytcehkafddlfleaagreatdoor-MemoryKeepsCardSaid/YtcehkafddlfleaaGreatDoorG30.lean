/- 
    -/
import Derived.Test.YtcehkafddlfleaaGreatDoorG02
import Derived.Test.YtcehkafddlfleaaGreatDoorG26
import Derived.Test.YtcehkafddlfleaaGreatDoorG01
import Derived.Test.YtcehkafddlfleaaGreatDoorG14
import Derived.Deep.LoopGhost
import Derived.Test.YtcehkafddlfleaaGreatDoorG06
import Derived.StillTailTactics
namespace Go.Proofs.YtcehkafddlfleaaGreatDoor
open Go.RowKit
theorem own_base4 {w : World} {b base : Nat} {e : TypeId} {v : Value} {n : Nat} {xs : List Value} (h : w.ownsRow base e 1 v n xs) (hb : b ≤ base) : w.ownsRow b e 1 v n xs := by
 refine ⟨h.1, ?_⟩
 rcases h.2 with ⟨rfl, rfl⟩ | ⟨g, cap, cur, rfl, hg, hh, hn, hm, hs, ht⟩
 ·exact .inl ⟨rfl, rfl⟩
 ·exact .inr ⟨g, cap, cur, rfl, Nat.le_trans hb hg, hh, hn, hm, hs, ht⟩
theorem und16 : Tryz.prog.underlying 72 = some (.array 16 5) := by kernel_rfl
theorem own_some_lt {w : World} {base g n c : Nat} {e : TypeId} {xs : List Value} (h : w.ownsRow base e 1 (.slice (some ⟨g, 0, none⟩) n c) n xs) : g < w.heap.size := by
 obtain ⟨A, c', e1, _, _, _, hs⟩ := own_form h
 injection e1 with e2 _ _
 obtain ⟨g', e3, _, h4⟩ := hs _ e2.symm
 injection e3 with e4
 omega
theorem own_only4 {w w' : World} {base gx n : Nat} {e : TypeId} {v : Value} {xs : List Value} (h : w.ownsRow base e 1 v n xs) (ho : Only gx w w') (hne : v.ownBlock ≠ some gx) : w'.ownsRow base e 1 v n xs :=
 h.kept (row := some gx) ⟨ho.os, ho.tape, ho.output, by rw [ho.size]; exact Nat.le_refl _, fun k _ hk => ho.block k (fun e => hk (by rw [e]))⟩ (.inr hne)
def strL (f : Nat → List UInt8) (n : Nat) : List UInt8 := (List.range n).map fun p => (f (p / 16)).getD (p % 16) 0
theorem strL_length (f : Nat → List UInt8) (n : Nat) : (strL f n).length = n := by simp [strL]
theorem strL_succ (f : Nat → List UInt8) (n : Nat) : strL f (n + 1) = strL f n ++ [(f (n / 16)).getD (n % 16) 0] := by simp [strL, List.range_succ]
theorem strL_step (f : Nat → List UInt8) (i j : Nat) (hj : j < (f i).length) (h : (f i).length = 16) : strL f (16 * i + (j + 1)) = strL f (16 * i + j) ++ [(f i)[j]] := by
 rw [show 16 * i + (j + 1) = (16 * i + j) + 1 by omega, strL_succ, show (16 * i + j) / 16 = i by omega, show (16 * i + j) % 16 = j by omega]
 simp [List.getD, List.getElem?_eq_getElem hj]
def strF (key at' : List UInt8) (i : Nat) : List UInt8 := blockL (keysL boxB key) boxB (nextL at' i)
theorem strF_length (key at' : List UInt8) (i : Nat) : (strF key at' i).length = 16 := blockL_length _ _ _
set_option maxRecDepth 100000 in
set_option maxHeartbeats 4000000 in
theorem stream_mid (gc : Nat) (key at' : List UInt8) (N : Nat) (w : World) (hc : Ci w gc key) (ha : at'.length = 16) (hN : N ≤ 1048576) :
  Calls Tryz.prog 234 #[.pointer (some ⟨gc, 0, none⟩), .agg (cells8 at').toArray, .int .i64 (N : Int)] w fun e w' => ∃ v, e = .returned v ∧ w'.ownsRow w.heap.size 5 1 v N (cells8 (strL (strF key at') N)) ∧ Below w.heap.size w w' := by
 have HC : Kp _ := ⟨hc⟩
 have HA : Kp _ := ⟨ha⟩
 have HGC : Kp (gc < w.heap.size) := ⟨hc.blk.lt⟩
 have HLa : Kp ((cells8 at').length = 16) := ⟨by rw [cells8_length]; exact ha⟩
 clear hc ha
 go_enter Tryz.func234, Tryz.ntmps234
 go_wp2_with (with_reducible refine wpList_box (o := ⟨some 4, _, _, _, _, _⟩) rfl (.tmp 1) rfl rfl ?_)
 intro w1 hk1 hb1 hs1
 have HK1 : Kp _ := ⟨hk1⟩
 clear hk1 hs1
 have h0 : (0 : Int) ≤ (N : Int) := by omega
 have h1 : (N : Int) ≤ 1048576 := by omega
 go_wp2
 go_step3
 obtain ⟨b0, hb0⟩ : ∃ b, b = w1.heap.size := ⟨_, rfl⟩
 have hlt0 : w.heap.size < b0 := by rw [hb0]; exact HK1.out.lt
 have hle0 : b0 ≤ w1.heap.size := by rw [hb0]; exact Nat.le_refl _
 clear hb0
 go_wp2_with (with_reducible refine wpList_mk0 (o := ⟨some 19, _, _, _, _, _⟩) el8 rfl _ _ rfl b0 _ _ _ N rfl rfl (by omega) (by omega) (by simp only [maxLen]; omega) hle0 ?_)
 intro w2 H2 hb2
 have HK2 : Kp _ := ⟨HK1.out.below hb2 hlt0⟩
 have hB2 : Below w.heap.size w w2 := hb1.trans (hb2.mono (Nat.le_of_lt hlt0))
 have HC2 : Kp _ := ⟨HC.out.below hB2⟩
 have hs2 : b0 ≤ w2.heap.size := Nat.le_trans hle0 hb2.size
 clear hb1 hb2 HK1 HC
 obtain ⟨K, hK⟩ : ∃ K : Nat, K = (N + 15) / 16 := ⟨_, rfl⟩
 have HKK : Kp (16 * K < N + 16 ∧ N ≤ 16 * K) := ⟨by omega⟩
 have HN : Kp (N ≤ 1048576) := ⟨by omega⟩
 clear hK
 go_wp2_with fail
 refine (makeBox_any w2).mono ?_
 rintro e w3 ⟨rfl, hb3⟩
 have H3 : Hid (w3.ownsRow b0 5 1 (.slice (some ⟨w1.heap.size, 0, none⟩) 0 N) 0 []) := own_below H2 hb3
 have HK3 : Kp _ := ⟨HK2.out.below hb3 HK2.out.lt⟩
 have HC3 : Kp _ := ⟨HC2.out.below hb3⟩
 have hB3 := hB2.trans (hb3.mono hB2.size)
 have hs3 : b0 ≤ w3.heap.size := Nat.le_trans hs2 hb3.size
 have HLb : Kp ((cells8 boxB).length = 256) := ⟨by rw [cells8_length, boxB_length]⟩
 have HZ : Kp (zero256.length = 256) := ⟨by unfold zero256; exact List.length_replicate⟩
 clear hb3 H2 HK2 HC2 hB2 hs2
 go_wp2_with (with_reducible refine wpList_alloc (o := ⟨some 9, _, _, _, _, _⟩) tyTable rfl rfl ?_)
 intro w4 hk4 hb4 hs4
 have H4 : Hid (w4.ownsRow b0 5 1 (.slice (some ⟨w1.heap.size, 0, none⟩) 0 N) 0 []) := own_below H3 hb4
 have HK4 : Kp _ := ⟨HK3.out.below hb4 HK3.out.lt⟩
 have HC4 : Kp _ := ⟨HC3.out.below hb4⟩
 have hB4 := hB3.trans (hb4.mono hB3.size)
 have hs5 : b0 ≤ w4.heap.size := Nat.le_trans hs3 hb4.size
 have HT : Kp _ := ⟨hk4⟩
 have n1 : w1.heap.size < w3.heap.size := by have h := own_some_lt H3; omega
 obtain ⟨gx, hgx⟩ : ∃ g, g = w3.heap.size := ⟨_, rfl⟩
 rw [← hgx] at HT n1 hs3 ⊢
 have n2 : w.heap.size < gx := by omega
 have n3 : gc < gx := by have := HGC.out; omega
 clear hk4 hs4 hb4 hgx H3 HK3 HC3 hB3
 go_wp2_with (refine wpList_storeAll (o := ⟨none, _, _, _, _, _⟩) (vs := cells8 boxB) rwTable rfl (.tmp 9) (.tmp 20) rfl rfl HT.out HZ.out HLb.out (cells8_one _) rfl ?_)
 intro w5 hk5 ho5
 have HX : Kp _ := ⟨hk5⟩
 have H5 : Hid (w5.ownsRow b0 5 1 (.slice (some ⟨w1.heap.size, 0, none⟩) 0 N) 0 []) := own_only4 H4 ho5 (fun h => by have h2 : w1.heap.size = gx := Option.some.inj h; omega)
 have HK5 : Kp _ := ⟨HK4.out.only ho5 (by omega)⟩
 have HC5 : Kp (Ci w5 gc key) := ⟨⟨HC4.out.blk.only ho5 (by omega)⟩⟩
 have hB5 := hB4.trans (ho5.below (Nat.le_of_lt n2))
 have hs6 : b0 ≤ w5.heap.size := by rw [ho5.size]; exact hs5
 have hbx : b0 ≤ gx := hs3
 have hgl : gx < w5.heap.size := HX.out.lt
 have HNo : (Value.slice (some ⟨w1.heap.size, 0, none⟩) 0 N).ownBlock ≠ some gx := fun h => by have h2 : w1.heap.size = gx := Option.some.inj h; omega
 have HGx : Kp (gx < w5.heap.size) := ⟨hgl⟩
 clear hk5 ho5 HT HZ HLb n1 n3 hs3 hs5 H4 HK4 HC4 hB4 hgl
 go_wp2
 go_step3
 go_wp2
 clear h0 h1
 go_loopg [8, 25] K (fun gk v8 v23 wr => ∃ i : Nat, i + gk = K ∧ v23 = .int .i64 i ∧ 16 * i ≤ N ∧ Hid (wr.ownsRow b0 5 1 v8 (16 * i) (cells8 (strL (strF key at') (16 * i)))) ∧ Kp (Blk wr w.heap.size 73 (cells8 at')) ∧ Kp (Ci wr gc key) ∧ Kp (Blk wr gx 340 (cells8 boxB)) ∧ Below w.heap.size w wr ∧ b0 ≤ wr.heap.size ∧ v8.ownBlock ≠ some gx)
 case atStart => exact ⟨0, by omega, rfl, by omega, H5, HK5, HC5, HX, hB5, hs6, HNo⟩
 case round =>
  clear H5 HK5 HC5 HX hB5 hs6
  obtain ⟨i, hig, rfl, hiN, H, HAt, HCi, HX, hB, hsz, hno⟩ := hrel
  obtain ⟨A8, c8, rfl, hc8⟩ := own_form H.out
  cases gk with
  | zero =>
   have hi2 : i = K := by omega
   have hi3 : ¬ ((i : Int) < ((N : Nat) + 16 - 1 : Int) / 16) := by have := HKK.out; omega
   have hNi : 16 * i = N := by have := HKK.out; omega
   have H3 : Kp (wr.ownsRow w.heap.size 5 1 (.slice A8 (16 * i) c8) N (cells8 (strL (strF key at') N))) := ⟨by have h := own_base4 H (Nat.le_of_lt hlt0); rw [hNi] at h ⊢; exact h⟩
   clear hNi hi2
   clear H HAt HCi HX hno
   go_wp2
   try rw [Exit.noGoto_ret]
   go_ret
   exact ⟨_, rfl, H3.out, hB⟩
  | succ g2 =>
   have hi2 : (i : Int) < ((N : Nat) + 16 - 1 : Int) / 16 := by have := HKK.out; omega
   obtain ⟨wa, rfl⟩ : ∃ x, x = wr := ⟨wr, rfl⟩
   go_wp2_with fail
   refine wp_region_any (by kernel_rfl) ?_
   change wpAny _ _ _ _ _ _ _ wa.drew
   replace H : Hid (wa.drew.ownsRow b0 5 1 (.slice A8 (16 * i) c8) (16 * i) (cells8 (strL (strF key at') (16 * i)))) := H
   replace HAt : Kp _ := ⟨HAt.out.drew⟩
   replace HCi : Kp (Ci wa.drew gc key) := ⟨⟨HCi.out.blk.drew⟩⟩
   replace HX : Kp _ := ⟨HX.out.drew⟩
   replace hB := hB.drew
   replace hsz : b0 ≤ wa.drew.heap.size := hsz
   generalize wa.drew = wS at *
   refine wT 1 29 ?_ rfl ?_
   try simp only [Act.put, sA, sB, sC]
   refine wT 4 32 ?_ rfl ?_
   try simp only [Act.put, sA, sB, sC]
   refine wT 5 33 ?_ rfl ?_
   try simp only [Act.put, sA, sB, sC]
   refine wT 6 34 ?_ rfl ?_
   try simp only [Act.put, sA, sB, sC]
   refine wT 9 37 ?_ rfl ?_
   try simp only [Act.put, sA, sB, sC]
   refine rK [0] ?_
   refine aR 28 rfl fun K hK => ?_
   refine step_load rwNonce rfl (.tmp 4) rfl rfl HAt.out (fit_all HLa.out) (take_all HLa.out) ?_
   refine hK _ _ ?_
   clear hK K
   try simp only [Act.put, sA, sB, sC]
   refine rK [2] ?_
   refine aR 30 rfl fun K hK => ?_
   go_simp
   refine (next_mid at' i wS HA.out (by have := HN.out; omega)).mono ?_
   rintro e wb ⟨rfl, hb'⟩
   refine hK _ _ ?_
   clear hK K
   try simp only [Act.put, sA, sB, sC]
   replace H : Hid (wb.ownsRow b0 5 1 (.slice A8 (16 * i) c8) (16 * i) (cells8 (strL (strF key at') (16 * i)))) := own_below H hb'
   replace HAt : Kp _ := ⟨HAt.out.below hb' HAt.out.lt⟩
   replace HCi : Kp _ := ⟨HCi.out.below hb'⟩
   replace HX : Kp _ := ⟨HX.out.below hb' HX.out.lt⟩
   replace hB := hB.trans (hb'.mono hB.size)
   replace hsz : b0 ≤ wb.heap.size := Nat.le_trans hsz hb'.size
   clear hb'
   refine rK [3] ?_
   refine aR 31 rfl fun K hK => ?_
   go_simp
   refine (columns_any (nextL at' i) wb (nextL_length _ _)).mono ?_
   rintro e wc ⟨rfl, hb'⟩
   refine hK _ _ ?_
   clear hK K
   try simp only [Act.put, sA, sB, sC]
   replace H : Hid (wc.ownsRow b0 5 1 (.slice A8 (16 * i) c8) (16 * i) (cells8 (strL (strF key at') (16 * i)))) := own_below H hb'
   replace HAt : Kp _ := ⟨HAt.out.below hb' HAt.out.lt⟩
   replace HCi : Kp _ := ⟨HCi.out.below hb'⟩
   replace HX : Kp _ := ⟨HX.out.below hb' HX.out.lt⟩
   replace hB := hB.trans (hb'.mono hB.size)
   replace hsz : b0 ≤ wc.heap.size := Nat.le_trans hsz hb'.size
   clear hb'
   refine rK [7] ?_
   refine aR 35 rfl fun K hK => ?_
   go_simp
   refine (encipher_any (nextL at' i) gc gx _ _ boxB key wc HCi.out.blk HX.out boxB_length).mono ?_
   rintro e wd ⟨rfl, hb'⟩
   refine hK _ _ ?_
   clear hK K
   try simp only [Act.put, sA, sB, sC]
   replace H : Hid (wd.ownsRow b0 5 1 (.slice A8 (16 * i) c8) (16 * i) (cells8 (strL (strF key at') (16 * i)))) := own_below H hb'
   replace HAt : Kp _ := ⟨HAt.out.below hb' HAt.out.lt⟩
   replace HCi : Kp _ := ⟨HCi.out.below hb'⟩
   replace HX : Kp _ := ⟨HX.out.below hb' HX.out.lt⟩
   replace hB := hB.trans (hb'.mono hB.size)
   replace hsz : b0 ≤ wd.heap.size := Nat.le_trans hsz hb'.size
   clear hb'
   refine rK [8] ?_
   refine aR 36 rfl fun K hK => ?_
   go_simp
   refine (bytes_any _ wd (blockL_length _ _ _)).mono ?_
   rintro e we ⟨rfl, hb'⟩
   refine hK _ _ ?_
   clear hK K
   try simp only [Act.put, sA, sB, sC]
   replace H : Hid (we.ownsRow b0 5 1 (.slice A8 (16 * i) c8) (16 * i) (cells8 (strL (strF key at') (16 * i)))) := own_below H hb'
   replace HAt : Kp _ := ⟨HAt.out.below hb' HAt.out.lt⟩
   replace HCi : Kp _ := ⟨HCi.out.below hb'⟩
   replace HX : Kp _ := ⟨HX.out.below hb' HX.out.lt⟩
   replace hB := hB.trans (hb'.mono hB.size)
   replace hsz : b0 ≤ we.heap.size := Nat.le_trans hsz hb'.size
   clear hb'
   refine wpAny_done (by kernel_rfl) ?_ _
   have Hc : Hid (we.ownsRow b0 5 1 (.slice A8 (16 * i) c8) (16 * i + 0) (cells8 (strL (strF key at') (16 * i + 0)))) := H
   clear H
   have HF : Kp ((strF key at' i).length = 16) := ⟨strF_length key at' i⟩
   have HSt : Kp (∀ j (hj : j < (strF key at' i).length), strL (strF key at') (16 * i + (j + 1)) = strL (strF key at') (16 * i + j) ++ [(strF key at' i)[j]]) := ⟨fun j hj => strL_step _ _ _ hj HF.out⟩
   rw [show blockL (keysL boxB key) boxB (nextL at' i) = strF key at' i from rfl]
   generalize strF key at' i = F at *
   go_wp2
   go_loopg [8, 37] 16 (fun g3 v8 v37 wx => ∃ j : Nat, j + g3 = 16 ∧ v37 = .int .i64 j ∧ 16 * i + j ≤ N ∧ Hid (wx.ownsRow b0 5 1 v8 (16 * i + j) (cells8 (strL (strF key at') (16 * i + j)))) ∧ Kp (Blk wx w.heap.size 73 (cells8 at')) ∧ Kp (Ci wx gc key) ∧ Kp (Blk wx gx 340 (cells8 boxB)) ∧ Below w.heap.size w wx ∧ b0 ≤ wx.heap.size ∧ v8.ownBlock ≠ some gx)
   case atStart => exact ⟨0, by omega, rfl, by omega, Hc, HAt, HCi, HX, hB, hsz, hno⟩
   case round =>
    clear Hc HAt HCi HX hB hsz hno
    obtain ⟨j, hjg, rfl, hjN, H, HAt, HCi, HX, hB, hsz, hno⟩ := hrel
    cases gk with
    | zero =>
     obtain rfl : j = 16 := by omega
     obtain ⟨Ak, ck, rfl, _⟩ := own_form H.out
     have H2 : Hid (wr.ownsRow b0 5 1 (.slice Ak (16 * i + 16) ck) (16 * (i + 1)) (cells8 (strL (strF key at') (16 * (i + 1))))) := H
     go_wp2
     go_roundg g2
     case rel => exact ⟨i + 1, by omega, by go_num, by omega, H2, HAt, HCi, HX, hB, hsz, hno⟩
     case measure => omega
    | succ g4 =>
     have hj2 : (j : Int) < 16 := by omega
     have hjF : j < F.length := by rw [HF.out]; omega
     have he : (cells8 F)[j]? = some (.int .u8 (F[j].toNat : Int)) := cells8_at _ j hjF
     have HNx : Kp _ := ⟨HSt.out j hjF⟩
     generalize F[j] = x at *
     obtain ⟨Ak, ck, rfl, hck, hcm, _⟩ := own_form H.out
     by_cases hq : 16 * i + j = N
     ·have hq2 : (16 * (i : Int) + (j : Int) == (N : Nat)) = true := by rw [beq_iff_eq]; omega
      have H3 : Kp (wr.ownsRow w.heap.size 5 1 (.slice Ak N ck) N (cells8 (strL (strF key at') N))) := ⟨by have h := own_base4 H.out (Nat.le_of_lt hlt0); rw [hq] at h; exact h⟩
      clear H HNx HSt HAt HCi HX hno
      go_wp2_with (with_reducible refine wpList_index (o := ⟨some 39, _, _, _, _, _⟩) und16 plain84 rfl _ _ rfl rfl rfl j rfl (by omega) he ?_)
      try rw [Exit.noGoto_ret]
      go_ret
      exact ⟨_, rfl, H3.out, hB⟩
     ·have hq2 : (16 * (i : Int) + (j : Int) == (N : Nat)) = false := by rw [beq_eq_false_iff_ne]; omega
      go_wp2_with (first
       | (with_reducible refine wpList_index (o := ⟨some 39, _, _, _, _, _⟩) und16 plain84 rfl _ _ rfl rfl rfl j rfl (by omega) he ?_)
       | (at_builtin; refine wpList_app1 el8 rfl _ _ rfl b0 _ (16 * i + j) _ rfl H.out rfl rfl (by simp only [maxLen]; omega) (by have := HN.out; omega) hsz ?_))
      intro v' w' H' hb' hot hwh
      have hgl := HX.out.lt
      have HX2 : Kp (Blk w' gx 340 (cells8 boxB)) := ⟨⟨(hot gx hno hgl).trans HX.out.heap⟩⟩
      have hno2 : v'.ownBlock ≠ some gx := by
       rcases hwh with h | ⟨g, h, hg⟩
       ·rw [h]; exact hno
       ·rw [h]; intro h2; injection h2 with h2; omega
      have H2 : Hid (w'.ownsRow b0 5 1 v' (16 * i + (j + 1)) (cells8 (strL (strF key at') (16 * i + (j + 1))))) := by
       show World.ownsRow _ _ _ _ _ _ _
       rw [HNx.out, cells8_append]
       exact H'.out
      have HA2 : Kp _ := ⟨HAt.out.below hb' hlt0⟩
      have HC2 : Kp (Ci w' gc key) := ⟨⟨HCi.out.blk.below hb' (by have := HGC.out; omega)⟩⟩
      have hB2 : Below w.heap.size w w' := hB.trans (hb'.mono (Nat.le_of_lt hlt0))
      have hs2 : b0 ≤ w'.heap.size := Nat.le_trans hsz hb'.size
      clear H H' HNx HAt HCi HX hB hsz hb' hot hwh hno hgl
      go_wp2
      go_roundg g4
      case rel => exact ⟨j + 1, by omega, by go_num, by omega, H2, HA2, HC2, HX2, hB2, hs2, hno2⟩
      case measure => omega
end Go.Proofs.YtcehkafddlfleaaGreatDoor

namespace Go.Proofs.YtcehkafddlfleaaGreatDoor
open Go.RowKit
def partU (f s : Nat → UInt8) (n k : Nat) : List UInt8 := (List.range n).map fun j => if j < k then f j else s j
section
variable (f s : Nat → UInt8) (n k : Nat)
theorem partU_length : (partU f s n k).length = n := by simp [partU]
theorem partU_set : (cells8 (partU f s n k)).set k (.int .u8 ((f k).toNat : Int)) = cells8 (partU f s n (k + 1)) := by
 have e : (partU f s n k).set k (f k) = partU f s n (k + 1) := by
  refine List.ext_getElem (by rw [List.length_set, partU_length, partU_length]) fun i h1 h2 => ?_
  rw [List.getElem_set]
  simp only [partU, List.getElem_map, List.getElem_range]
  by_cases hi : k = i
  ·subst hi; simp
  ·rw [if_neg hi]
   by_cases h3 : i < k
   ·rw [if_pos h3, if_pos (by omega)]
   ·rw [if_neg h3, if_neg (by omega)]
 rw [← e]
 unfold cells8
 rw [List.map_set]
theorem partU_at (h : k < n) : (cells8 (partU f s n k))[k]? = some (.int .u8 ((s k).toNat : Int)) := by
 simp [cells8, partU, List.getElem?_map, List.getElem?_range h]
theorem partU_done : partU f s n n = (List.range n).map f := by
 unfold partU
 refine List.map_congr_left fun j hj => ?_
 rw [if_pos (List.mem_range.1 hj)]
theorem partU_none : partU f s n 0 = (List.range n).map s := by
 unfold partU
 refine List.map_congr_left fun j _ => ?_
 rw [if_neg (by omega)]
end
set_option maxRecDepth 100000 in
set_option maxHeartbeats 4000000 in
theorem xor_any (gc : Nat) (key at' : List UInt8) (B : Option Addr) (n c : Nat) (b : List UInt8) (w : World) (hc : Ci w gc key) (ha : at'.length = 16) (hb : Bs w w.heap.size B n c b) (hn : n ≤ 1048576) :
  Calls Tryz.prog 196 #[.pointer (some ⟨gc, 0, none⟩), .agg (cells8 at').toArray, .slice B n c] w fun e w' => ∃ A d, e = .returned (.slice A n d) ∧ BsN w.heap.size w' A n d (addL4 (strL (strF key at') n) b n) ∧ Below w.heap.size w w' := by
 have HC : Kp _ := ⟨hc⟩
 have HB : Kp _ := ⟨hb⟩
 have HA : Kp _ := ⟨ha⟩
 have HLa : Kp ((cells8 at').length = 16) := ⟨by rw [cells8_length]; exact ha⟩
 have hnI : (n : Int) ≤ 1048576 := by omega
 have hn63 := hb.le
 clear hc ha hb
 go_enter Tryz.func196, Tryz.ntmps196
 go_wp2_with (with_reducible refine wpList_box (o := ⟨some 4, _, _, _, _, _⟩) rfl (.tmp 1) rfl rfl ?_)
 intro w1 hk1 hb1 hs1
 have HK1 : Kp _ := ⟨hk1⟩
 have HC1 : Kp _ := ⟨HC.out.below hb1⟩
 have HB1 : Kp _ := ⟨HB.out.next hb1 (Nat.le_refl _)⟩
 clear hk1 hs1 HC HB
 go_wp2_with (with_reducible refine wpList_loadAll (o := ⟨some 13, _, _, _, _, _⟩) rwNonce rfl (.tmp 4) rfl rfl HK1.out HLa.out ?_)
 go_wp2_with fail
 refine (stream_mid gc key at' n w1 HC1.out HA.out hn).mono ?_
 rintro e w2 ⟨v2, rfl, hown, hb2⟩
 have hB2 : Below w.heap.size w w2 := hb1.trans (hb2.mono hb1.size)
 have HB2 : Kp _ := ⟨HB1.out.below' hb2 (Nat.le_refl _)⟩
 have hs12 := hb2.size
 have hs01 := hb1.size
 have hXl : (strL (strF key at') n).length = n := strL_length _ _
 have HPN : Kp (partU (fun j => (strL (strF key at') n).getD j 0 ^^^ b.getD j 0) (fun j => (strL (strF key at') n).getD j 0) n 0 = strL (strF key at') n) := ⟨by rw [partU_none]; exact range_getD _ _ hXl⟩
 have HPD : Kp (partU (fun j => (strL (strF key at') n).getD j 0 ^^^ b.getD j 0) (fun j => (strL (strF key at') n).getD j 0) n n = addL4 (strL (strF key at') n) b n) := ⟨by rw [partU_done]; rfl⟩
 obtain ⟨S, hS⟩ : ∃ S, S = strL (strF key at') n := ⟨_, rfl⟩
 have HS : Kp _ := ⟨hS⟩
 rw [← hS] at hown hXl HPN HPD
 clear hS
 clear HK1 HC1 HB1 hb1 hb2
 rcases hown.2 with ⟨rfl, hx0⟩ | ⟨g, cap, cur, rfl, hg, hh, hnc, hcm, hcs, htk⟩
 ·have hS0 : S = [] := List.eq_nil_of_length_eq_zero (by rw [hXl]; exact hx0)
  have HS0 : Kp _ := ⟨hS0⟩
  have HN0 : Kp _ := ⟨hx0⟩
  have hnI0 : ¬ ((0 : Int) < (n : Int)) := by omega
  clear hown hS0 hx0 HPN HPD
  go_wp2
  go_loopw [19] (fun vi wr => vi = .int .i64 0 ∧ wr = w2) (fun _ _ => 0)
  case atStart => exact ⟨rfl, rfl⟩
  case round =>
   obtain ⟨rfl, rfl⟩ := hrel
   go_wp2
   go_ret
   refine ⟨none, 0, by rw [HN0.out]; rfl, ?_, hB2⟩
   rw [HN0.out]
   exact ⟨Bs.zero _ _, Fr.nil _⟩
 ·obtain ⟨T, hT⟩ : ∃ T, cur.toList = cells8 S ++ T := ⟨cur.toList.drop n, by rw [← htk]; simp⟩
  have HK2 : Kp (Blk w2 g 5 (cells8 (partU (fun j => S.getD j 0 ^^^ b.getD j 0) (fun j => S.getD j 0) n 0) ++ T)) := ⟨⟨by rw [HPN.out, ← hT]; simpa using hh⟩⟩
  have hgw : w1.heap.size ≤ g := hg
  clear hown hh hcs htk hT hg HPN
  go_wp2
  go_loopw [19] (fun vi wr => ∃ j : Nat, j ≤ n ∧ vi = .int .i64 j ∧ Kp (Blk wr g 5 (cells8 (partU (fun j => S.getD j 0 ^^^ b.getD j 0) (fun j => S.getD j 0) n j) ++ T)) ∧ Only g w2 wr) (fun vi _ => n - (intOf vi).toNat)
  case atStart => exact ⟨0, by omega, rfl, HK2, Only.refl _ _⟩
  case round =>
   clear HK2
   obtain ⟨j, hj, rfl, HK, ho⟩ := hrel
   by_cases hlt : j < n
   ·have hltI : (j : Int) < (n : Int) := by omega
    have cs : wr.cell? ⟨g, j, none⟩ = some (.int .u8 ((S.getD j 0).toNat : Int)) := by
     rw [HK.out.cell? j, List.getElem?_append_left (by rw [cells8_length, partU_length]; exact hlt)]
     exact partU_at _ _ _ _ hlt
    obtain ⟨bb, ob, rfl, hbb, hcb⟩ := HB2.out.cell hlt
    have cb : wr.cell? ⟨bb, ob + j, none⟩ = some (.int .u8 ((b.getD j 0).toNat : Int)) := by
     have h := World.cell?_of_block (w := w2) (a := ⟨bb, ob + j, none⟩) (ho.block bb (by omega))
     rw [h, hcb]
     have hjb : j < b.length := by rw [HB2.out.len]; exact hlt
     simp [List.getD, List.getElem?_eq_getElem hjb]
    have hfo := HK.out.frozen j
    have HSet : Kp _ := ⟨partU_set (fun j => S.getD j 0 ^^^ b.getD j 0) (fun j => S.getD j 0) n j⟩
    have hv := u8_xor' (S.getD j 0) (b.getD j 0)
    have HLp : Kp (j < (cells8 (partU (fun j => S.getD j 0 ^^^ b.getD j 0) (fun j => S.getD j 0) n j)).length) := ⟨by rw [cells8_length, partU_length]; exact hlt⟩
    have HV : Kp (S.getD j 0 ^^^ b.getD j 0 = S.getD j 0 ^^^ b.getD j 0) := ⟨rfl⟩
    generalize hxy : S.getD j 0 ^^^ b.getD j 0 = xy at hv HSet
    generalize S.getD j 0 = x at cs hv
    generalize b.getD j 0 = y at cb hv
    clear hcb
    go_wp2_with fail
    go_still_tail 9, (by kernel_rfl)
    change wpList _ _ _ _ _ wr.drew
    go_wp2
    refine ⟨⟨j + 1, by omega, by go_num, ⟨?_⟩, (ho.trans (Only.setCell wr ⟨g, j, none⟩ _)).drew⟩, by simp [intOf]; omega⟩
    have h3 := (HK.out.set j (.int .u8 (xy.toNat : Int))).drew
    rw [List.set_append_left _ _ HLp.out, HSet.out] at h3
    exact h3
   ·obtain rfl : j = n := by omega
    have hBs : Kp (Bs wr wr.heap.size (some ⟨g, 0, none⟩) j cap (addL4 S b j)) := ⟨by
     have h := HK.out
     rw [HPD.out] at h
     exact h.bytes h.lt (by rw [List.drop_zero, List.take_append_of_le_length (by rw [cells8_length, addL4_length]; omega), List.take_of_length_le (by rw [cells8_length, addL4_length]; omega)]) (addL4_length _ _ _) cap hnc hcm⟩
    have hBf : Below w.heap.size w wr := hB2.trans (ho.below (by omega))
    have hFr : w.heap.size ≤ g := by omega
    clear HK HPD
    go_wp2
    go_ret
    exact ⟨_, _, rfl, ⟨by rw [← HS.out]; exact hBs.out, Fr.at _ hFr⟩, hBf⟩
end Go.Proofs.YtcehkafddlfleaaGreatDoor
