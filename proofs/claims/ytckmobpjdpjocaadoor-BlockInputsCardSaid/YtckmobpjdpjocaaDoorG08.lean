/- The contract of package aes's Next.
   The contract of package aes's Stream.
   The contract of package aes's Xor.
   The contract of block.Head.
   Blocks kept through a region; what hiding and showing answer.
   The contract of block.Hide. -/
import Derived.Test.YtckmobpjdpjocaaDoorG07
import Derived.Test.YtckmobpjdpjocaaDoorG02
import Derived.Test.YtckmobpjdpjocaaDoorG06
import Derived.Deep.LoopGhost
import Derived.StillTailTactics
import Derived.Test.YtckmobpjdpjocaaDoorG03
import Derived.Test.YtckmobpjdpjocaaDoorG04
import Derived.Deep.RegionHeld3
namespace Go.Proofs.YtckmobpjdpjocaaDoor
open Go.RowKit

set_option maxRecDepth 100000 in
set_option maxHeartbeats 4000000 in
theorem next_mid (a : List UInt8) (N : Nat) (w : World) (ha : a.length = 16) (hN : N ≤ 9223372036854775807) :
    Calls Tryd.prog 40 #[.agg (cells8 a).toArray, .int .i64 (N : Int)] w fun e w' => e = .returned (.agg (cells8 (nextL a N)).toArray) ∧ Below w.heap.size w w' := by
  have HLa : Kp (a.length = 16) := ⟨ha⟩
  clear ha
  go_enter Tryd.func40, Tryd.ntmps40
  go_wp2_with (with_reducible refine wpList_box (o := ⟨some 2, _, _, _, _, _⟩) rfl (.tmp 0) rfl rfl ?_)
  intro w1 hk1 hb1 hs1
  have HK1 : Kp _ := ⟨hk1⟩
  clear hk1 hs1
  go_wp2_with (with_reducible refine wpList_alloc (o := ⟨some 4, _, _, _, _, _⟩) tyNonce rfl rfl ?_)
  intro w2 hk2 hb2 hs2
  have HR2 : Kp _ := ⟨hk2⟩
  have HK2 : Kp (Blk w2 w.heap.size 39 (cells8 (nextC a N 16))) := ⟨by rw [nextC_start _ _ HLa.out]; exact HK1.out.below hb2 HK1.out.lt⟩
  have hB2 : Below w.heap.size w w2 := hb1.trans (hb2.mono hb1.size)
  have hgg : w.heap.size < w1.heap.size := HK1.out.lt
  obtain ⟨g, hg⟩ : ∃ g, g = w1.heap.size := ⟨_, rfl⟩
  rw [← hg] at HR2 hgg ⊢
  clear hk2 HK1 hb1 hb2 hs2 hg
  have h0 : (0 : Int) ≤ (N : Int) := by omega
  have hN63 : (N : Int) ≤ 9223372036854775807 := by omega
  go_wp2
  go_loopw [5, 11] (fun vn vi wr => ∃ (i k q : Nat), i ≤ 16 ∧ Kp (k = 16 - i) ∧ vi = .int .i64 i ∧ vn = .int .u64 q ∧ q ≤ 9223372036854775807 ∧ Kp (q = nextS a N k / 256 ^ (16 - k)) ∧ Kp (Blk wr w.heap.size 39 (cells8 (nextC a N k))) ∧ Only w.heap.size w2 wr) (fun _ vi _ => 16 - (intOf vi).toNat)
  case atStart => exact ⟨0, 16, N, by omega, ⟨rfl⟩, rfl, by first | rfl | simp, by omega, ⟨by unfold nextS; rw [List.drop_of_length_le (by rw [HLa.out]; exact Nat.le_refl _)]; simp [getN]⟩, HK2, Only.refl _ _⟩
  case round =>
    clear HK2
    obtain ⟨i, k, q, hi, hk, rfl, rfl, hq, HQ, HB, ho⟩ := hrel
    cases k with
    | zero =>
      obtain rfl : i = 16 := by have := hk.out; omega
      have HD : Kp (Blk wr w.heap.size 39 (cells8 (nextL a N))) := ⟨by rw [← nextC_done]; exact HB.out⟩
      have HLen : Kp ((cells8 (nextL a N)).length = 16) := ⟨by rw [cells8_length, nextL_length]⟩
      have HZ : Kp (zero16.length = 16) := ⟨rfl⟩
      have HRr : Kp _ := ⟨HR2.out.only ho (by omega)⟩
      obtain ⟨L, hL⟩ : ∃ L, L = nextL a N := ⟨_, rfl⟩
      have HL : Kp _ := ⟨hL⟩
      rw [← hL] at HD HLen
      clear HB HQ hL
      go_wp2_with (first
        | (with_reducible refine wpList_loadAll (o := ⟨some 29, _, _, _, _, _⟩) rwNonce rfl (.tmp 2) rfl rfl HD.out HLen.out ?_)
        | (with_reducible refine wpList_storeAll (o := ⟨none, _, _, _, _, _⟩) (vs := cells8 L) rwNonce rfl (.tmp 4) (.tmp 29) rfl rfl HRr.out HZ.out HLen.out (cells8_one _) rfl ?_))
      intro w5 hk5 ho5
      have HK5 : Kp _ := ⟨hk5⟩
      clear hk5
      go_wp2
      exact ret_arr rfl rwNonce rfl HK5.out HLen.out rfl ⟨by rw [HL.out], (hB2.trans (ho.below (Nat.le_refl _))).trans (ho5.below (Nat.le_of_lt hgg))⟩
    | succ k =>
      have hik : i + k = 15 := by have := hk.out; omega
      have hkl : k < a.length := by rw [HLa.out]; omega
      have hc : wr.cell? ⟨w.heap.size, k, none⟩ = some (.int .u8 (a[k].toNat : Int)) := by rw [HB.out.cell? k]; exact next_at a N k hkl HLa.out
      have hf := HB.out.frozen k
      have HN : Kp _ := ⟨next_row a N k hkl HLa.out⟩
      have HC : Kp _ := ⟨next_carry a N k hkl HLa.out⟩
      rw [← HQ.out] at HN HC
      have hb8 := a[k].toNat_lt
      generalize a[k] = b at *
      have e1 : (15 : Int) - (i : Int) = (k : Int) := by omega
      have hk16 : (k : Int) < 16 := by omega
      have hi16 : (i : Int) < 16 := by omega
      have HIK : Kp (i + k = 15) := ⟨hik⟩
      clear HQ hkl hk hik
      go_wp2
      refine ⟨⟨i + 1, k, (b.toNat + q) / 256, by omega, ⟨by have := HIK.out; omega⟩, by go_num, ?_, by omega, ⟨HC.out.symm⟩, ⟨?_⟩, ho.trans (Only.setCell wr ⟨w.heap.size, k, none⟩ _)⟩, by first | (simp [intOf]; done) | (simp [intOf]; omega)⟩
      · first | rfl | (congr 1; omega)
      · have h3 := HB.out.set k (.int .u8 ((UInt8.ofNat (b.toNat + q)).toNat : Int))
        rw [HN.out] at h3
        have e : ((q : Int) + (b.toNat : Int)) % 256 = ((UInt8.ofNat (b.toNat + q)).toNat : Int) := by rw [ofNat_toNat]; omega
        rw [e]
        exact h3
set_option maxRecDepth 100000 in
set_option maxHeartbeats 4000000 in
theorem next_neg (a : List UInt8) (n : Int) (w : World) (ha : a.length = 16) (hn : n < 0) :
    Calls Tryd.prog 40 #[.agg (cells8 a).toArray, .int .i64 n] w fun e w' => e = .returned (.agg (cells8 (nextL a 0)).toArray) ∧ Below w.heap.size w w' := by
  have HLa : Kp (a.length = 16) := ⟨ha⟩
  clear ha
  go_enter Tryd.func40, Tryd.ntmps40
  go_wp2_with (with_reducible refine wpList_box (o := ⟨some 2, _, _, _, _, _⟩) rfl (.tmp 0) rfl rfl ?_)
  intro w1 hk1 hb1 hs1
  have HK1 : Kp _ := ⟨hk1⟩
  clear hk1 hs1
  go_wp2_with (with_reducible refine wpList_alloc (o := ⟨some 4, _, _, _, _, _⟩) tyNonce rfl rfl ?_)
  intro w2 hk2 hb2 hs2
  have HR2 : Kp _ := ⟨hk2⟩
  have HK2 : Kp (Blk w2 w.heap.size 39 (cells8 (nextC a 0 16))) := ⟨by rw [nextC_start _ _ HLa.out]; exact HK1.out.below hb2 HK1.out.lt⟩
  have hB2 : Below w.heap.size w w2 := hb1.trans (hb2.mono hb1.size)
  have hgg : w.heap.size < w1.heap.size := HK1.out.lt
  obtain ⟨g, hg⟩ : ∃ g, g = w1.heap.size := ⟨_, rfl⟩
  rw [← hg] at HR2 hgg ⊢
  clear hk2 HK1 hb1 hb2 hs2 hg
  go_wp2
  go_loopw [5, 11] (fun vn vi wr => ∃ (i k q : Nat), i ≤ 16 ∧ Kp (k = 16 - i) ∧ vi = .int .i64 i ∧ vn = .int .u64 q ∧ q ≤ 9223372036854775807 ∧ Kp (q = nextS a 0 k / 256 ^ (16 - k)) ∧ Kp (Blk wr w.heap.size 39 (cells8 (nextC a 0 k))) ∧ Only w.heap.size w2 wr) (fun _ vi _ => 16 - (intOf vi).toNat)
  case atStart => exact ⟨0, 16, 0, by omega, ⟨rfl⟩, rfl, by first | rfl | simp, by omega, ⟨by unfold nextS; rw [List.drop_of_length_le (by rw [HLa.out]; exact Nat.le_refl _)]; simp [getN]⟩, HK2, Only.refl _ _⟩
  case round =>
    clear HK2
    obtain ⟨i, k, q, hi, hk, rfl, rfl, hq, HQ, HB, ho⟩ := hrel
    cases k with
    | zero =>
      obtain rfl : i = 16 := by have := hk.out; omega
      have HD : Kp (Blk wr w.heap.size 39 (cells8 (nextL a 0))) := ⟨by rw [← nextC_done]; exact HB.out⟩
      have HLen : Kp ((cells8 (nextL a 0)).length = 16) := ⟨by rw [cells8_length, nextL_length]⟩
      have HZ : Kp (zero16.length = 16) := ⟨rfl⟩
      have HRr : Kp _ := ⟨HR2.out.only ho (by omega)⟩
      obtain ⟨L, hL⟩ : ∃ L, L = nextL a 0 := ⟨_, rfl⟩
      have HL : Kp _ := ⟨hL⟩
      rw [← hL] at HD HLen
      clear HB HQ hL
      go_wp2_with (first
        | (with_reducible refine wpList_loadAll (o := ⟨some 29, _, _, _, _, _⟩) rwNonce rfl (.tmp 2) rfl rfl HD.out HLen.out ?_)
        | (with_reducible refine wpList_storeAll (o := ⟨none, _, _, _, _, _⟩) (vs := cells8 L) rwNonce rfl (.tmp 4) (.tmp 29) rfl rfl HRr.out HZ.out HLen.out (cells8_one _) rfl ?_))
      intro w5 hk5 ho5
      have HK5 : Kp _ := ⟨hk5⟩
      clear hk5
      go_wp2
      exact ret_arr rfl rwNonce rfl HK5.out HLen.out rfl ⟨by rw [HL.out], (hB2.trans (ho.below (Nat.le_refl _))).trans (ho5.below (Nat.le_of_lt hgg))⟩
    | succ k =>
      have hik : i + k = 15 := by have := hk.out; omega
      have hkl : k < a.length := by rw [HLa.out]; omega
      have hc : wr.cell? ⟨w.heap.size, k, none⟩ = some (.int .u8 (a[k].toNat : Int)) := by rw [HB.out.cell? k]; exact next_at a 0 k hkl HLa.out
      have hf := HB.out.frozen k
      have HN : Kp _ := ⟨next_row a 0 k hkl HLa.out⟩
      have HC : Kp _ := ⟨next_carry a 0 k hkl HLa.out⟩
      rw [← HQ.out] at HN HC
      have hb8 := a[k].toNat_lt
      generalize a[k] = b at *
      have e1 : (15 : Int) - (i : Int) = (k : Int) := by omega
      have hk16 : (k : Int) < 16 := by omega
      have hi16 : (i : Int) < 16 := by omega
      have HIK : Kp (i + k = 15) := ⟨hik⟩
      clear HQ hkl hk hik
      go_wp2
      refine ⟨⟨i + 1, k, (b.toNat + q) / 256, by omega, ⟨by have := HIK.out; omega⟩, by go_num, ?_, by omega, ⟨HC.out.symm⟩, ⟨?_⟩, ho.trans (Only.setCell wr ⟨w.heap.size, k, none⟩ _)⟩, by first | (simp [intOf]; done) | (simp [intOf]; omega)⟩
      · first | rfl | (congr 1; omega)
      · have h3 := HB.out.set k (.int .u8 ((UInt8.ofNat (b.toNat + q)).toNat : Int))
        rw [HN.out] at h3
        have e : ((q : Int) + (b.toNat : Int)) % 256 = ((UInt8.ofNat (b.toNat + q)).toNat : Int) := by rw [ofNat_toNat]; omega
        rw [e]
        exact h3
theorem next_any (a : List UInt8) (n : Int) (w : World) (ha : a.length = 16) (hn : n ≤ 9223372036854775807) :
    Calls Tryd.prog 40 #[.agg (cells8 a).toArray, .int .i64 n] w fun e w' => e = .returned (.agg (cells8 (nextL a n.toNat)).toArray) ∧ Below w.heap.size w w' := by
  by_cases h : n < 0
  · have e : n.toNat = 0 := by omega
    rw [e]; exact next_neg a n w ha h
  · obtain ⟨N, rfl⟩ : ∃ N : Nat, n = N := ⟨n.toNat, by omega⟩
    have e : ((N : Int)).toNat = N := by omega
    rw [e]; exact next_mid a N w ha (by omega)
end Go.Proofs.YtckmobpjdpjocaaDoor

namespace Go.Proofs.YtckmobpjdpjocaaDoor
open Go.RowKit

theorem own_base {w : World} {b base : Nat} {e : TypeId} {v : Value} {n : Nat} {xs : List Value} (h : w.ownsRow base e 1 v n xs) (hb : b ≤ base) : w.ownsRow b e 1 v n xs := by
  refine ⟨h.1, ?_⟩
  rcases h.2 with ⟨rfl, rfl⟩ | ⟨g, cap, cur, rfl, hg, hh, hn, hm, hs, ht⟩
  · exact .inl ⟨rfl, rfl⟩
  · exact .inr ⟨g, cap, cur, rfl, Nat.le_trans hb hg, hh, hn, hm, hs, ht⟩
theorem und16 : Tryd.prog.underlying 22 = some (.array 16 5) := by kernel_rfl
theorem own_some_lt {w : World} {base g n c : Nat} {e : TypeId} {xs : List Value} (h : w.ownsRow base e 1 (.slice (some ⟨g, 0, none⟩) n c) n xs) : g < w.heap.size := by
  obtain ⟨A, c', e1, _, _, _, hs⟩ := own_form h
  injection e1 with e2 _ _
  obtain ⟨g', e3, _, h4⟩ := hs _ e2.symm
  injection e3 with e4
  omega
theorem own_only {w w' : World} {base gx n : Nat} {e : TypeId} {v : Value} {xs : List Value} (h : w.ownsRow base e 1 v n xs) (ho : Only gx w w') (hne : v.ownBlock ≠ some gx) : w'.ownsRow base e 1 v n xs :=
  h.kept (row := some gx) ⟨ho.os, ho.tape, ho.output, by rw [ho.size]; exact Nat.le_refl _, fun k _ hk => ho.block k (fun e => hk (by rw [e]))⟩ (.inr hne)
/-- blocks of 16, one behind the other: the first n bytes -/
def strL (f : Nat → List UInt8) (n : Nat) : List UInt8 := (List.range n).map fun p => (f (p / 16)).getD (p % 16) 0
theorem strL_length (f : Nat → List UInt8) (n : Nat) : (strL f n).length = n := by simp [strL]
theorem strL_succ (f : Nat → List UInt8) (n : Nat) : strL f (n + 1) = strL f n ++ [(f (n / 16)).getD (n % 16) 0] := by simp [strL, List.range_succ]
theorem strL_step (f : Nat → List UInt8) (i j : Nat) (hj : j < (f i).length) (h : (f i).length = 16) : strL f (16 * i + (j + 1)) = strL f (16 * i + j) ++ [(f i)[j]] := by
  rw [show 16 * i + (j + 1) = (16 * i + j) + 1 by omega, strL_succ, show (16 * i + j) / 16 = i by omega, show (16 * i + j) % 16 = j by omega]
  simp [List.getD, List.getElem?_eq_getElem hj]
/-- a stream's blocks -/
def strF (key at' : List UInt8) (i : Nat) : List UInt8 := blockL (keysL boxB key) boxB (nextL at' i)
theorem strF_length (key at' : List UInt8) (i : Nat) : (strF key at' i).length = 16 := blockL_length _ _ _

set_option maxRecDepth 100000 in
set_option maxHeartbeats 4000000 in
theorem stream_mid (gc : Nat) (key at' : List UInt8) (N : Nat) (w : World) (hc : Ci w gc key) (ha : at'.length = 16) (hN : N ≤ 1048576) :
    Calls Tryd.prog 21 #[.pointer (some ⟨gc, 0, none⟩), .agg (cells8 at').toArray, .int .i64 (N : Int)] w fun e w' => ∃ v, e = .returned v ∧ w'.ownsRow w.heap.size 5 1 v N (cells8 (strL (strF key at') N)) ∧ Below w.heap.size w w' := by
  have HC : Kp _ := ⟨hc⟩
  have HA : Kp _ := ⟨ha⟩
  have HGC : Kp (gc < w.heap.size) := ⟨hc.blk.lt⟩
  have HLa : Kp ((cells8 at').length = 16) := ⟨by rw [cells8_length]; exact ha⟩
  clear hc ha
  go_enter Tryd.func21, Tryd.ntmps21
  go_wp2_with (with_reducible refine wpList_box (o := ⟨some 4, _, _, _, _, _⟩) rfl (.tmp 1) rfl rfl ?_)
  intro w1 hk1 hb1 hs1
  have HK1 : Kp _ := ⟨hk1⟩
  clear hk1 hs1
  have h0 : (0 : Int) ≤ (N : Int) := by omega
  have h1 : (N : Int) ≤ 1048576 := by omega
  go_wp2
  go_step3
  obtain ⟨b0, hb0⟩ : ∃ b, b = w1.heap.size := ⟨_, rfl⟩
  have hlt0 : w.heap.size < b0 := by rw [hb0]; exact HK1.out.lt
  have hle0 : b0 ≤ w1.heap.size := by rw [hb0]; exact Nat.le_refl _
  clear hb0
  go_wp2_with (with_reducible refine wpList_mk0 (o := ⟨some 19, _, _, _, _, _⟩) el8 rfl _ _ rfl b0 _ _ _ N rfl rfl (by omega) (by omega) (by simp only [maxLen]; omega) hle0 ?_)
  intro w2 H2 hb2
  have HK2 : Kp _ := ⟨HK1.out.below hb2 hlt0⟩
  have hB2 : Below w.heap.size w w2 := hb1.trans (hb2.mono (Nat.le_of_lt hlt0))
  have HC2 : Kp _ := ⟨HC.out.below hB2⟩
  have hs2 : b0 ≤ w2.heap.size := Nat.le_trans hle0 hb2.size
  clear hb1 hb2 HK1 HC
  obtain ⟨K, hK⟩ : ∃ K : Nat, K = (N + 15) / 16 := ⟨_, rfl⟩
  have HKK : Kp (16 * K < N + 16 ∧ N ≤ 16 * K) := ⟨by omega⟩
  have HN : Kp (N ≤ 1048576) := ⟨by omega⟩
  clear hK
  go_wp2_with fail
  refine (makeBox_any w2).mono ?_
  rintro e w3 ⟨rfl, hb3⟩
  have H3 : Hid (w3.ownsRow b0 5 1 (.slice (some ⟨w1.heap.size, 0, none⟩) 0 N) 0 []) := own_below H2 hb3
  have HK3 : Kp _ := ⟨HK2.out.below hb3 HK2.out.lt⟩
  have HC3 : Kp _ := ⟨HC2.out.below hb3⟩
  have hB3 := hB2.trans (hb3.mono hB2.size)
  have hs3 : b0 ≤ w3.heap.size := Nat.le_trans hs2 hb3.size
  have HLb : Kp ((cells8 boxB).length = 256) := ⟨by rw [cells8_length, boxB_length]⟩
  have HZ : Kp (zero256.length = 256) := ⟨by unfold zero256; exact List.length_replicate⟩
  clear hb3 H2 HK2 HC2 hB2 hs2
  go_wp2_with (with_reducible refine wpList_alloc (o := ⟨some 9, _, _, _, _, _⟩) tyTable rfl rfl ?_)
  intro w4 hk4 hb4 hs4
  have H4 : Hid (w4.ownsRow b0 5 1 (.slice (some ⟨w1.heap.size, 0, none⟩) 0 N) 0 []) := own_below H3 hb4
  have HK4 : Kp _ := ⟨HK3.out.below hb4 HK3.out.lt⟩
  have HC4 : Kp _ := ⟨HC3.out.below hb4⟩
  have hB4 := hB3.trans (hb4.mono hB3.size)
  have hs5 : b0 ≤ w4.heap.size := Nat.le_trans hs3 hb4.size
  have HT : Kp _ := ⟨hk4⟩
  have n1 : w1.heap.size < w3.heap.size := by have h := own_some_lt H3; omega
  obtain ⟨gx, hgx⟩ : ∃ g, g = w3.heap.size := ⟨_, rfl⟩
  rw [← hgx] at HT n1 hs3 ⊢
  have n2 : w.heap.size < gx := by omega
  have n3 : gc < gx := by have := HGC.out; omega
  clear hk4 hs4 hb4 hgx H3 HK3 HC3 hB3
  go_wp2_with (refine wpList_storeAll (o := ⟨none, _, _, _, _, _⟩) (vs := cells8 boxB) rwTable rfl (.tmp 9) (.tmp 20) rfl rfl HT.out HZ.out HLb.out (cells8_one _) rfl ?_)
  intro w5 hk5 ho5
  have HX : Kp _ := ⟨hk5⟩
  have H5 : Hid (w5.ownsRow b0 5 1 (.slice (some ⟨w1.heap.size, 0, none⟩) 0 N) 0 []) := own_only H4 ho5 (fun h => by have h2 : w1.heap.size = gx := Option.some.inj h; omega)
  have HK5 : Kp _ := ⟨HK4.out.only ho5 (by omega)⟩
  have HC5 : Kp (Ci w5 gc key) := ⟨⟨HC4.out.blk.only ho5 (by omega)⟩⟩
  have hB5 := hB4.trans (ho5.below (Nat.le_of_lt n2))
  have hs6 : b0 ≤ w5.heap.size := by rw [ho5.size]; exact hs5
  have hbx : b0 ≤ gx := hs3
  have hgl : gx < w5.heap.size := HX.out.lt
  have HNo : (Value.slice (some ⟨w1.heap.size, 0, none⟩) 0 N).ownBlock ≠ some gx := fun h => by have h2 : w1.heap.size = gx := Option.some.inj h; omega
  have HGx : Kp (gx < w5.heap.size) := ⟨hgl⟩
  clear hk5 ho5 HT HZ HLb n1 n3 hs3 hs5 H4 HK4 HC4 hB4 hgl
  go_wp2
  go_step3
  go_wp2
  clear h0 h1
  go_loopg [8, 25] K (fun gk v8 v23 wr => ∃ i : Nat, i + gk = K ∧ v23 = .int .i64 i ∧ 16 * i ≤ N ∧ Hid (wr.ownsRow b0 5 1 v8 (16 * i) (cells8 (strL (strF key at') (16 * i)))) ∧ Kp (Blk wr w.heap.size 39 (cells8 at')) ∧ Kp (Ci wr gc key) ∧ Kp (Blk wr gx 75 (cells8 boxB)) ∧ Below w.heap.size w wr ∧ b0 ≤ wr.heap.size ∧ v8.ownBlock ≠ some gx)
  case atStart => exact ⟨0, by omega, rfl, by omega, H5, HK5, HC5, HX, hB5, hs6, HNo⟩
  case round =>
    clear H5 HK5 HC5 HX hB5 hs6
    obtain ⟨i, hig, rfl, hiN, H, HAt, HCi, HX, hB, hsz, hno⟩ := hrel
    obtain ⟨A8, c8, rfl, hc8⟩ := own_form H.out
    cases gk with
    | zero =>
      have hi2 : i = K := by omega
      have hi3 : ¬ ((i : Int) < ((N : Nat) + 16 - 1 : Int) / 16) := by have := HKK.out; omega
      have hNi : 16 * i = N := by have := HKK.out; omega
      have H3 : Kp (wr.ownsRow w.heap.size 5 1 (.slice A8 (16 * i) c8) N (cells8 (strL (strF key at') N))) := ⟨by have h := own_base H (Nat.le_of_lt hlt0); rw [hNi] at h ⊢; exact h⟩
      clear hNi hi2
      clear H HAt HCi HX hno
      go_wp2
      try rw [Exit.noGoto_ret]
      go_ret
      exact ⟨_, rfl, H3.out, hB⟩
    | succ g2 =>
      have hi2 : (i : Int) < ((N : Nat) + 16 - 1 : Int) / 16 := by have := HKK.out; omega
      obtain ⟨wa, rfl⟩ : ∃ x, x = wr := ⟨wr, rfl⟩
      go_wp2_with fail
      refine wp_region_any (by kernel_rfl) ?_
      change wpAny _ _ _ _ _ _ _ wa.drew
      replace H : Hid (wa.drew.ownsRow b0 5 1 (.slice A8 (16 * i) c8) (16 * i) (cells8 (strL (strF key at') (16 * i)))) := H
      replace HAt : Kp _ := ⟨HAt.out.drew⟩
      replace HCi : Kp (Ci wa.drew gc key) := ⟨⟨HCi.out.blk.drew⟩⟩
      replace HX : Kp _ := ⟨HX.out.drew⟩
      replace hB := hB.drew
      replace hsz : b0 ≤ wa.drew.heap.size := hsz
      generalize wa.drew = wS at *
      refine wpAny_take (i := 1) (oi := ⟨some 29, _, _, _, _, _⟩) (v := ?_) rfl (by kernel_rfl) (by kernel_rfl) (by kernel_rfl) (fun _ _ _ h => h) (Or.inl ⟨by rfl, by intro w; go_simp; try rfl⟩) ?_
      try simp only [Act.put, List.setIfInBounds_toArray, List.set_cons_zero, List.set_cons_succ]
      refine wpAny_take (i := 4) (oi := ⟨some 32, _, _, _, _, _⟩) (v := ?_) rfl (by kernel_rfl) (by kernel_rfl) (by kernel_rfl) (fun _ _ _ h => h) (Or.inl ⟨by rfl, by intro w; go_simp; try rfl⟩) ?_
      try simp only [Act.put, List.setIfInBounds_toArray, List.set_cons_zero, List.set_cons_succ]
      refine wpAny_take (i := 5) (oi := ⟨some 33, _, _, _, _, _⟩) (v := ?_) rfl (by kernel_rfl) (by kernel_rfl) (by kernel_rfl) (fun _ _ _ h => h) (Or.inl ⟨by rfl, by intro w; go_simp; try rfl⟩) ?_
      try simp only [Act.put, List.setIfInBounds_toArray, List.set_cons_zero, List.set_cons_succ]
      refine wpAny_take (i := 6) (oi := ⟨some 34, _, _, _, _, _⟩) (v := ?_) rfl (by kernel_rfl) (by kernel_rfl) (by kernel_rfl) (fun _ _ _ h => h) (Or.inl ⟨by rfl, by intro w; go_simp; try rfl⟩) ?_
      try simp only [Act.put, List.setIfInBounds_toArray, List.set_cons_zero, List.set_cons_succ]
      refine wpAny_take (i := 9) (oi := ⟨some 37, _, _, _, _, _⟩) (v := ?_) rfl (by kernel_rfl) (by kernel_rfl) (by kernel_rfl) (fun _ _ _ h => h) (Or.inl ⟨by rfl, by intro w; go_simp; try rfl⟩) ?_
      try simp only [Act.put, List.setIfInBounds_toArray, List.set_cons_zero, List.set_cons_succ]
      refine wpAny_ready (rs := [0]) (by kernel_rfl) (by simp) ?_
      refine AllReady.cons (o := ⟨some 28, _, _, _, _, _⟩) rfl (fun K hK => ?_) AllReady.nil
      refine step_load rwNonce rfl (.tmp 4) rfl rfl HAt.out (fit_all HLa.out) (take_all HLa.out) ?_
      refine hK _ _ ?_
      clear hK K
      try simp only [Act.put, List.setIfInBounds_toArray, List.set_cons_zero, List.set_cons_succ]
      refine wpAny_ready (rs := [2]) (by kernel_rfl) (by simp) ?_
      refine AllReady.cons (o := ⟨some 30, _, _, _, _, _⟩) rfl (fun K hK => ?_) AllReady.nil
      go_simp
      refine (next_mid at' i wS HA.out (by have := HN.out; omega)).mono ?_
      rintro e wb ⟨rfl, hb'⟩
      refine hK _ _ ?_
      clear hK K
      try simp only [Act.put, List.setIfInBounds_toArray, List.set_cons_zero, List.set_cons_succ]
      replace H : Hid (wb.ownsRow b0 5 1 (.slice A8 (16 * i) c8) (16 * i) (cells8 (strL (strF key at') (16 * i)))) := own_below H hb'
      replace HAt : Kp _ := ⟨HAt.out.below hb' HAt.out.lt⟩
      replace HCi : Kp _ := ⟨HCi.out.below hb'⟩
      replace HX : Kp _ := ⟨HX.out.below hb' HX.out.lt⟩
      replace hB := hB.trans (hb'.mono hB.size)
      replace hsz : b0 ≤ wb.heap.size := Nat.le_trans hsz hb'.size
      clear hb'
      refine wpAny_ready (rs := [3]) (by kernel_rfl) (by simp) ?_
      refine AllReady.cons (o := ⟨some 31, _, _, _, _, _⟩) rfl (fun K hK => ?_) AllReady.nil
      go_simp
      refine (columns_any (nextL at' i) wb (nextL_length _ _)).mono ?_
      rintro e wc ⟨rfl, hb'⟩
      refine hK _ _ ?_
      clear hK K
      try simp only [Act.put, List.setIfInBounds_toArray, List.set_cons_zero, List.set_cons_succ]
      replace H : Hid (wc.ownsRow b0 5 1 (.slice A8 (16 * i) c8) (16 * i) (cells8 (strL (strF key at') (16 * i)))) := own_below H hb'
      replace HAt : Kp _ := ⟨HAt.out.below hb' HAt.out.lt⟩
      replace HCi : Kp _ := ⟨HCi.out.below hb'⟩
      replace HX : Kp _ := ⟨HX.out.below hb' HX.out.lt⟩
      replace hB := hB.trans (hb'.mono hB.size)
      replace hsz : b0 ≤ wc.heap.size := Nat.le_trans hsz hb'.size
      clear hb'
      refine wpAny_ready (rs := [7]) (by kernel_rfl) (by simp) ?_
      refine AllReady.cons (o := ⟨some 35, _, _, _, _, _⟩) rfl (fun K hK => ?_) AllReady.nil
      go_simp
      refine (encipher_any (nextL at' i) gc gx _ _ boxB key wc HCi.out.blk HX.out boxB_length).mono ?_
      rintro e wd ⟨rfl, hb'⟩
      refine hK _ _ ?_
      clear hK K
      try simp only [Act.put, List.setIfInBounds_toArray, List.set_cons_zero, List.set_cons_succ]
      replace H : Hid (wd.ownsRow b0 5 1 (.slice A8 (16 * i) c8) (16 * i) (cells8 (strL (strF key at') (16 * i)))) := own_below H hb'
      replace HAt : Kp _ := ⟨HAt.out.below hb' HAt.out.lt⟩
      replace HCi : Kp _ := ⟨HCi.out.below hb'⟩
      replace HX : Kp _ := ⟨HX.out.below hb' HX.out.lt⟩
      replace hB := hB.trans (hb'.mono hB.size)
      replace hsz : b0 ≤ wd.heap.size := Nat.le_trans hsz hb'.size
      clear hb'
      refine wpAny_ready (rs := [8]) (by kernel_rfl) (by simp) ?_
      refine AllReady.cons (o := ⟨some 36, _, _, _, _, _⟩) rfl (fun K hK => ?_) AllReady.nil
      go_simp
      refine (bytes_any _ wd (blockL_length _ _ _)).mono ?_
      rintro e we ⟨rfl, hb'⟩
      refine hK _ _ ?_
      clear hK K
      try simp only [Act.put, List.setIfInBounds_toArray, List.set_cons_zero, List.set_cons_succ]
      replace H : Hid (we.ownsRow b0 5 1 (.slice A8 (16 * i) c8) (16 * i) (cells8 (strL (strF key at') (16 * i)))) := own_below H hb'
      replace HAt : Kp _ := ⟨HAt.out.below hb' HAt.out.lt⟩
      replace HCi : Kp _ := ⟨HCi.out.below hb'⟩
      replace HX : Kp _ := ⟨HX.out.below hb' HX.out.lt⟩
      replace hB := hB.trans (hb'.mono hB.size)
      replace hsz : b0 ≤ we.heap.size := Nat.le_trans hsz hb'.size
      clear hb'
      refine wpAny_done (by kernel_rfl) ?_ _
      have Hc : Hid (we.ownsRow b0 5 1 (.slice A8 (16 * i) c8) (16 * i + 0) (cells8 (strL (strF key at') (16 * i + 0)))) := H
      clear H
      have HF : Kp ((strF key at' i).length = 16) := ⟨strF_length key at' i⟩
      have HSt : Kp (∀ j (hj : j < (strF key at' i).length), strL (strF key at') (16 * i + (j + 1)) = strL (strF key at') (16 * i + j) ++ [(strF key at' i)[j]]) := ⟨fun j hj => strL_step _ _ _ hj HF.out⟩
      rw [show blockL (keysL boxB key) boxB (nextL at' i) = strF key at' i from rfl]
      generalize strF key at' i = F at *
      go_wp2
      go_loopg [8, 37] 16 (fun g3 v8 v37 wx => ∃ j : Nat, j + g3 = 16 ∧ v37 = .int .i64 j ∧ 16 * i + j ≤ N ∧ Hid (wx.ownsRow b0 5 1 v8 (16 * i + j) (cells8 (strL (strF key at') (16 * i + j)))) ∧ Kp (Blk wx w.heap.size 39 (cells8 at')) ∧ Kp (Ci wx gc key) ∧ Kp (Blk wx gx 75 (cells8 boxB)) ∧ Below w.heap.size w wx ∧ b0 ≤ wx.heap.size ∧ v8.ownBlock ≠ some gx)
      case atStart => exact ⟨0, by omega, rfl, by omega, Hc, HAt, HCi, HX, hB, hsz, hno⟩
      case round =>
        clear Hc HAt HCi HX hB hsz hno
        obtain ⟨j, hjg, rfl, hjN, H, HAt, HCi, HX, hB, hsz, hno⟩ := hrel
        cases gk with
        | zero =>
          obtain rfl : j = 16 := by omega
          obtain ⟨Ak, ck, rfl, _⟩ := own_form H.out
          have H2 : Hid (wr.ownsRow b0 5 1 (.slice Ak (16 * i + 16) ck) (16 * (i + 1)) (cells8 (strL (strF key at') (16 * (i + 1))))) := H
          go_wp2
          go_roundg g2
          case rel => exact ⟨i + 1, by omega, by go_num, by omega, H2, HAt, HCi, HX, hB, hsz, hno⟩
          case measure => omega
        | succ g4 =>
          have hj2 : (j : Int) < 16 := by omega
          have hjF : j < F.length := by rw [HF.out]; omega
          have he : (cells8 F)[j]? = some (.int .u8 (F[j].toNat : Int)) := cells8_at _ j hjF
          have HNx : Kp _ := ⟨HSt.out j hjF⟩
          generalize F[j] = x at *
          obtain ⟨Ak, ck, rfl, hck, hcm, _⟩ := own_form H.out
          by_cases hq : 16 * i + j = N
          · have hq2 : (16 * (i : Int) + (j : Int) == (N : Nat)) = true := by rw [beq_iff_eq]; omega
            have H3 : Kp (wr.ownsRow w.heap.size 5 1 (.slice Ak N ck) N (cells8 (strL (strF key at') N))) := ⟨by have h := own_base H.out (Nat.le_of_lt hlt0); rw [hq] at h; exact h⟩
            clear H HNx HSt HAt HCi HX hno
            go_wp2_with (with_reducible refine wpList_index (o := ⟨some 39, _, _, _, _, _⟩) und16 plain8 rfl _ _ rfl rfl rfl j rfl (by omega) he ?_)
            try rw [Exit.noGoto_ret]
            go_ret
            exact ⟨_, rfl, H3.out, hB⟩
          · have hq2 : (16 * (i : Int) + (j : Int) == (N : Nat)) = false := by rw [beq_eq_false_iff_ne]; omega
            go_wp2_with (first
              | (with_reducible refine wpList_index (o := ⟨some 39, _, _, _, _, _⟩) und16 plain8 rfl _ _ rfl rfl rfl j rfl (by omega) he ?_)
              | (at_builtin; refine wpList_app1 el8 rfl _ _ rfl b0 _ (16 * i + j) _ rfl H.out rfl rfl (by simp only [maxLen]; omega) (by have := HN.out; omega) hsz ?_))
            intro v' w' H' hb' hot hwh
            have hgl := HX.out.lt
            have HX2 : Kp (Blk w' gx 75 (cells8 boxB)) := ⟨⟨(hot gx hno hgl).trans HX.out.heap⟩⟩
            have hno2 : v'.ownBlock ≠ some gx := by
              rcases hwh with h | ⟨g, h, hg⟩
              · rw [h]; exact hno
              · rw [h]; intro h2; injection h2 with h2; omega
            have H2 : Hid (w'.ownsRow b0 5 1 v' (16 * i + (j + 1)) (cells8 (strL (strF key at') (16 * i + (j + 1))))) := by
              show World.ownsRow _ _ _ _ _ _ _
              rw [HNx.out, cells8_append]
              exact H'.out
            have HA2 : Kp _ := ⟨HAt.out.below hb' hlt0⟩
            have HC2 : Kp (Ci w' gc key) := ⟨⟨HCi.out.blk.below hb' (by have := HGC.out; omega)⟩⟩
            have hB2 : Below w.heap.size w w' := hB.trans (hb'.mono (Nat.le_of_lt hlt0))
            have hs2 : b0 ≤ w'.heap.size := Nat.le_trans hsz hb'.size
            clear H H' HNx HAt HCi HX hB hsz hb' hot hwh hno hgl
            go_wp2
            go_roundg g4
            case rel => exact ⟨j + 1, by omega, by go_num, by omega, H2, HA2, HC2, HX2, hB2, hs2, hno2⟩
            case measure => omega
set_option maxRecDepth 100000 in
set_option maxHeartbeats 4000000 in
theorem stream_neg (gc : Nat) (key at' : List UInt8) (n : Int) (w : World) (hc : Ci w gc key) (ha : at'.length = 16) (hn : n < 0) :
    Calls Tryd.prog 21 #[.pointer (some ⟨gc, 0, none⟩), .agg (cells8 at').toArray, .int .i64 n] w fun e w' => ∃ v, e = .returned v ∧ w'.ownsRow w.heap.size 5 1 v 0 (cells8 (strL (strF key at') 0)) ∧ Below w.heap.size w w' := by
  have HC : Kp _ := ⟨hc⟩
  have HA : Kp _ := ⟨ha⟩
  have HGC : Kp (gc < w.heap.size) := ⟨hc.blk.lt⟩
  have HLa : Kp ((cells8 at').length = 16) := ⟨by rw [cells8_length]; exact ha⟩
  clear hc ha
  go_enter Tryd.func21, Tryd.ntmps21
  go_wp2_with (with_reducible refine wpList_box (o := ⟨some 4, _, _, _, _, _⟩) rfl (.tmp 1) rfl rfl ?_)
  intro w1 hk1 hb1 hs1
  have HK1 : Kp _ := ⟨hk1⟩
  clear hk1 hs1
  go_wp2
  go_step3
  obtain ⟨b0, hb0⟩ : ∃ b, b = w1.heap.size := ⟨_, rfl⟩
  have hlt0 : w.heap.size < b0 := by rw [hb0]; exact HK1.out.lt
  have hle0 : b0 ≤ w1.heap.size := by rw [hb0]; exact Nat.le_refl _
  clear hb0
  go_wp2_with (with_reducible refine wpList_mk0 (o := ⟨some 19, _, _, _, _, _⟩) el8 rfl _ _ rfl b0 _ _ _ 0 rfl rfl (by omega) (by omega) (by simp only [maxLen]; omega) hle0 ?_)
  intro w2 H2 hb2
  have HK2 : Kp _ := ⟨HK1.out.below hb2 hlt0⟩
  have hB2 : Below w.heap.size w w2 := hb1.trans (hb2.mono (Nat.le_of_lt hlt0))
  have HC2 : Kp _ := ⟨HC.out.below hB2⟩
  have hs2 : b0 ≤ w2.heap.size := Nat.le_trans hle0 hb2.size
  clear hb1 hb2 HK1 HC
  obtain ⟨K, hK⟩ : ∃ K : Nat, K = (0 + 15) / 16 := ⟨_, rfl⟩
  have HKK : Kp (16 * K < 0 + 16 ∧ 0 ≤ 16 * K) := ⟨by omega⟩
  have HN : Kp (0 ≤ 1048576) := ⟨by omega⟩
  clear hK
  go_wp2_with fail
  refine (makeBox_any w2).mono ?_
  rintro e w3 ⟨rfl, hb3⟩
  have H3 : Hid (w3.ownsRow b0 5 1 (.slice (some ⟨w1.heap.size, 0, none⟩) 0 0) 0 []) := own_below H2 hb3
  have HK3 : Kp _ := ⟨HK2.out.below hb3 HK2.out.lt⟩
  have HC3 : Kp _ := ⟨HC2.out.below hb3⟩
  have hB3 := hB2.trans (hb3.mono hB2.size)
  have hs3 : b0 ≤ w3.heap.size := Nat.le_trans hs2 hb3.size
  have HLb : Kp ((cells8 boxB).length = 256) := ⟨by rw [cells8_length, boxB_length]⟩
  have HZ : Kp (zero256.length = 256) := ⟨by unfold zero256; exact List.length_replicate⟩
  clear hb3 H2 HK2 HC2 hB2 hs2
  go_wp2_with (with_reducible refine wpList_alloc (o := ⟨some 9, _, _, _, _, _⟩) tyTable rfl rfl ?_)
  intro w4 hk4 hb4 hs4
  have H4 : Hid (w4.ownsRow b0 5 1 (.slice (some ⟨w1.heap.size, 0, none⟩) 0 0) 0 []) := own_below H3 hb4
  have HK4 : Kp _ := ⟨HK3.out.below hb4 HK3.out.lt⟩
  have HC4 : Kp _ := ⟨HC3.out.below hb4⟩
  have hB4 := hB3.trans (hb4.mono hB3.size)
  have hs5 : b0 ≤ w4.heap.size := Nat.le_trans hs3 hb4.size
  have HT : Kp _ := ⟨hk4⟩
  have n1 : w1.heap.size < w3.heap.size := by have h := own_some_lt H3; omega
  obtain ⟨gx, hgx⟩ : ∃ g, g = w3.heap.size := ⟨_, rfl⟩
  rw [← hgx] at HT n1 hs3 ⊢
  have n2 : w.heap.size < gx := by omega
  have n3 : gc < gx := by have := HGC.out; omega
  clear hk4 hs4 hb4 hgx H3 HK3 HC3 hB3
  go_wp2_with (refine wpList_storeAll (o := ⟨none, _, _, _, _, _⟩) (vs := cells8 boxB) rwTable rfl (.tmp 9) (.tmp 20) rfl rfl HT.out HZ.out HLb.out (cells8_one _) rfl ?_)
  intro w5 hk5 ho5
  have HX : Kp _ := ⟨hk5⟩
  have H5 : Hid (w5.ownsRow b0 5 1 (.slice (some ⟨w1.heap.size, 0, none⟩) 0 0) 0 []) := own_only H4 ho5 (fun h => by have h2 : w1.heap.size = gx := Option.some.inj h; omega)
  have HK5 : Kp _ := ⟨HK4.out.only ho5 (by omega)⟩
  have HC5 : Kp (Ci w5 gc key) := ⟨⟨HC4.out.blk.only ho5 (by omega)⟩⟩
  have hB5 := hB4.trans (ho5.below (Nat.le_of_lt n2))
  have hs6 : b0 ≤ w5.heap.size := by rw [ho5.size]; exact hs5
  have hbx : b0 ≤ gx := hs3
  have hgl : gx < w5.heap.size := HX.out.lt
  have HNo : (Value.slice (some ⟨w1.heap.size, 0, none⟩) 0 0).ownBlock ≠ some gx := fun h => by have h2 : w1.heap.size = gx := Option.some.inj h; omega
  have HGx : Kp (gx < w5.heap.size) := ⟨hgl⟩
  clear hk5 ho5 HT HZ HLb n1 n3 hs3 hs5 H4 HK4 HC4 hB4 hgl
  go_wp2
  go_step3
  go_wp2
  go_loopg [8, 25] K (fun gk v8 v23 wr => ∃ i : Nat, i + gk = K ∧ v23 = .int .i64 i ∧ 16 * i ≤ 0 ∧ Hid (wr.ownsRow b0 5 1 v8 (16 * i) (cells8 (strL (strF key at') (16 * i)))) ∧ Kp (Blk wr w.heap.size 39 (cells8 at')) ∧ Kp (Ci wr gc key) ∧ Kp (Blk wr gx 75 (cells8 boxB)) ∧ Below w.heap.size w wr ∧ b0 ≤ wr.heap.size ∧ v8.ownBlock ≠ some gx)
  case atStart => exact ⟨0, by omega, rfl, by omega, H5, HK5, HC5, HX, hB5, hs6, HNo⟩
  case round =>
    clear H5 HK5 HC5 HX hB5 hs6
    obtain ⟨i, hig, rfl, hiN, H, HAt, HCi, HX, hB, hsz, hno⟩ := hrel
    obtain ⟨A8, c8, rfl, hc8⟩ := own_form H.out
    cases gk with
    | zero =>
      have hi2 : i = K := by omega
      have hi3 : ¬ ((i : Int) < ((0 : Nat) + 16 - 1 : Int) / 16) := by have := HKK.out; omega
      have hNi : 16 * i = 0 := by have := HKK.out; omega
      have H3 : Kp (wr.ownsRow w.heap.size 5 1 (.slice A8 (16 * i) c8) 0 (cells8 (strL (strF key at') 0))) := ⟨by have h := own_base H (Nat.le_of_lt hlt0); rw [hNi] at h ⊢; exact h⟩
      clear hNi hi2
      clear H HAt HCi HX hno
      go_wp2
      try rw [Exit.noGoto_ret]
      go_ret
      exact ⟨_, rfl, H3.out, hB⟩
    | succ g2 =>
      exfalso
      have := HKK.out
      omega
theorem stream_any (gc : Nat) (key at' : List UInt8) (n : Int) (w : World) (hc : Ci w gc key) (ha : at'.length = 16) (hn : n ≤ 1048576) :
    Calls Tryd.prog 21 #[.pointer (some ⟨gc, 0, none⟩), .agg (cells8 at').toArray, .int .i64 n] w fun e w' => ∃ v, e = .returned v ∧ w'.ownsRow w.heap.size 5 1 v n.toNat (cells8 (strL (strF key at') n.toNat)) ∧ Below w.heap.size w w' := by
  by_cases h : n < 0
  · have e : n.toNat = 0 := by omega
    rw [e]; exact stream_neg gc key at' n w hc ha h
  · obtain ⟨N, rfl⟩ : ∃ N : Nat, n = N := ⟨n.toNat, by omega⟩
    have e : ((N : Int)).toNat = N := by omega
    rw [e]; exact stream_mid gc key at' N w hc ha (by omega)
end Go.Proofs.YtckmobpjdpjocaaDoor

namespace Go.Proofs.YtckmobpjdpjocaaDoor
open Go.RowKit

/-- a row of bytes, the first k of which are done -/
def partU (f s : Nat → UInt8) (n k : Nat) : List UInt8 := (List.range n).map fun j => if j < k then f j else s j
section
variable (f s : Nat → UInt8) (n k : Nat)
theorem partU_length : (partU f s n k).length = n := by simp [partU]
theorem partU_set : (cells8 (partU f s n k)).set k (.int .u8 ((f k).toNat : Int)) = cells8 (partU f s n (k + 1)) := by
  have e : (partU f s n k).set k (f k) = partU f s n (k + 1) := by
    refine List.ext_getElem (by rw [List.length_set, partU_length, partU_length]) fun i h1 h2 => ?_
    rw [List.getElem_set]
    simp only [partU, List.getElem_map, List.getElem_range]
    by_cases hi : k = i
    · subst hi; simp
    · rw [if_neg hi]
      by_cases h3 : i < k
      · rw [if_pos h3, if_pos (by omega)]
      · rw [if_neg h3, if_neg (by omega)]
  rw [← e]
  unfold cells8
  rw [List.map_set]
theorem partU_at (h : k < n) : (cells8 (partU f s n k))[k]? = some (.int .u8 ((s k).toNat : Int)) := by
  simp [cells8, partU, List.getElem?_map, List.getElem?_range h]
theorem partU_done : partU f s n n = (List.range n).map f := by
  unfold partU
  refine List.map_congr_left fun j hj => ?_
  rw [if_pos (List.mem_range.1 hj)]
theorem partU_none : partU f s n 0 = (List.range n).map s := by
  unfold partU
  refine List.map_congr_left fun j _ => ?_
  rw [if_neg (by omega)]
end
set_option maxRecDepth 100000 in
set_option maxHeartbeats 4000000 in
theorem xor_any (gc : Nat) (key at' : List UInt8) (B : Option Addr) (n c : Nat) (b : List UInt8) (w : World) (hc : Ci w gc key) (ha : at'.length = 16) (hb : Bs w w.heap.size B n c b) (hn : n ≤ 1048576) :
    Calls Tryd.prog 26 #[.pointer (some ⟨gc, 0, none⟩), .agg (cells8 at').toArray, .slice B n c] w fun e w' => ∃ A d, e = .returned (.slice A n d) ∧ Bs w' w'.heap.size A n d (addL (strL (strF key at') n) b n) ∧ Below w.heap.size w w' := by
  have HC : Kp _ := ⟨hc⟩
  have HB : Kp _ := ⟨hb⟩
  have HA : Kp _ := ⟨ha⟩
  have HLa : Kp ((cells8 at').length = 16) := ⟨by rw [cells8_length]; exact ha⟩
  have hnI : (n : Int) ≤ 1048576 := by omega
  have hn63 := hb.le
  clear hc ha hb
  go_enter Tryd.func26, Tryd.ntmps26
  go_wp2_with (with_reducible refine wpList_box (o := ⟨some 4, _, _, _, _, _⟩) rfl (.tmp 1) rfl rfl ?_)
  intro w1 hk1 hb1 hs1
  have HK1 : Kp _ := ⟨hk1⟩
  have HC1 : Kp _ := ⟨HC.out.below hb1⟩
  have HB1 : Kp _ := ⟨HB.out.next hb1 (Nat.le_refl _)⟩
  clear hk1 hs1 HC HB
  go_wp2_with (with_reducible refine wpList_loadAll (o := ⟨some 13, _, _, _, _, _⟩) rwNonce rfl (.tmp 4) rfl rfl HK1.out HLa.out ?_)
  go_wp2_with fail
  refine (stream_mid gc key at' n w1 HC1.out HA.out hn).mono ?_
  rintro e w2 ⟨v2, rfl, hown, hb2⟩
  have hB2 : Below w.heap.size w w2 := hb1.trans (hb2.mono hb1.size)
  have HB2 : Kp _ := ⟨HB1.out.below' hb2 (Nat.le_refl _)⟩
  have hs12 := hb2.size
  have hs01 := hb1.size
  have hXl : (strL (strF key at') n).length = n := strL_length _ _
  have HPN : Kp (partU (fun j => (strL (strF key at') n).getD j 0 ^^^ b.getD j 0) (fun j => (strL (strF key at') n).getD j 0) n 0 = strL (strF key at') n) := ⟨by rw [partU_none]; exact range_getD _ _ hXl⟩
  have HPD : Kp (partU (fun j => (strL (strF key at') n).getD j 0 ^^^ b.getD j 0) (fun j => (strL (strF key at') n).getD j 0) n n = addL (strL (strF key at') n) b n) := ⟨by rw [partU_done]; rfl⟩
  obtain ⟨S, hS⟩ : ∃ S, S = strL (strF key at') n := ⟨_, rfl⟩
  have HS : Kp _ := ⟨hS⟩
  rw [← hS] at hown hXl HPN HPD
  clear hS
  clear HK1 HC1 HB1 hb1 hb2
  rcases hown.2 with ⟨rfl, hx0⟩ | ⟨g, cap, cur, rfl, hg, hh, hnc, hcm, hcs, htk⟩
  · have hS0 : S = [] := List.eq_nil_of_length_eq_zero (by rw [hXl]; exact hx0)
    have HS0 : Kp _ := ⟨hS0⟩
    have HN0 : Kp _ := ⟨hx0⟩
    have hnI0 : ¬ ((0 : Int) < (n : Int)) := by omega
    clear hown hS0 hx0 HPN HPD
    go_wp2
    go_loopw [19] (fun vi wr => vi = .int .i64 0 ∧ wr = w2) (fun _ _ => 0)
    case atStart => exact ⟨rfl, rfl⟩
    case round =>
      obtain ⟨rfl, rfl⟩ := hrel
      go_wp2
      go_ret
      refine ⟨none, 0, by rw [HN0.out]; rfl, ?_, hB2⟩
      rw [HN0.out]
      exact Bs.zero _ _
  · obtain ⟨T, hT⟩ : ∃ T, cur.toList = cells8 S ++ T := ⟨cur.toList.drop n, by rw [← htk]; simp⟩
    have HK2 : Kp (Blk w2 g 5 (cells8 (partU (fun j => S.getD j 0 ^^^ b.getD j 0) (fun j => S.getD j 0) n 0) ++ T)) := ⟨⟨by rw [HPN.out, ← hT]; simpa using hh⟩⟩
    have hgw : w1.heap.size ≤ g := hg
    clear hown hh hcs htk hT hg HPN
    go_wp2
    go_loopw [19] (fun vi wr => ∃ j : Nat, j ≤ n ∧ vi = .int .i64 j ∧ Kp (Blk wr g 5 (cells8 (partU (fun j => S.getD j 0 ^^^ b.getD j 0) (fun j => S.getD j 0) n j) ++ T)) ∧ Only g w2 wr) (fun vi _ => n - (intOf vi).toNat)
    case atStart => exact ⟨0, by omega, rfl, HK2, Only.refl _ _⟩
    case round =>
      clear HK2
      obtain ⟨j, hj, rfl, HK, ho⟩ := hrel
      by_cases hlt : j < n
      · have hltI : (j : Int) < (n : Int) := by omega
        have cs : wr.cell? ⟨g, j, none⟩ = some (.int .u8 ((S.getD j 0).toNat : Int)) := by
          rw [HK.out.cell? j, List.getElem?_append_left (by rw [cells8_length, partU_length]; exact hlt)]
          exact partU_at _ _ _ _ hlt
        obtain ⟨bb, ob, rfl, hbb, hcb⟩ := HB2.out.cell hlt
        have cb : wr.cell? ⟨bb, ob + j, none⟩ = some (.int .u8 ((b.getD j 0).toNat : Int)) := by
          have h := World.cell?_of_block (w := w2) (a := ⟨bb, ob + j, none⟩) (ho.block bb (by omega))
          rw [h, hcb]
          have hjb : j < b.length := by rw [HB2.out.len]; exact hlt
          simp [List.getD, List.getElem?_eq_getElem hjb]
        have hfo := HK.out.frozen j
        have HSet : Kp _ := ⟨partU_set (fun j => S.getD j 0 ^^^ b.getD j 0) (fun j => S.getD j 0) n j⟩
        have hv := u8_xor' (S.getD j 0) (b.getD j 0)
        have HLp : Kp (j < (cells8 (partU (fun j => S.getD j 0 ^^^ b.getD j 0) (fun j => S.getD j 0) n j)).length) := ⟨by rw [cells8_length, partU_length]; exact hlt⟩
        have HV : Kp (S.getD j 0 ^^^ b.getD j 0 = S.getD j 0 ^^^ b.getD j 0) := ⟨rfl⟩
        generalize hxy : S.getD j 0 ^^^ b.getD j 0 = xy at hv HSet
        generalize S.getD j 0 = x at cs hv
        generalize b.getD j 0 = y at cb hv
        clear hcb
        go_wp2_with fail
        go_still_tail 9, (by kernel_rfl)
        change wpList _ _ _ _ _ wr.drew
        go_wp2
        refine ⟨⟨j + 1, by omega, by go_num, ⟨?_⟩, (ho.trans (Only.setCell wr ⟨g, j, none⟩ _)).drew⟩, by simp [intOf]; omega⟩
        have h3 := (HK.out.set j (.int .u8 (xy.toNat : Int))).drew
        rw [List.set_append_left _ _ HLp.out, HSet.out] at h3
        exact h3
      · obtain rfl : j = n := by omega
        have hBs : Kp (Bs wr wr.heap.size (some ⟨g, 0, none⟩) j cap (addL S b j)) := ⟨by
          have h := HK.out
          rw [HPD.out] at h
          exact h.bytes h.lt (by rw [List.drop_zero, List.take_append_of_le_length (by rw [cells8_length, addL_length]; omega), List.take_of_length_le (by rw [cells8_length, addL_length]; omega)]) (addL_length _ _ _) cap hnc hcm⟩
        have hBf : Below w.heap.size w wr := hB2.trans (ho.below (by omega))
        clear HK HPD
        go_wp2
        go_ret
        exact ⟨_, _, rfl, by rw [← HS.out]; exact hBs.out, hBf⟩
end Go.Proofs.YtckmobpjdpjocaaDoor

namespace Go.Proofs.YtckmobpjdpjocaaDoor
open Go.RowKit

set_option maxHeartbeats 1000000 in
theorem head_any (e s : Nat) (w : World) (he : e < 18446744073709551616) (hs : s < 4294967296) :
    Calls Tryd.prog 14 #[.int .u64 e, .int .u32 s] w fun x w' => x = .returned (.agg (cells8 (headL e s)).toArray) ∧ Below w.heap.size w w' := by
  go_enter Tryd.func14, Tryd.ntmps14
  go_wp2_with (with_reducible refine wpList_alloc (o := ⟨some 4, _, _, _, _, _⟩) tyNonce rfl rfl ?_)
  intro w1 hk1 hb1 hs1
  have HK1 : Kp _ := ⟨hk1⟩
  clear hk1 hs1
  have hsI : (s : Int) < 4294967296 := by omega
  have h0I : (0 : Int) < 18446744073709551616 := by omega
  go_wp2_with fail
  refine (put8_any e _ he).mono ?_
  rintro x w2 ⟨A1, c1, rfl, hB1, hb2⟩
  have HK2 : Kp _ := ⟨HK1.out.below hb2 HK1.out.lt⟩
  replace hb2 := hb1.trans (hb2.mono hb1.size)
  have HB1 : Kp _ := ⟨hB1⟩
  clear hB1 hb1 HK1
  go_wp2_with fail
  refine (put4_any s _ (by omega)).mono ?_
  rintro x w3 ⟨A2, c2, rfl, hB2, hb3⟩
  have HK3 : Kp _ := ⟨HK2.out.below hb3 HK2.out.lt⟩
  have HB1' : Kp _ := ⟨HB1.out.next hb3 (Nat.le_refl _)⟩
  replace hb3 := hb2.trans (hb3.mono hb2.size)
  have HB2 : Kp _ := ⟨hB2⟩
  clear hB2 hb2 HK2 HB1
  go_wp2_with fail
  refine (put4_any 0 _ (by omega)).mono ?_
  rintro x w4 ⟨A3, c3, rfl, hB3, hb4⟩
  have HK4 : Kp _ := ⟨HK3.out.below hb4 HK3.out.lt⟩
  have HB1 : Kp _ := ⟨HB1'.out.next hb4 (Nat.le_refl _)⟩
  have HB2' : Kp _ := ⟨HB2.out.next hb4 (Nat.le_refl _)⟩
  replace hb4 := hb3.trans (hb4.mono hb3.size)
  have HL : Kp _ := ⟨ls_three w4 26 HB1.out HB2'.out hB3⟩
  clear hB3 hb3 HK3 HB1 HB1' HB2 HB2'
  go_wp2_with fail
  refine (joinL_any _ _ _ _ 16 (headL e s) _ HL.out (by simp [headL]) (headL_length e s) (by omega)).mono ?_
  rintro x w5 ⟨A5, c5, rfl, hB5, hb5⟩
  have hb5' := hb5
  have hb45 := (Below.refl _ w4).alloc (Nat.le_refl _) (.cells #[.slice A1 8 c1, .slice A2 4 c2, .slice A3 4 c3] 26)
  replace hb5 := hb4.trans ((hb45.trans (hb5.mono (by simp))).mono hb4.size)
  have HK5 : Kp _ := ⟨HK4.out.below (hb45.trans (hb5'.mono (by simp))) HK4.out.lt⟩
  obtain ⟨b5, o5, rfl, _, hr5⟩ := hB5.range (by omega)
  have HR5 : Kp _ := ⟨hr5 16⟩
  rw [List.take_of_length_le (Nat.le_of_eq (headL_length e s))] at HR5
  have HZ : Kp (zero16.length = 16) := ⟨rfl⟩
  have HLn : Kp ((cells8 (headL e s)).length = 16) := ⟨by rw [cells8_length, headL_length]⟩
  clear hr5 hB5 hb45 hb5' hb4 HK4 HL
  obtain ⟨L, hL⟩ : ∃ L, L = cells8 (headL e s) := ⟨_, rfl⟩
  have HG : Kp (L = cells8 (headL e s)) := ⟨hL⟩
  have HOne : Kp (∀ v ∈ L, v.oneCell' = true) := ⟨by rw [hL]; exact cells8_one _⟩
  rw [← hL] at HR5 HLn
  clear hL
  go_wp2_with (first
    | (with_reducible refine wpList_toArr Tryd.underlying39 rfl (.tmp 12) rfl rfl (Nat.le_refl _) ?_)
    | (with_reducible refine wpList_loadR (o := ⟨some 14, _, _, _, _, _⟩) rwNonce rfl (.tmp 13) rfl rfl HR5.out HLn.out ?_)
    | (with_reducible refine wpList_storeAll (o := ⟨none, _, _, _, _, _⟩) (vs := L) rwNonce rfl (.tmp 4) (.tmp 14) rfl rfl HK5.out HZ.out HLn.out HOne.out rfl ?_))
  intro w6 hk6 ho6
  have HK6 : Kp _ := ⟨hk6⟩
  clear hk6
  go_wp2
  exact ret_arr rfl rwNonce rfl HK6.out HLn.out rfl ⟨by rw [HG.out], hb5.trans (ho6.below (Nat.le_refl _))⟩
end Go.Proofs.YtckmobpjdpjocaaDoor

namespace Go.Proofs.YtckmobpjdpjocaaDoor
open Go.RowKit

theorem Blk.all {W : World} {g : Nat} {t : TypeId} {cs : List Value} (h : Blk W g t cs) : W.rangeAt g 0 cs := h.range (n := cs.length) (by rw [List.drop_zero, List.take_length])
/-- what is held through the region: two blocks -/
structure SD (w0 W : World) (g1 : Nat) (t1 : TypeId) (c1 : List Value) (g2 : Nat) (t2 : TypeId) (c2 : List Value) : Prop where
  below : Below w0.heap.size w0 W
  a : Blk W g1 t1 c1
  b : Blk W g2 t2 c2
  la : g1 < w0.heap.size
  lb : g2 < w0.heap.size
theorem SD.next {w0 W W' : World} {g1 g2 : Nat} {t1 t2 : TypeId} {c1 c2 : List Value} (h : SD w0 W g1 t1 c1 g2 t2 c2) (hb : Below W.heap.size W W') : SD w0 W' g1 t1 c1 g2 t2 c2 :=
  ⟨h.below.trans (hb.mono h.below.size), h.a.below hb h.a.lt, h.b.below hb h.b.lt, h.la, h.lb⟩
theorem SD.drew {w0 W : World} {g1 g2 : Nat} {t1 t2 : TypeId} {c1 c2 : List Value} (h : SD w0 W g1 t1 c1 g2 t2 c2) : SD w0 W.drew g1 t1 c1 g2 t2 c2 := ⟨h.below.drew, h.a.drew, h.b.drew, h.la, h.lb⟩
theorem SD.fst {w0 W : World} {g1 g2 : Nat} {t1 t2 : TypeId} {c1 c2 : List Value} (h : SD w0 W g1 t1 c1 g2 t2 c2) : W.rangeAt g1 0 c1 := h.a.all

/-- three blocks -/
structure SH (w0 W : World) (g1 : Nat) (t1 : TypeId) (c1 : List Value) (g2 : Nat) (t2 : TypeId) (c2 : List Value) (g3 : Nat) (t3 : TypeId) (c3 : List Value) : Prop where
  sd : SD w0 W g1 t1 c1 g2 t2 c2
  c : Blk W g3 t3 c3
  lc : g3 < w0.heap.size
theorem SH.next {w0 W W' : World} {g1 g2 g3 : Nat} {t1 t2 t3 : TypeId} {c1 c2 c3 : List Value} (h : SH w0 W g1 t1 c1 g2 t2 c2 g3 t3 c3) (hb : Below W.heap.size W W') : SH w0 W' g1 t1 c1 g2 t2 c2 g3 t3 c3 :=
  ⟨h.sd.next hb, h.c.below hb h.c.lt, h.lc⟩
theorem SH.drew {w0 W : World} {g1 g2 g3 : Nat} {t1 t2 t3 : TypeId} {c1 c2 c3 : List Value} (h : SH w0 W g1 t1 c1 g2 t2 c2 g3 t3 c3) : SH w0 W.drew g1 t1 c1 g2 t2 c2 g3 t3 c3 := ⟨h.sd.drew, h.c.drew, h.lc⟩
/-- bytes, xored with the stream of a head -/
def xorL (key hd b : List UInt8) : List UInt8 := addL (strL (strF key hd) 256) b 256
theorem xorL_length (key hd b : List UInt8) : (xorL key hd b).length = 256 := addL_length _ _ _
/-- a block, hidden -/
def hideL (key : List UInt8) (e s : Nat) (b : List UInt8) : List UInt8 := headL e s ++ xorL key (headL e s) (pad256 b)
theorem hideL_length (key : List UInt8) (e s : Nat) (b : List UInt8) : (hideL key e s b).length = 272 := by simp [hideL, headL_length, xorL_length]
def showL (key b : List UInt8) : List UInt8 := xorL key (b.take 16) (b.drop 16)
theorem showL_length (key b : List UInt8) : (showL key b).length = 256 := xorL_length _ _ _
/-- a whole block of bytes, as a slice -/
theorem Blk.whole {W : World} {g : Nat} {t : TypeId} {l : List UInt8} {n : Nat} (h : Blk W g t (cells8 l)) (hl : l.length = n) (hm : n ≤ maxLen) : Bs W W.heap.size (some ⟨g, 0, none⟩) n n l :=
  h.bytes h.lt (by rw [List.drop_zero, List.take_of_length_le (by rw [cells8_length]; omega)]) hl n (Nat.le_refl _) hm
end Go.Proofs.YtckmobpjdpjocaaDoor

namespace Go.Proofs.YtckmobpjdpjocaaDoor
open Go.RowKit

set_option maxRecDepth 100000 in
set_option maxHeartbeats 2000000 in
theorem hide_bad (key : List UInt8) (e s : Nat) (A : Option Addr) (n c : Nat) (b : List UInt8) (w : World) (hn : 256 < n) (ha : Bs w w.heap.size A n c b) (hE : Ety w) :
    Calls Tryd.prog 10 #[.agg (cells8 key).toArray, .int .u64 e, .int .u32 s, .slice A n c] w fun x w' => x = .returned (.tuple #[.slice none 0 0, .int .i64 4]) ∧ Below w.heap.size w w' := by
  have HA : Kp _ := ⟨ha⟩
  have HE : Kp _ := ⟨hE⟩
  have HLz : Kp ((cells8 z256).length = 256) := ⟨by rw [cells8_length]; exact z256_length⟩
  clear ha hE
  go_enter Tryd.func10, Tryd.ntmps10
  go_wp2_with (with_reducible refine wpList_box (o := ⟨some 4, _, _, _, _, _⟩) rfl (.tmp 0) rfl rfl ?_)
  intro w1 hk1 hb1 hs1
  have HA1 : Kp _ := ⟨HA.out.next hb1 (Nat.le_refl _)⟩
  have HE1 : Kp _ := ⟨HE.out.next hb1⟩
  clear hk1 hs1 HA HE
  go_wp2_with fail
  refine (fill_bad A n c b w1 HA1.out hn).mono ?_
  rintro x w2 ⟨v, g, rfl, hf, hb2⟩
  have HF : Kp (Flt w2 v g) := ⟨hf⟩
  have HE2 : Kp _ := ⟨HE1.out.next hb2⟩
  have hv := hf.val
  have hB2 := hb1.trans (hb2.mono hb1.size)
  clear hf HA1 HE1 hb1 hb2
  obtain ⟨L, hL⟩ : ∃ L, L = cells8 z256 := ⟨_, rfl⟩
  have HOne : Kp (∀ v ∈ L, v.oneCell' = true) := ⟨by rw [hL]; exact cells8_one _⟩
  have HTy : Kp (Ty Tryd.prog 57 L) := ⟨by rw [hL]; exact ty256⟩
  rw [← hL] at HLz ⊢
  clear hL
  go_wp2_with (with_reducible refine wpList_alloc (o := ⟨some 10, _, _, _, _, _⟩) HTy.out rfl rfl ?_)
  intro w3 hk3 hb3 hs3
  have HK3 : Kp _ := ⟨hk3⟩
  have HF3 : Kp _ := ⟨HF.out.below hb3 HF.out.lt⟩
  have HE3 : Kp _ := ⟨HE2.out.next hb3⟩
  have hlt := HF.out.lt
  have hB3 := hB2.trans (hb3.mono hB2.size)
  have h2 := hB2.size
  clear hk3 hs3 hb3 hB2 HF HE2
  go_wp2_with (with_reducible refine wpList_storeAll (o := ⟨none, _, _, _, _, _⟩) (vs := L) rw256 rfl (.tmp 10) (.tmp 16) rfl rfl HK3.out HLz.out HLz.out HOne.out rfl ?_)
  intro w4 hk4 ho4
  have HF4 : Kp (Flt w4 v g) := ⟨⟨HF3.out.val, by rw [ho4.size]; exact HF3.out.lt, by have h := HF3.out.cell; simp only [World.cell?] at h ⊢; rw [ho4.block g (by omega)]; exact h⟩⟩
  have HE4 : Kp (Ety w4) := ⟨⟨by have h := HE3.out.cell; simp only [World.cell?] at h ⊢; rw [ho4.block 0 (by omega)]; exact h⟩⟩
  have hB4 := hB3.trans (ho4.below h2)
  clear hk4 ho4 HK3 HF3 HE3 hB3 hlt h2
  subst hv
  go_wp2_with fail
  refine (number_bad _ g w4 HF4.out HE4.out).mono ?_
  rintro x w5 ⟨rfl, hb5⟩
  have hB5 := hB4.trans (hb5.mono hB4.size)
  clear hb5 hB4 HF4 HE4
  go_wp2
  go_ret2
  exact ⟨rfl, hB5⟩

set_option maxRecDepth 100000 in
set_option maxHeartbeats 4000000 in
theorem hide_any (key : List UInt8) (e s : Nat) (A : Option Addr) (n c : Nat) (b : List UInt8) (w : World) (hk : key.length = 16) (he : e < 18446744073709551616) (hs : s < 4294967296) (hn : n ≤ 256) (ha : Bs w w.heap.size A n c b) :
    Calls Tryd.prog 10 #[.agg (cells8 key).toArray, .int .u64 e, .int .u32 s, .slice A n c] w fun x w' => ∃ A' c', x = .returned (.tuple #[.slice A' 272 c', .int .i64 0]) ∧ Bs w' w'.heap.size A' 272 c' (hideL key e s b) ∧ Below w.heap.size w w' := by
  have HA : Kp _ := ⟨ha⟩
  have HK : Kp _ := ⟨hk⟩
  have HKl : Kp ((cells8 key).length = 16) := ⟨by rw [cells8_length]; exact hk⟩
  have HPl : Kp ((pad256 b).length = 256) := ⟨pad256_length b (by have := ha.len; omega)⟩
  have HHl : Kp ((headL e s).length = 16) := ⟨headL_length e s⟩
  have HXl : Kp ((hideL key e s b).length = 272) := ⟨hideL_length key e s b⟩
  clear ha hk
  have heI : (e : Int) < 18446744073709551616 := by omega
  have hsI : (s : Int) < 4294967296 := by omega
  go_enter Tryd.func10, Tryd.ntmps10
  go_wp2_with (with_reducible refine wpList_box (o := ⟨some 4, _, _, _, _, _⟩) rfl (.tmp 0) rfl rfl ?_)
  intro w1 hk1 hb1 hs1
  have HA1 : Kp _ := ⟨HA.out.next hb1 (Nat.le_refl _)⟩
  have HB1 : Kp _ := ⟨hk1⟩
  clear hk1 hs1 HA
  go_wp2_with fail
  refine (fill_ok A n c b w1 HA1.out hn).mono ?_
  rintro x w2 ⟨rfl, hb2⟩
  have HB2 : Kp _ := ⟨HB1.out.below hb2 HB1.out.lt⟩
  have hB2 := hb1.trans (hb2.mono hb1.size)
  have h1 := HB1.out.lt
  clear HA1 HB1 hb1
  obtain ⟨P, hP⟩ : ∃ P, P = pad256 b := ⟨_, rfl⟩
  have HGP : Kp _ := ⟨hP⟩
  have HPc : Kp ((cells8 P).length = 256) := ⟨by rw [cells8_length, hP]; exact HPl.out⟩
  have HZc : Kp ((cells8 z256).length = 256) := ⟨by rw [cells8_length]; exact z256_length⟩
  have HOne : Kp (∀ v ∈ cells8 P, v.oneCell' = true) := ⟨cells8_one _⟩
  rw [← hP] at HPl ⊢
  clear hP
  go_wp2_with (with_reducible refine wpList_alloc (o := ⟨some 10, _, _, _, _, _⟩) ty256 rfl rfl ?_)
  intro w3 hk3 hb3 hs3
  have HK3 : Kp _ := ⟨hk3⟩
  have HB3 : Kp _ := ⟨HB2.out.below hb3 HB2.out.lt⟩
  have hB3 := hB2.trans (hb3.mono hB2.size)
  have h2 : w.heap.size < w2.heap.size := HB2.out.lt
  obtain ⟨gp, hgp⟩ : ∃ g, g = w2.heap.size := ⟨_, rfl⟩
  rw [← hgp] at HK3 h2 ⊢
  clear hk3 hs3 hb3 hB2 HB2 hgp hb2 h1
  go_wp2_with (with_reducible refine wpList_storeAll (o := ⟨none, _, _, _, _, _⟩) (vs := cells8 P) rw256 rfl (.tmp 10) (.tmp 16) rfl rfl HK3.out HZc.out HPc.out HOne.out rfl ?_)
  intro w4 hk4 ho4
  have HP4 : Kp _ := ⟨hk4⟩
  have HB4 : Kp _ := ⟨HB3.out.only ho4 (by omega)⟩
  have hB4 := hB3.trans (ho4.below (Nat.le_of_lt h2))
  clear hk4 ho4 HK3 HB3 hB3
  go_wp2_with fail
  refine (head_any e s w4 he hs).mono ?_
  rintro x w5 ⟨rfl, hb5⟩
  have HP5 : Kp _ := ⟨HP4.out.below hb5 HP4.out.lt⟩
  have HB5 : Kp _ := ⟨HB4.out.below hb5 HB4.out.lt⟩
  have hB5 := hB4.trans (hb5.mono hB4.size)
  have h5 : gp < w5.heap.size := HP5.out.lt
  clear hb5 HP4 HB4 hB4
  obtain ⟨X, hX⟩ : ∃ P, P = hideL key e s b := ⟨_, rfl⟩
  have HGX : Kp _ := ⟨hX⟩
  rw [← hX] at HXl
  obtain ⟨Hd, hH⟩ : ∃ P, P = headL e s := ⟨_, rfl⟩
  have HGX2 : Kp (Hd ++ xorL key Hd P = X) := ⟨by rw [hX, hideL, ← hH, HGP.out]⟩
  rw [← hH] at HHl ⊢
  have HHc : Kp ((cells8 Hd).length = 16) := ⟨by rw [cells8_length]; exact HHl.out⟩
  have HZn : Kp (zero16.length = 16) := ⟨rfl⟩
  have HOnh : Kp (∀ v ∈ cells8 Hd, v.oneCell' = true) := ⟨cells8_one _⟩
  clear hX hH
  go_wp2_with (with_reducible refine wpList_alloc (o := ⟨some 12, _, _, _, _, _⟩) tyNonce rfl rfl ?_)
  intro w6 hk6 hb6 hs6
  have HK6 : Kp _ := ⟨hk6⟩
  have HP6 : Kp _ := ⟨HP5.out.below hb6 HP5.out.lt⟩
  have HB6 : Kp _ := ⟨HB5.out.below hb6 HB5.out.lt⟩
  have hB6 := hB5.trans (hb6.mono hB5.size)
  obtain ⟨gh, hgh⟩ : ∃ g, g = w5.heap.size := ⟨_, rfl⟩
  have h6 : gp < gh := by omega
  have h7 : w.heap.size < gh := by omega
  rw [← hgh] at HK6 ⊢
  clear hk6 hs6 hb6 hB5 HB5 HP5 hgh h5
  go_wp2_with (with_reducible refine wpList_storeAll (o := ⟨none, _, _, _, _, _⟩) (vs := cells8 Hd) rwNonce rfl (.tmp 12) (.tmp 24) rfl rfl HK6.out HZn.out HHc.out HOnh.out rfl ?_)
  intro w7 hk7 ho7
  have HS : Kp (SH w7 w7 w.heap.size 23 (cells8 key) gh 39 (cells8 Hd) gp 57 (cells8 P)) :=
    ⟨⟨⟨Below.refl _ _, HB6.out.only ho7 (by omega), hk7, (HB6.out.only ho7 (by omega)).lt, hk7.lt⟩, HP6.out.only ho7 (by omega), (HP6.out.only ho7 (by omega)).lt⟩⟩
  have hB7 := hB6.trans (ho7.below (Nat.le_of_lt h7))
  clear hk7 ho7 HK6 HB6 HP6 hB6 h2 h6 h7 HZn HZc HOne HOnh
  go_wp2_with fail
  refine wp_region_held_drew (S := fun W => SH w7 W w.heap.size 23 (cells8 key) gh 39 (cells8 Hd) gp 57 (cells8 P)) (by kernel_rfl) (HS.out.drew) (fun hHeld => ?_)
  generalize w7.drew = wS at *
  refine wpAnyH_take (i := 0) (oi := ⟨some 25, _, _, _, _, _⟩) (v := ?_) rfl (by kernel_rfl) (by kernel_rfl) (by kernel_rfl) (fun _ _ _ h => h) (Or.inl ⟨by rfl, by intro w hSw; go_simp; try rfl⟩) (by assumption) ?_
  try simp only [Act.put, List.setIfInBounds_toArray, List.set_cons_zero, List.set_cons_succ]
  refine wpAnyH_take (i := 1) (oi := ⟨some 26, _, _, _, _, _⟩) (v := _) rfl (by kernel_rfl) (by kernel_rfl) (by kernel_rfl) (fun _ _ _ h => h) (yieldsIf_load_mid (by rfl) 23 (.tmp 4) rfl w.heap.size 0 rfl (cells8 key) _ (fun W hW => hW.sd.a.all) rwKey.ty rwKey.row (by rw [rwKey.size, HKl.out])) (by assumption) ?_
  try simp only [Act.put, List.setIfInBounds_toArray, List.set_cons_zero, List.set_cons_succ]
  refine wpAnyH_take (i := 3) (oi := ⟨some 28, _, _, _, _, _⟩) (v := _) rfl (by kernel_rfl) (by kernel_rfl) (by kernel_rfl) (fun _ _ _ h => h) (yieldsIf_load_mid (by rfl) 39 (.tmp 12) rfl gh 0 rfl (cells8 Hd) _ (fun W hW => hW.sd.b.all) rwNonce.ty rwNonce.row (by rw [rwNonce.size, HHc.out])) (by assumption) ?_
  try simp only [Act.put, List.setIfInBounds_toArray, List.set_cons_zero, List.set_cons_succ]
  refine wpAnyH_take (i := 4) (oi := ⟨some 29, _, _, _, _, _⟩) (v := ?_) rfl (by kernel_rfl) (by kernel_rfl) (by kernel_rfl) (fun _ _ _ h => h) (Or.inl ⟨by rfl, by intro w hSw; go_simp; try rfl⟩) (by assumption) ?_
  try simp only [Act.put, List.setIfInBounds_toArray, List.set_cons_zero, List.set_cons_succ]
  refine wpAnyH_ready (rs := [2]) (by kernel_rfl) (by simp) ?_
  refine AllReadyH.cons (o := ⟨some 27, _, _, _, _, _⟩) rfl (fun K hK => ?_) AllReadyH.nil
  go_simp
  refine (new_any key wS HK.out).mono ?_
  rintro x w51 ⟨gc, rfl, hci, hb'⟩
  have HC : Kp _ := ⟨hci⟩
  refine hK.out _ _ (hHeld.next hb') (fun hHeld2 => ?_)
  clear hb' hci
  clear hK K hHeld
  have hHeld := hHeld2
  clear hHeld2
  try simp only [Act.put, List.setIfInBounds_toArray, List.set_cons_zero, List.set_cons_succ]
  refine wpAnyH_ready (rs := [5]) (by kernel_rfl) (by simp) ?_
  refine AllReadyH.cons (o := ⟨some 30, _, _, _, _, _⟩) rfl (fun K hK => ?_) AllReadyH.nil
  have HBp : Kp _ := ⟨hHeld.c.whole HPl.out (by simp [maxLen])⟩
  go_simp
  refine (xor_any gc key Hd (some ⟨gp, 0, none⟩) 256 256 P w51 HC.out HHl.out HBp.out (by omega)).mono ?_
  rintro x w52 ⟨A5, d5, rfl, hx5, hb'⟩
  have HX5 : Kp _ := ⟨hx5⟩
  refine hK.out _ _ (hHeld.next hb') (fun hHeld2 => ?_)
  clear hb' hx5 HC HBp
  clear hK K hHeld
  have hHeld := hHeld2
  clear hHeld2
  try simp only [Act.put, List.setIfInBounds_toArray, List.set_cons_zero, List.set_cons_succ]
  refine wpAnyH_ready (rs := [6]) (by kernel_rfl) (by simp) ?_
  refine AllReadyH.cons (o := ⟨some 31, _, _, _, _, _⟩) rfl (fun K hK => ?_) AllReadyH.nil
  have HL2 : Kp _ := ⟨ls_two w52 26 (hHeld.sd.b.whole HHl.out (by simp [maxLen])) HX5.out⟩
  go_simp
  refine hK.out _ _ (hHeld.next ((Below.refl _ _).alloc (Nat.le_refl _) _)) (fun hHeld2 => ?_)
  clear HX5
  clear hK K hHeld
  have hHeld := hHeld2
  clear hHeld2
  try simp only [Act.put, List.setIfInBounds_toArray, List.set_cons_zero, List.set_cons_succ]
  refine wpAnyH_ready (rs := [7]) (by kernel_rfl) (by simp) ?_
  refine AllReadyH.cons (o := ⟨some 32, _, _, _, _, _⟩) rfl (fun K hK => ?_) AllReadyH.nil
  go_simp
  refine (joinL_any _ _ _ _ 272 X _ HL2.out (by rw [← HGX2.out]; simp [xorL]) HXl.out (by omega)).mono ?_
  rintro x w54 ⟨A6, d6, rfl, hx6, hb'⟩
  have HX6 : Kp _ := ⟨hx6⟩
  refine hK.out _ _ (hHeld.next hb') (fun hHeld2 => ?_)
  clear hb' hx6 HL2
  clear hK K hHeld
  have hHeld := hHeld2
  clear hHeld2
  try simp only [Act.put, List.setIfInBounds_toArray, List.set_cons_zero, List.set_cons_succ]
  refine wpAnyH_take (i := 8) (oi := ⟨some 8, _, _, _, _, _⟩) (v := ?_) rfl (by kernel_rfl) (by kernel_rfl) (by kernel_rfl) (fun _ _ _ h => h) (Or.inl ⟨by rfl, by intro w hSw; go_simp; try rfl⟩) (by assumption) ?_
  try simp only [Act.put, List.setIfInBounds_toArray, List.set_cons_zero, List.set_cons_succ]
  refine wpAnyH_take (i := 9) (oi := ⟨some 9, _, _, _, _, _⟩) (v := ?_) rfl (by kernel_rfl) (by kernel_rfl) (by kernel_rfl) (fun _ _ _ h => h) (Or.inl ⟨by rfl, by intro w hSw; go_simp; try rfl⟩) (by assumption) ?_
  try simp only [Act.put, List.setIfInBounds_toArray, List.set_cons_zero, List.set_cons_succ]
  refine wpAnyH_done (by kernel_rfl) ?_ _
  have hB := hB7.trans (hHeld.sd.below.mono hB7.size)
  clear hHeld
  go_wp2
  go_ret2
  exact ⟨A6, d6, rfl, by rw [← HGX.out]; exact HX6.out, hB⟩
end Go.Proofs.YtckmobpjdpjocaaDoor
