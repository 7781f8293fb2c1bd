/- The contract of package aes's Next. -/
import Derived.Test.YtleplilcpcgacaaAesNew
namespace Go.Proofs.Ytleplilcpcgacaa
open Go.RowKit

set_option maxRecDepth 100000 in
set_option maxHeartbeats 4000000 in
theorem next_mid (a : List UInt8) (N : Nat) (w : World) (ha : a.length = 16) (hN : N ≤ 9223372036854775807) :
    Calls Try.prog 21 #[.agg (cells8 a).toArray, .int .i64 (N : Int)] w fun e w' => e = .returned (.agg (cells8 (nextL a N)).toArray) ∧ Below w.heap.size w w' := by
  have HLa : Kp (a.length = 16) := ⟨ha⟩
  clear ha
  go_enter Try.func21, Try.ntmps21
  go_wp2_with (with_reducible refine wpList_box (o := ⟨some 2, _, _, _, _, _⟩) rfl (.tmp 0) rfl rfl ?_)
  intro w1 hk1 hb1 hs1
  have HK1 : Kp _ := ⟨hk1⟩
  clear hk1 hs1
  go_wp2_with (with_reducible refine wpList_alloc (o := ⟨some 4, _, _, _, _, _⟩) tyNonce rfl rfl ?_)
  intro w2 hk2 hb2 hs2
  have HR2 : Kp _ := ⟨hk2⟩
  have HK2 : Kp (Blk w2 w.heap.size 31 (cells8 (nextC a N 16))) := ⟨by rw [nextC_start _ _ HLa.out]; exact HK1.out.below hb2 HK1.out.lt⟩
  have hB2 : Below w.heap.size w w2 := hb1.trans (hb2.mono hb1.size)
  have hgg : w.heap.size < w1.heap.size := HK1.out.lt
  obtain ⟨g, hg⟩ : ∃ g, g = w1.heap.size := ⟨_, rfl⟩
  rw [← hg] at HR2 hgg ⊢
  clear hk2 HK1 hb1 hb2 hs2 hg
  have h0 : (0 : Int) ≤ (N : Int) := by omega
  have hN63 : (N : Int) ≤ 9223372036854775807 := by omega
  go_wp2
  go_loopw [5, 11] (fun vn vi wr => ∃ (i k q : Nat), i ≤ 16 ∧ Kp (k = 16 - i) ∧ vi = .int .i64 i ∧ vn = .int .u64 q ∧ q ≤ 9223372036854775807 ∧ Kp (q = nextS a N k / 256 ^ (16 - k)) ∧ Kp (Blk wr w.heap.size 31 (cells8 (nextC a N k))) ∧ Only w.heap.size w2 wr) (fun _ vi _ => 16 - (intOf vi).toNat)
  case atStart => exact ⟨0, 16, N, by omega, ⟨rfl⟩, rfl, by first | rfl | simp, by omega, ⟨by unfold nextS; rw [List.drop_of_length_le (by rw [HLa.out]; exact Nat.le_refl _)]; simp [getN]⟩, HK2, Only.refl _ _⟩
  case round =>
    clear HK2
    obtain ⟨i, k, q, hi, hk, rfl, rfl, hq, HQ, HB, ho⟩ := hrel
    cases k with
    | zero =>
      obtain rfl : i = 16 := by have := hk.out; omega
      have HD : Kp (Blk wr w.heap.size 31 (cells8 (nextL a N))) := ⟨by rw [← nextC_done]; exact HB.out⟩
      have HLen : Kp ((cells8 (nextL a N)).length = 16) := ⟨by rw [cells8_length, nextL_length]⟩
      have HZ : Kp (zero16.length = 16) := ⟨rfl⟩
      have HRr : Kp _ := ⟨HR2.out.only ho (by omega)⟩
      obtain ⟨L, hL⟩ : ∃ L, L = nextL a N := ⟨_, rfl⟩
      have HL : Kp _ := ⟨hL⟩
      rw [← hL] at HD HLen
      clear HB HQ hL
      go_wp2_with (first
        | (with_reducible refine wpList_loadAll (o := ⟨some 29, _, _, _, _, _⟩) rwNonce rfl (.tmp 2) rfl rfl HD.out HLen.out ?_)
        | (with_reducible refine wpList_storeAll (o := ⟨none, _, _, _, _, _⟩) (vs := cells8 L) rwNonce rfl (.tmp 4) (.tmp 29) rfl rfl HRr.out HZ.out HLen.out (cells8_one _) rfl ?_))
      intro w5 hk5 ho5
      have HK5 : Kp _ := ⟨hk5⟩
      clear hk5
      go_wp2
      exact ret_arr rfl rwNonce rfl HK5.out HLen.out rfl ⟨by rw [HL.out], (hB2.trans (ho.below (Nat.le_refl _))).trans (ho5.below (Nat.le_of_lt hgg))⟩
    | succ k =>
      have hik : i + k = 15 := by have := hk.out; omega
      have hkl : k < a.length := by rw [HLa.out]; omega
      have hc : wr.cell? ⟨w.heap.size, k, none⟩ = some (.int .u8 (a[k].toNat : Int)) := by rw [HB.out.cell? k]; exact next_at a N k hkl HLa.out
      have hf := HB.out.frozen k
      have HN : Kp _ := ⟨next_row a N k hkl HLa.out⟩
      have HC : Kp _ := ⟨next_carry a N k hkl HLa.out⟩
      rw [← HQ.out] at HN HC
      have hb8 := a[k].toNat_lt
      generalize a[k] = b at *
      have e1 : (15 : Int) - (i : Int) = (k : Int) := by omega
      have hk16 : (k : Int) < 16 := by omega
      have hi16 : (i : Int) < 16 := by omega
      have HIK : Kp (i + k = 15) := ⟨hik⟩
      clear HQ hkl hk hik
      go_wp2
      refine ⟨⟨i + 1, k, (b.toNat + q) / 256, by omega, ⟨by have := HIK.out; omega⟩, by go_num, ?_, by omega, ⟨HC.out.symm⟩, ⟨?_⟩, ho.trans (Only.setCell wr ⟨w.heap.size, k, none⟩ _)⟩, by first | (simp [intOf]; done) | (simp [intOf]; omega)⟩
      · first | rfl | (congr 1; omega)
      · have h3 := HB.out.set k (.int .u8 ((UInt8.ofNat (b.toNat + q)).toNat : Int))
        rw [HN.out] at h3
        have e : ((q : Int) + (b.toNat : Int)) % 256 = ((UInt8.ofNat (b.toNat + q)).toNat : Int) := by rw [ofNat_toNat]; omega
        rw [e]
        exact h3
set_option maxRecDepth 100000 in
set_option maxHeartbeats 4000000 in
theorem next_neg (a : List UInt8) (n : Int) (w : World) (ha : a.length = 16) (hn : n < 0) :
    Calls Try.prog 21 #[.agg (cells8 a).toArray, .int .i64 n] w fun e w' => e = .returned (.agg (cells8 (nextL a 0)).toArray) ∧ Below w.heap.size w w' := by
  have HLa : Kp (a.length = 16) := ⟨ha⟩
  clear ha
  go_enter Try.func21, Try.ntmps21
  go_wp2_with (with_reducible refine wpList_box (o := ⟨some 2, _, _, _, _, _⟩) rfl (.tmp 0) rfl rfl ?_)
  intro w1 hk1 hb1 hs1
  have HK1 : Kp _ := ⟨hk1⟩
  clear hk1 hs1
  go_wp2_with (with_reducible refine wpList_alloc (o := ⟨some 4, _, _, _, _, _⟩) tyNonce rfl rfl ?_)
  intro w2 hk2 hb2 hs2
  have HR2 : Kp _ := ⟨hk2⟩
  have HK2 : Kp (Blk w2 w.heap.size 31 (cells8 (nextC a 0 16))) := ⟨by rw [nextC_start _ _ HLa.out]; exact HK1.out.below hb2 HK1.out.lt⟩
  have hB2 : Below w.heap.size w w2 := hb1.trans (hb2.mono hb1.size)
  have hgg : w.heap.size < w1.heap.size := HK1.out.lt
  obtain ⟨g, hg⟩ : ∃ g, g = w1.heap.size := ⟨_, rfl⟩
  rw [← hg] at HR2 hgg ⊢
  clear hk2 HK1 hb1 hb2 hs2 hg
  go_wp2
  go_loopw [5, 11] (fun vn vi wr => ∃ (i k q : Nat), i ≤ 16 ∧ Kp (k = 16 - i) ∧ vi = .int .i64 i ∧ vn = .int .u64 q ∧ q ≤ 9223372036854775807 ∧ Kp (q = nextS a 0 k / 256 ^ (16 - k)) ∧ Kp (Blk wr w.heap.size 31 (cells8 (nextC a 0 k))) ∧ Only w.heap.size w2 wr) (fun _ vi _ => 16 - (intOf vi).toNat)
  case atStart => exact ⟨0, 16, 0, by omega, ⟨rfl⟩, rfl, by first | rfl | simp, by omega, ⟨by unfold nextS; rw [List.drop_of_length_le (by rw [HLa.out]; exact Nat.le_refl _)]; simp [getN]⟩, HK2, Only.refl _ _⟩
  case round =>
    clear HK2
    obtain ⟨i, k, q, hi, hk, rfl, rfl, hq, HQ, HB, ho⟩ := hrel
    cases k with
    | zero =>
      obtain rfl : i = 16 := by have := hk.out; omega
      have HD : Kp (Blk wr w.heap.size 31 (cells8 (nextL a 0))) := ⟨by rw [← nextC_done]; exact HB.out⟩
      have HLen : Kp ((cells8 (nextL a 0)).length = 16) := ⟨by rw [cells8_length, nextL_length]⟩
      have HZ : Kp (zero16.length = 16) := ⟨rfl⟩
      have HRr : Kp _ := ⟨HR2.out.only ho (by omega)⟩
      obtain ⟨L, hL⟩ : ∃ L, L = nextL a 0 := ⟨_, rfl⟩
      have HL : Kp _ := ⟨hL⟩
      rw [← hL] at HD HLen
      clear HB HQ hL
      go_wp2_with (first
        | (with_reducible refine wpList_loadAll (o := ⟨some 29, _, _, _, _, _⟩) rwNonce rfl (.tmp 2) rfl rfl HD.out HLen.out ?_)
        | (with_reducible refine wpList_storeAll (o := ⟨none, _, _, _, _, _⟩) (vs := cells8 L) rwNonce rfl (.tmp 4) (.tmp 29) rfl rfl HRr.out HZ.out HLen.out (cells8_one _) rfl ?_))
      intro w5 hk5 ho5
      have HK5 : Kp _ := ⟨hk5⟩
      clear hk5
      go_wp2
      exact ret_arr rfl rwNonce rfl HK5.out HLen.out rfl ⟨by rw [HL.out], (hB2.trans (ho.below (Nat.le_refl _))).trans (ho5.below (Nat.le_of_lt hgg))⟩
    | succ k =>
      have hik : i + k = 15 := by have := hk.out; omega
      have hkl : k < a.length := by rw [HLa.out]; omega
      have hc : wr.cell? ⟨w.heap.size, k, none⟩ = some (.int .u8 (a[k].toNat : Int)) := by rw [HB.out.cell? k]; exact next_at a 0 k hkl HLa.out
      have hf := HB.out.frozen k
      have HN : Kp _ := ⟨next_row a 0 k hkl HLa.out⟩
      have HC : Kp _ := ⟨next_carry a 0 k hkl HLa.out⟩
      rw [← HQ.out] at HN HC
      have hb8 := a[k].toNat_lt
      generalize a[k] = b at *
      have e1 : (15 : Int) - (i : Int) = (k : Int) := by omega
      have hk16 : (k : Int) < 16 := by omega
      have hi16 : (i : Int) < 16 := by omega
      have HIK : Kp (i + k = 15) := ⟨hik⟩
      clear HQ hkl hk hik
      go_wp2
      refine ⟨⟨i + 1, k, (b.toNat + q) / 256, by omega, ⟨by have := HIK.out; omega⟩, by go_num, ?_, by omega, ⟨HC.out.symm⟩, ⟨?_⟩, ho.trans (Only.setCell wr ⟨w.heap.size, k, none⟩ _)⟩, by first | (simp [intOf]; done) | (simp [intOf]; omega)⟩
      · first | rfl | (congr 1; omega)
      · have h3 := HB.out.set k (.int .u8 ((UInt8.ofNat (b.toNat + q)).toNat : Int))
        rw [HN.out] at h3
        have e : ((q : Int) + (b.toNat : Int)) % 256 = ((UInt8.ofNat (b.toNat + q)).toNat : Int) := by rw [ofNat_toNat]; omega
        rw [e]
        exact h3
theorem next_any (a : List UInt8) (n : Int) (w : World) (ha : a.length = 16) (hn : n ≤ 9223372036854775807) :
    Calls Try.prog 21 #[.agg (cells8 a).toArray, .int .i64 n] w fun e w' => e = .returned (.agg (cells8 (nextL a n.toNat)).toArray) ∧ Below w.heap.size w w' := by
  by_cases h : n < 0
  · have e : n.toNat = 0 := by omega
    rw [e]; exact next_neg a n w ha h
  · obtain ⟨N, rfl⟩ : ∃ N : Nat, n = N := ⟨n.toNat, by omega⟩
    have e : ((N : Int)).toNat = N := by omega
    rw [e]; exact next_mid a N w ha (by omega)
end Go.Proofs.Ytleplilcpcgacaa
