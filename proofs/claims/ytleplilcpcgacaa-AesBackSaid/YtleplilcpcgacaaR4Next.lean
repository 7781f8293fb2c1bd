/- The contract of sacristanref04's Next. -/
import Derived.Test.YtleplilcpcgacaaAesPure
import Derived.Test.YtleplilcpcgacaaPure
import Derived.Test.YtleplilcpcgacaaArr
import Derived.Test.YtleplilcpcgacaaRows
namespace Go.Proofs.Ytleplilcpcgacaa
open Go.RowKit

/-- a place, and so much more -/
def nextL (at' : List UInt8) (n : Nat) : List UInt8 := putN (getN at' + n) 16
theorem nextL_length (a : List UInt8) (n : Nat) : (nextL a n).length = 16 := putN_length _ _
theorem putN_mod (n m : Nat) : putN (n % 256 ^ m) m = putN n m := by
  have h := putN_getN (putN n m)
  rw [getN_putN, putN_length] at h
  exact h
/-- what the bytes from k on, and n more, come to -/
def nextS (a : List UInt8) (n k : Nat) : Nat := getN (a.drop k) + n
def nextC (a : List UInt8) (n k : Nat) : List UInt8 := a.take k ++ putN (nextS a n k) (16 - k)
theorem nextC_length (a : List UInt8) (n k : Nat) (ha : a.length = 16) (hk : k ≤ 16) : (nextC a n k).length = 16 := by
  unfold nextC; rw [List.length_append, putN_length, List.length_take]; omega
theorem nextS_step (a : List UInt8) (n k : Nat) (hk : k < a.length) (ha : a.length = 16) : nextS a n k = a[k].toNat * 256 ^ (15 - k) + nextS a n (k + 1) := by
  unfold nextS
  have e : a.drop k = [a[k]] ++ a.drop (k + 1) := by rw [List.drop_eq_getElem_cons hk]; rfl
  rw [e, getN_append, List.length_drop, ha, show 16 - (k + 1) = 15 - k by omega]
  have e1 : getN [a[k]] = a[k].toNat := by simp [getN]
  rw [e1]; omega
theorem next_div (a : List UInt8) (n k : Nat) (hk : k < a.length) (ha : a.length = 16) : nextS a n k / 256 ^ (15 - k) = a[k].toNat + nextS a n (k + 1) / 256 ^ (15 - k) := by
  rw [nextS_step a n k hk ha, Nat.add_comm, Nat.add_mul_div_right _ _ (Nat.pow_pos (by decide)), Nat.add_comm]
theorem next_carry (a : List UInt8) (n k : Nat) (hk : k < a.length) (ha : a.length = 16) : nextS a n k / 256 ^ (16 - k) = (a[k].toNat + nextS a n (k + 1) / 256 ^ (16 - (k + 1))) / 256 := by
  rw [show 16 - k = (15 - k) + 1 by omega, Nat.pow_succ, ← Nat.div_div_eq_div_mul, next_div a n k hk ha, show 16 - (k + 1) = 15 - k by omega]
theorem next_row (a : List UInt8) (n k : Nat) (hk : k < a.length) (ha : a.length = 16) :
    (cells8 (nextC a n (k + 1))).set k (.int .u8 ((UInt8.ofNat (a[k].toNat + nextS a n (k + 1) / 256 ^ (16 - (k + 1)))).toNat : Int)) = cells8 (nextC a n k) := by
  have h0 : 16 - k = (15 - k) + 1 := by omega
  have h1 : 16 - (k + 1) = 15 - k := by omega
  unfold nextC
  rw [h0, h1, putN_front, next_div a n k hk ha]
  have e2 : putN (nextS a n k) (15 - k) = putN (nextS a n (k + 1)) (15 - k) := by
    rw [← putN_mod (nextS a n k), ← putN_mod (nextS a n (k + 1)), nextS_step a n k hk ha, Nat.add_comm, Nat.add_mul_mod_self_right]
  rw [e2, List.take_succ_eq_append_getElem hk, List.append_assoc, cells8_append, cells8_append, List.set_append_right _ _ (by rw [cells8_length, List.length_take]; omega), cells8_length, List.length_take, Nat.min_eq_left (by omega), Nat.sub_self, cells8_append]
  rfl
theorem next_at (a : List UInt8) (n k : Nat) (hk : k < a.length) (ha : a.length = 16) : (cells8 (nextC a n (k + 1)))[k]? = some (.int .u8 (a[k].toNat : Int)) := by
  have hl := nextC_length a n (k + 1) ha (by omega)
  rw [cells8_at _ k (by omega)]
  have e : (nextC a n (k + 1))[k]'(by omega) = a[k] := by
    unfold nextC
    rw [List.getElem_append_left (by rw [List.length_take]; omega), List.getElem_take]
  rw [e]
theorem nextC_done (a : List UInt8) (n : Nat) : nextC a n 0 = nextL a n := by simp [nextC, nextS, nextL]
theorem nextC_start (a : List UInt8) (n : Nat) (ha : a.length = 16) : nextC a n 16 = a := by
  unfold nextC; rw [List.take_of_length_le (by omega)]; simp [putN]

def zero16 : List Value := cells8 (List.replicate 16 0)
theorem tyNonce : Ty Try.prog 31 zero16 := ⟨by kernel_rfl⟩
theorem rwNonce : Rw Try.prog 31 (.array 16 5) 16 := ⟨by kernel_rfl, rfl, by kernel_rfl⟩

set_option maxRecDepth 100000 in
set_option maxHeartbeats 4000000 in
theorem refnext_mid (a : List UInt8) (N : Nat) (w : World) (ha : a.length = 16) (hN : N ≤ 9223372036854775807) :
    Calls Try.prog 22 #[.agg (cells8 a).toArray, .int .i64 (N : Int)] w fun e w' => e = .returned (.agg (cells8 (nextL a N)).toArray) ∧ Below w.heap.size w w' := by
  have HLa : Kp (a.length = 16) := ⟨ha⟩
  clear ha
  go_enter Try.func22, Try.ntmps22
  go_wp2_with (with_reducible refine wpList_box (o := ⟨some 2, _, _, _, _, _⟩) rfl (.tmp 0) rfl rfl ?_)
  intro w1 hk1 hb1 hs1
  have HK1 : Kp _ := ⟨hk1⟩
  clear hk1 hs1
  go_wp2_with (with_reducible refine wpList_alloc (o := ⟨some 4, _, _, _, _, _⟩) tyNonce rfl rfl ?_)
  intro w2 hk2 hb2 hs2
  have HR2 : Kp _ := ⟨hk2⟩
  have hl1 := HK1.out.lt
  have HK2 : Kp (Blk w2 w.heap.size 31 (cells8 (nextC a N 16))) := ⟨by rw [nextC_start _ _ HLa.out]; exact HK1.out.below hb2 hl1⟩
  have hB2 : Below w.heap.size w w2 := hb1.trans (hb2.mono hb1.size)
  have hs1 := hb1.size
  obtain ⟨g, hg⟩ : ∃ g, g = w1.heap.size := ⟨_, rfl⟩
  rw [← hg] at HR2 ⊢
  have hgg : w.heap.size < g := by omega
  clear hk2 HK1 hb1 hb2 hs2 hg
  have h0 : (0 : Int) ≤ (N : Int) := by omega
  go_wp2
  go_loopw [1, 5] (fun vn vi wr => ∃ (k q : Nat), k ≤ 16 ∧ vi = .int .i64 ((k : Int) - 1) ∧ vn = .int .i64 q ∧ q ≤ 9223372036854775807 ∧ Kp (q = nextS a N k / 256 ^ (16 - k)) ∧ Kp (Blk wr w.heap.size 31 (cells8 (nextC a N k))) ∧ Only w.heap.size w2 wr) (fun _ vi _ => (intOf vi + 1).toNat)
  case atStart => exact ⟨16, N, by omega, rfl, by first | rfl | simp, by omega, ⟨by unfold nextS; rw [List.drop_of_length_le (by rw [HLa.out]; exact Nat.le_refl _)]; simp [getN]⟩, HK2, Only.refl _ _⟩
  case round =>
    clear HK2
    obtain ⟨k, q, hk, rfl, rfl, hq, HQ, HB, ho⟩ := hrel
    cases k with
    | zero =>
      have HD : Kp (Blk wr w.heap.size 31 (cells8 (nextL a N))) := ⟨by rw [← nextC_done]; exact HB.out⟩
      have HLen : Kp ((cells8 (nextL a N)).length = 16) := ⟨by rw [cells8_length, nextL_length]⟩
      have HZ : Kp (zero16.length = 16) := ⟨rfl⟩
      have HRr : Kp _ := ⟨HR2.out.only ho (by omega)⟩
      generalize hL : nextL a N = L at *
      have HL : Kp _ := ⟨hL⟩
      clear HB HQ hL
      have hneg : ¬ (0 : Int) ≤ ((0 : Nat) : Int) - 1 := by omega
      go_wp2_with (first
        | (with_reducible refine wpList_loadAll (o := ⟨some 30, _, _, _, _, _⟩) rwNonce rfl (.tmp 2) rfl rfl HD.out HLen.out ?_)
        | (with_reducible refine wpList_storeAll (o := ⟨none, _, _, _, _, _⟩) (vs := cells8 L) rwNonce rfl (.tmp 4) (.tmp 30) rfl rfl HRr.out HZ.out HLen.out (cells8_one _) rfl ?_))
      intro w5 hk5 ho5
      have HK5 : Kp _ := ⟨hk5⟩
      clear hk5
      go_wp2
      exact ret_arr rfl rwNonce rfl HK5.out HLen.out rfl ⟨by rw [HL.out], (hB2.trans (ho.below (Nat.le_refl _))).trans (ho5.below (Nat.le_of_lt hgg))⟩
    | succ k =>
      have hkl : k < a.length := by rw [HLa.out]; omega
      have hc : wr.cell? ⟨w.heap.size, k, none⟩ = some (.int .u8 (a[k].toNat : Int)) := by rw [HB.out.cell? k]; exact next_at a N k hkl HLa.out
      have hf := HB.out.frozen k
      have HN : Kp _ := ⟨next_row a N k hkl HLa.out⟩
      have HC : Kp _ := ⟨next_carry a N k hkl HLa.out⟩
      rw [← HQ.out] at HN HC
      have hb8 := a[k].toNat_lt
      generalize a[k] = b at *
      have e1 : ((k + 1 : Nat) : Int) - 1 = (k : Int) := by omega
      rw [e1]
      have hge : (0 : Int) ≤ (k : Int) := by omega
      clear e1 HQ hkl
      go_wp2
      refine ⟨⟨k, (b.toNat + q) / 256, by omega, by go_num, ?_, by omega, ⟨HC.out.symm⟩, ⟨?_⟩, ho.trans (Only.setCell wr ⟨w.heap.size, k, none⟩ _)⟩, by first | (simp [intOf]; done) | (simp [intOf]; omega)⟩
      · first | rfl | (congr 1; omega)
      · have h3 := HB.out.set k (.int .u8 ((UInt8.ofNat (b.toNat + q)).toNat : Int))
        rw [HN.out] at h3
        have e : ((q : Int) + (b.toNat : Int)) % 256 = ((UInt8.ofNat (b.toNat + q)).toNat : Int) := by rw [ofNat_toNat]; omega
        rw [e]
        exact h3

set_option maxRecDepth 100000 in
set_option maxHeartbeats 4000000 in
theorem refnext_neg (a : List UInt8) (n : Int) (w : World) (ha : a.length = 16) (hn : n < 0) :
    Calls Try.prog 22 #[.agg (cells8 a).toArray, .int .i64 n] w fun e w' => e = .returned (.agg (cells8 (nextL a 0)).toArray) ∧ Below w.heap.size w w' := by
  have HLa : Kp (a.length = 16) := ⟨ha⟩
  clear ha
  go_enter Try.func22, Try.ntmps22
  go_wp2_with (with_reducible refine wpList_box (o := ⟨some 2, _, _, _, _, _⟩) rfl (.tmp 0) rfl rfl ?_)
  intro w1 hk1 hb1 hs1
  have HK1 : Kp _ := ⟨hk1⟩
  clear hk1 hs1
  go_wp2_with (with_reducible refine wpList_alloc (o := ⟨some 4, _, _, _, _, _⟩) tyNonce rfl rfl ?_)
  intro w2 hk2 hb2 hs2
  have HR2 : Kp _ := ⟨hk2⟩
  have hl1 := HK1.out.lt
  have HK2 : Kp (Blk w2 w.heap.size 31 (cells8 (nextC a 0 16))) := ⟨by rw [nextC_start _ _ HLa.out]; exact HK1.out.below hb2 hl1⟩
  have hB2 : Below w.heap.size w w2 := hb1.trans (hb2.mono hb1.size)
  have hs1 := hb1.size
  obtain ⟨g, hg⟩ : ∃ g, g = w1.heap.size := ⟨_, rfl⟩
  rw [← hg] at HR2 ⊢
  have hgg : w.heap.size < g := by omega
  clear hk2 HK1 hb1 hb2 hs2 hg
  go_wp2
  go_loopw [1, 5] (fun vn vi wr => ∃ (k q : Nat), k ≤ 16 ∧ vi = .int .i64 ((k : Int) - 1) ∧ vn = .int .i64 q ∧ q ≤ 9223372036854775807 ∧ Kp (q = nextS a 0 k / 256 ^ (16 - k)) ∧ Kp (Blk wr w.heap.size 31 (cells8 (nextC a 0 k))) ∧ Only w.heap.size w2 wr) (fun _ vi _ => (intOf vi + 1).toNat)
  case atStart => exact ⟨16, 0, by omega, rfl, by first | rfl | simp, by omega, ⟨by unfold nextS; rw [List.drop_of_length_le (by rw [HLa.out]; exact Nat.le_refl _)]; simp [getN]⟩, HK2, Only.refl _ _⟩
  case round =>
    clear HK2
    obtain ⟨k, q, hk, rfl, rfl, hq, HQ, HB, ho⟩ := hrel
    cases k with
    | zero =>
      have HD : Kp (Blk wr w.heap.size 31 (cells8 (nextL a 0))) := ⟨by rw [← nextC_done]; exact HB.out⟩
      have HLen : Kp ((cells8 (nextL a 0)).length = 16) := ⟨by rw [cells8_length, nextL_length]⟩
      have HZ : Kp (zero16.length = 16) := ⟨rfl⟩
      have HRr : Kp _ := ⟨HR2.out.only ho (by omega)⟩
      generalize hL : nextL a 0 = L at *
      have HL : Kp _ := ⟨hL⟩
      clear HB HQ hL
      have hneg : ¬ (0 : Int) ≤ ((0 : Nat) : Int) - 1 := by omega
      go_wp2_with (first
        | (with_reducible refine wpList_loadAll (o := ⟨some 30, _, _, _, _, _⟩) rwNonce rfl (.tmp 2) rfl rfl HD.out HLen.out ?_)
        | (with_reducible refine wpList_storeAll (o := ⟨none, _, _, _, _, _⟩) (vs := cells8 L) rwNonce rfl (.tmp 4) (.tmp 30) rfl rfl HRr.out HZ.out HLen.out (cells8_one _) rfl ?_))
      intro w5 hk5 ho5
      have HK5 : Kp _ := ⟨hk5⟩
      clear hk5
      go_wp2
      exact ret_arr rfl rwNonce rfl HK5.out HLen.out rfl ⟨by rw [HL.out], (hB2.trans (ho.below (Nat.le_refl _))).trans (ho5.below (Nat.le_of_lt hgg))⟩
    | succ k =>
      have hkl : k < a.length := by rw [HLa.out]; omega
      have hc : wr.cell? ⟨w.heap.size, k, none⟩ = some (.int .u8 (a[k].toNat : Int)) := by rw [HB.out.cell? k]; exact next_at a 0 k hkl HLa.out
      have hf := HB.out.frozen k
      have HN : Kp _ := ⟨next_row a 0 k hkl HLa.out⟩
      have HC : Kp _ := ⟨next_carry a 0 k hkl HLa.out⟩
      rw [← HQ.out] at HN HC
      have hb8 := a[k].toNat_lt
      generalize a[k] = b at *
      have e1 : ((k + 1 : Nat) : Int) - 1 = (k : Int) := by omega
      rw [e1]
      have hge : (0 : Int) ≤ (k : Int) := by omega
      clear e1 HQ hkl
      go_wp2
      refine ⟨⟨k, (b.toNat + q) / 256, by omega, by go_num, ?_, by omega, ⟨HC.out.symm⟩, ⟨?_⟩, ho.trans (Only.setCell wr ⟨w.heap.size, k, none⟩ _)⟩, by first | (simp [intOf]; done) | (simp [intOf]; omega)⟩
      · first | rfl | (congr 1; omega)
      · have h3 := HB.out.set k (.int .u8 ((UInt8.ofNat (b.toNat + q)).toNat : Int))
        rw [HN.out] at h3
        have e : ((q : Int) + (b.toNat : Int)) % 256 = ((UInt8.ofNat (b.toNat + q)).toNat : Int) := by rw [ofNat_toNat]; omega
        rw [e]
        exact h3

theorem refnext_any (a : List UInt8) (n : Int) (w : World) (ha : a.length = 16) (hn : n ≤ 9223372036854775807) :
    Calls Try.prog 22 #[.agg (cells8 a).toArray, .int .i64 n] w fun e w' => e = .returned (.agg (cells8 (nextL a n.toNat)).toArray) ∧ Below w.heap.size w w' := by
  rcases (by omega : n < 0 ∨ 0 ≤ n) with h | h
  · have e1 : n.toNat = 0 := by omega
    rw [e1]; exact refnext_neg a n w ha h
  · obtain ⟨N, rfl⟩ := Int.eq_ofNat_of_zero_le h
    exact refnext_mid a N w ha (by omega)
end Go.Proofs.Ytleplilcpcgacaa
