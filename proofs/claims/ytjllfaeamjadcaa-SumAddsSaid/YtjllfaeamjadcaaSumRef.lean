/- The document's Add, Sub and Less of the fifth chapter. -/
import Derived.Test.YtjllfaeamjadcaaSumRPure
import Derived.Test.YtjllfaeamjadcaaSumKnown
namespace Go.Proofs.Ytjllfaeamjadcaa
open Go.RowKit

theorem add_parts_at (m n k : Nat) : ∃ c x y s d : Nat, c ≤ 1 ∧ x < 256 ∧ y < 256 ∧ s < 256 ∧ ((c : Int) + (x : Int) + (y : Int)) % 256 = (s : Int) ∧ ((c : Int) + (x : Int) + (y : Int)) / 256 = (d : Int) ∧ Kp (carryB m n k = c) ∧ Kp (byN m k = x) ∧ Kp (byN n k = y) ∧ Kp (byN (m + n) k = s) ∧ Kp (carryB m n (k + 1) = d) := by
  refine ⟨_, _, _, _, _, carryB_le m n k, byN_lt m k, byN_lt n k, byN_lt (m + n) k, ?_, ?_, ⟨rfl⟩, ⟨rfl⟩, ⟨rfl⟩, ⟨rfl⟩, ⟨rfl⟩⟩
  · rw [(add_byte m n k).1]; omega
  · rw [(add_byte m n k).2]; omega
set_option maxRecDepth 100000 in
set_option maxHeartbeats 4000000 in
theorem refadd_any (a b : List UInt8) (w : World) (ha : a.length = 32) (hb : b.length = 32) : Calls Try.prog 11 #[.agg (cells8 a).toArray, .agg (cells8 b).toArray] w fun e w' => e = .returned (.agg (cells8 (addL a b)).toArray) ∧ Below w.heap.size w w' := by
  have Hal : Kp _ := ⟨ha⟩
  have Hbl : Kp _ := ⟨hb⟩
  have HLa : Kp ((cells8 a).length = 32) := ⟨by rw [cells8_length]; exact ha⟩
  have HLb : Kp ((cells8 b).length = 32) := ⟨by rw [cells8_length]; exact hb⟩
  obtain ⟨L, hL⟩ : ∃ L, L = addL a b := ⟨_, rfl⟩
  have HTa : Kp (cells8 (tailB (getN a + getN b) 32) = cells8 L) := ⟨by rw [hL, tailB_all]; rfl⟩
  have HLL : Kp ((cells8 L).length = 32) := ⟨by rw [hL, cells8_length, addL_length]⟩
  rw [← hL]
  have HB0 : Kp ((Try.prog).built 23 [] = some (cells8 (tailB (getN a + getN b) 0)).toArray) := ⟨by rw [tailB_none]; exact dig_built0⟩
  have HLZ : Kp ((cells8 (tailB (getN a + getN b) 0)).length = 32) := ⟨by rw [cells8_length, tailB_length _ _ (by decide)]⟩
  have HZz : Kp (zero32.length = 32) := ⟨rfl⟩
  have HC0 : Kp _ := ⟨carryB_zero (getN a) (getN b)⟩
  clear hL ha hb
  go_enter Try.func11, Try.ntmps11
  go_wp2_with (with_reducible refine wpList_box (o := ⟨some 2, _, _, _, _, _⟩) rfl (.tmp 0) rfl rfl ?_)
  intro w1 hk1 hb1 hs1
  have HK1 : Kp _ := ⟨hk1⟩
  clear hk1 hs1
  go_wp2_with (with_reducible refine wpList_box (o := ⟨some 3, _, _, _, _, _⟩) rfl (.tmp 1) rfl rfl ?_)
  intro w2 hk2 hb2 hs2
  have hT2 : Two w w.heap.size w1.heap.size 23 (cells8 a) (cells8 b) w2 := ⟨HK1.out.below hb2 HK1.out.lt, hk2, hb1.trans (hb2.mono hb1.size)⟩
  have n1 : w.heap.size < w1.heap.size := HK1.out.lt
  have n2 : w1.heap.size < w2.heap.size := hk2.lt
  obtain ⟨gb, hgb⟩ : ∃ g, g = w1.heap.size := ⟨_, rfl⟩
  rw [← hgb] at hT2 n1 n2 ⊢
  clear hk2 hb1 hb2 hs2 HK1 hgb
  go_wp2_with (with_reducible refine wpList_alloc (o := ⟨some 4, _, _, _, _, _⟩) tyDig rfl rfl ?_)
  intro w3 hk3 hb3 hs3
  have HR3 : Kp _ := ⟨hk3⟩
  have hT3 := hT2.next hb3
  obtain ⟨gr, hgr⟩ : ∃ g, g = w2.heap.size := ⟨_, rfl⟩
  have n3 : gr < w3.heap.size := by rw [hgr]; exact HR3.out.lt
  rw [← hgr] at HR3 n2 ⊢
  clear hk3 hb3 hs3 hT2 hgr
  go_wp2_with (first
    | (refine wpList_build0 (o := ⟨some 8, _, _, _, _, _⟩) rfl rfl HB0.out ?_)
    | (with_reducible refine wpList_alloc (o := ⟨some 5, _, _, _, _, _⟩) tyDig rfl rfl ?_))
  intro w4 hk4 hb4 hs4
  have HO4 : Kp _ := ⟨hk4⟩
  have HR4 : Kp _ := ⟨HR3.out.below hb4 HR3.out.lt⟩
  have hT4 := hT3.next hb4
  obtain ⟨go, hgo⟩ : ∃ g, g = w3.heap.size := ⟨_, rfl⟩
  rw [← hgo] at HO4 n3 ⊢
  clear hk4 hb4 hs4 hT3 HR3 hgo
  go_wp2_with (refine wpList_storeAll (o := ⟨none, _, _, _, _, _⟩) (vs := cells8 (tailB (getN a + getN b) 0)) rwDig rfl (.tmp 5) (.tmp 8) rfl rfl HO4.out HZz.out HLZ.out (cells8_one _) rfl ?_)
  intro w5 hk5 ho5
  have HO5 : Kp _ := ⟨hk5⟩
  have HR5 : Kp _ := ⟨HR4.out.only ho5 (by omega)⟩
  have HA5 : Kp (Blk w5 w.heap.size 23 (cells8 a)) := ⟨hT4.a.only ho5 (by omega)⟩
  have HB5 : Kp (Blk w5 gb 23 (cells8 b)) := ⟨hT4.b.only ho5 (by omega)⟩
  have hB5 := hT4.below.trans (ho5.below (by omega))
  clear hk5 ho5 HO4 HR4 hT4
  go_wp2
  go_loopg [6, 7] 32 (fun gk vc vi wr => ∃ k : Nat, k + gk = 32 ∧ vi = .int .i64 (31 - (k : Int)) ∧ vc = .int .i64 ((carryB (getN a) (getN b) k : Nat) : Int) ∧ Kp (Blk wr go 23 (cells8 (tailB (getN a + getN b) k))) ∧ Kp (Blk wr gr 23 zero32) ∧ Kp (Blk wr w.heap.size 23 (cells8 a)) ∧ Kp (Blk wr gb 23 (cells8 b)) ∧ Below w.heap.size w wr)
  case atStart => exact ⟨0, by omega, by go_num, by rw [HC0.out]; rfl, HO5, HR5, HA5, HB5, hB5⟩
  case round =>
    clear HO5 HR5 HA5 HB5 hB5 HC0
    obtain ⟨k, hk, rfl, rfl, HO, HR, HA, HB, hB⟩ := hrel
    cases gk with
    | zero =>
      obtain rfl : k = 32 := by omega
      have HD : Kp (Blk wr go 23 (cells8 L)) := ⟨by rw [← HTa.out]; exact HO.out⟩
      generalize carryB (getN a) (getN b) 32 = c9 at *
      clear HO HA HB
      go_wp2_with (first
        | (with_reducible refine wpList_loadAll (o := ⟨some 31, _, _, _, _, _⟩) rwDig rfl (.tmp 5) rfl rfl HD.out HLL.out ?_)
        | (with_reducible refine wpList_storeAll (o := ⟨none, _, _, _, _, _⟩) (vs := cells8 L) rwDig rfl (.tmp 4) (.tmp 31) rfl rfl HR.out HZz.out HLL.out (cells8_one _) rfl ?_))
      intro w7 hk7 ho7
      have HK7 : Kp _ := ⟨hk7⟩
      clear hk7
      go_wp2
      exact ret_arr rfl rwDig rfl HK7.out HLL.out rfl ⟨rfl, hB.trans (ho7.below (by omega))⟩
    | succ g2 =>
      have hk32 : k < 32 := by omega
      obtain ⟨j, hj⟩ : ∃ j : Nat, (31 : Int) - (k : Int) = (j : Int) := ⟨31 - k, by omega⟩
      have hjk : j = 31 - k := by omega
      have hj32 : (j : Int) < 32 := by omega
      obtain ⟨c, x, y, s, d, hc1, hx, hy, hs, hm, hd, HC, HX, HY, HS, HD⟩ := add_parts_at (getN a) (getN b) k
      have hca : wr.cell? ⟨w.heap.size, j, none⟩ = some (.int .u8 (x : Int)) := by rw [HA.out.cell?, hjk, cells8_at a _ (by rw [Hal.out]; omega), byte_at a Hal.out k hk32, HX.out]
      have hcb : wr.cell? ⟨gb, j, none⟩ = some (.int .u8 (y : Int)) := by rw [HB.out.cell?, hjk, cells8_at b _ (by rw [Hbl.out]; omega), byte_at b Hbl.out k hk32, HY.out]
      have hco : wr.cell? ⟨go, j, none⟩ = some (.int .u8 0) := by rw [HO.out.cell?, hjk]; exact tailB_spot _ k hk32
      have hfo := HO.out.frozen j
      have HSet : Kp _ := ⟨tailB_set (getN a + getN b) k hk32⟩
      rw [HS.out, ← hjk] at HSet
      have HJ : Kp _ := ⟨hj⟩
      rw [hj, HC.out]
      have hj31 : j = 31 - k := hjk
      have HJN : Kp _ := ⟨hj31⟩
      clear hj hjk hj31
      obtain ⟨wa, rfl⟩ : ∃ x, x = wr := ⟨wr, rfl⟩
      go_wp2_with fail
      go_still (by kernel_rfl)
      go_wp2
      go_roundg g2
      case rel => exact ⟨k + 1, by omega, by have h := HJN.out; go_num, by rw [HD.out, hd], ⟨by have h3 := HO.out.set j (.int .u8 (s : Int)); rw [HSet.out] at h3; exact h3.drew⟩, ⟨(HR.out.other (by show gr ≠ go; omega) _).drew⟩, ⟨(HA.out.other (by show w.heap.size ≠ go; omega) _).drew⟩, ⟨(HB.out.other (by show gb ≠ go; omega) _).drew⟩, (hB.setCell (by show w.heap.size ≤ go; omega) _).drew⟩
      case measure => omega
end Go.Proofs.Ytjllfaeamjadcaa
