/- The document's Sub and Less of the fifth chapter. -/
import Derived.Test.YtjllfaeamjadcaaSumRef
namespace Go.Proofs.Ytjllfaeamjadcaa
open Go.RowKit

/-- what the document's Sub does in a round -/
theorem sub_parts_at (m n k : Nat) (hk : k < 32) (hn : n < 256 ^ 32) : ∃ c x y s d : Nat, c ≤ 1 ∧ x < 256 ∧ y < 256 ∧ s < 256 ∧ (((x : Int) - (y : Int) - (c : Int) < 0 ∧ (x : Int) - (y : Int) - (c : Int) + 256 = (s : Int) ∧ d = 1) ∨ (0 ≤ (x : Int) - (y : Int) - (c : Int) ∧ (x : Int) - (y : Int) - (c : Int) = (s : Int) ∧ d = 0)) ∧ Kp (borrowB m n k = c) ∧ Kp (byN m k = x) ∧ Kp (byN n k = y) ∧ Kp (byN (subN m n) k = s) ∧ Kp (borrowB m n (k + 1) = d) := by
  refine ⟨_, _, _, _, _, borrowB_le m n k, byN_lt m k, byN_lt n k, byN_lt (subN m n) k, ?_, ⟨rfl⟩, ⟨rfl⟩, ⟨rfl⟩, ⟨rfl⟩, ⟨rfl⟩⟩
  rw [(sub_byte m n k hk hn).1, (sub_byte m n k hk hn).2]
  have hx := byN_lt m k
  have hy := byN_lt n k
  have hb := borrowB_le m n k
  generalize byN m k = x at *
  generalize byN n k = y at *
  generalize borrowB m n k = b at *
  by_cases h : x < y + b
  · rw [if_pos h, if_pos h]; exact .inl ⟨by omega, by omega, rfl⟩
  · rw [if_neg h, if_neg h]; exact .inr ⟨by omega, by omega, rfl⟩
set_option maxRecDepth 100000 in
set_option maxHeartbeats 4000000 in
theorem refsub_any (a b : List UInt8) (w : World) (ha : a.length = 32) (hb : b.length = 32) : Calls Try.prog 13 #[.agg (cells8 a).toArray, .agg (cells8 b).toArray] w fun e w' => e = .returned (.agg (cells8 (subL a b)).toArray) ∧ Below w.heap.size w w' := by
  have Hal : Kp _ := ⟨ha⟩
  have Hbl : Kp _ := ⟨hb⟩
  have HLa : Kp ((cells8 a).length = 32) := ⟨by rw [cells8_length]; exact ha⟩
  have HLb : Kp ((cells8 b).length = 32) := ⟨by rw [cells8_length]; exact hb⟩
  obtain ⟨L, hL⟩ : ∃ L, L = subL a b := ⟨_, rfl⟩
  have HTa : Kp (cells8 (tailB (subN (getN a) (getN b)) 32) = cells8 L) := ⟨by rw [hL, tailB_all]; rfl⟩
  have HLL : Kp ((cells8 L).length = 32) := ⟨by rw [hL, cells8_length, subL_length]⟩
  rw [← hL]
  have HB0 : Kp ((Try.prog).built 23 [] = some (cells8 (tailB (subN (getN a) (getN b)) 0)).toArray) := ⟨by rw [tailB_none]; exact dig_built0⟩
  have HLZ : Kp ((cells8 (tailB (subN (getN a) (getN b)) 0)).length = 32) := ⟨by rw [cells8_length, tailB_length _ _ (by decide)]⟩
  have HZz : Kp (zero32.length = 32) := ⟨rfl⟩
  have HGb : Kp _ := ⟨getN_lt32 hb⟩
  have HC0 : Kp _ := ⟨borrowB_zero (getN a) (getN b)⟩
  clear hL ha hb
  go_enter Try.func13, Try.ntmps13
  go_wp2_with (with_reducible refine wpList_box (o := ⟨some 2, _, _, _, _, _⟩) rfl (.tmp 0) rfl rfl ?_)
  intro w1 hk1 hb1 hs1
  have HK1 : Kp _ := ⟨hk1⟩
  clear hk1 hs1
  go_wp2_with (with_reducible refine wpList_box (o := ⟨some 3, _, _, _, _, _⟩) rfl (.tmp 1) rfl rfl ?_)
  intro w2 hk2 hb2 hs2
  have hT2 : Two w w.heap.size w1.heap.size 23 (cells8 a) (cells8 b) w2 := ⟨HK1.out.below hb2 HK1.out.lt, hk2, hb1.trans (hb2.mono hb1.size)⟩
  have n1 : w.heap.size < w1.heap.size := HK1.out.lt
  have n2 : w1.heap.size < w2.heap.size := hk2.lt
  obtain ⟨gb, hgb⟩ : ∃ g, g = w1.heap.size := ⟨_, rfl⟩
  rw [← hgb] at hT2 n1 n2 ⊢
  clear hk2 hb1 hb2 hs2 HK1 hgb
  go_wp2_with (with_reducible refine wpList_alloc (o := ⟨some 4, _, _, _, _, _⟩) tyDig rfl rfl ?_)
  intro w3 hk3 hb3 hs3
  have HR3 : Kp _ := ⟨hk3⟩
  have hT3 := hT2.next hb3
  obtain ⟨gr, hgr⟩ : ∃ g, g = w2.heap.size := ⟨_, rfl⟩
  have n3 : gr < w3.heap.size := by rw [hgr]; exact HR3.out.lt
  rw [← hgr] at HR3 n2 ⊢
  clear hk3 hb3 hs3 hT2 hgr
  go_wp2_with (first
    | (refine wpList_build0 (o := ⟨some 9, _, _, _, _, _⟩) rfl rfl HB0.out ?_)
    | (with_reducible refine wpList_alloc (o := ⟨some 5, _, _, _, _, _⟩) tyDig rfl rfl ?_))
  intro w4 hk4 hb4 hs4
  have HO4 : Kp _ := ⟨hk4⟩
  have HR4 : Kp _ := ⟨HR3.out.below hb4 HR3.out.lt⟩
  have hT4 := hT3.next hb4
  obtain ⟨go, hgo⟩ : ∃ g, g = w3.heap.size := ⟨_, rfl⟩
  rw [← hgo] at HO4 n3 ⊢
  clear hk4 hb4 hs4 hT3 HR3 hgo
  go_wp2_with (refine wpList_storeAll (o := ⟨none, _, _, _, _, _⟩) (vs := cells8 (tailB (subN (getN a) (getN b)) 0)) rwDig rfl (.tmp 5) (.tmp 9) rfl rfl HO4.out HZz.out HLZ.out (cells8_one _) rfl ?_)
  intro w5 hk5 ho5
  have HO5 : Kp _ := ⟨hk5⟩
  have HR5 : Kp _ := ⟨HR4.out.only ho5 (by omega)⟩
  have HA5 : Kp (Blk w5 w.heap.size 23 (cells8 a)) := ⟨hT4.a.only ho5 (by omega)⟩
  have HB5 : Kp (Blk w5 gb 23 (cells8 b)) := ⟨hT4.b.only ho5 (by omega)⟩
  have hB5 := hT4.below.trans (ho5.below (by omega))
  clear hk5 ho5 HO4 HR4 hT4
  go_wp2
  go_loopg [6, 7] 32 (fun gk vc vi wr => ∃ k : Nat, k + gk = 32 ∧ vi = .int .i64 (31 - (k : Int)) ∧ vc = .int .i64 ((borrowB (getN a) (getN b) k : Nat) : Int) ∧ Kp (Blk wr go 23 (cells8 (tailB (subN (getN a) (getN b)) k))) ∧ Kp (Blk wr gr 23 zero32) ∧ Kp (Blk wr w.heap.size 23 (cells8 a)) ∧ Kp (Blk wr gb 23 (cells8 b)) ∧ Below w.heap.size w wr)
  case atStart => exact ⟨0, by omega, by go_num, by rw [HC0.out]; rfl, HO5, HR5, HA5, HB5, hB5⟩
  case round =>
    clear HO5 HR5 HA5 HB5 hB5 HC0
    obtain ⟨k, hk, rfl, rfl, HO, HR, HA, HB, hB⟩ := hrel
    cases gk with
    | zero =>
      obtain rfl : k = 32 := by omega
      have HD : Kp (Blk wr go 23 (cells8 L)) := ⟨by rw [← HTa.out]; exact HO.out⟩
      generalize borrowB (getN a) (getN b) 32 = c9 at *
      clear HO HA HB
      go_wp2_with (first
        | (with_reducible refine wpList_loadAll (o := ⟨some 33, _, _, _, _, _⟩) rwDig rfl (.tmp 5) rfl rfl HD.out HLL.out ?_)
        | (with_reducible refine wpList_storeAll (o := ⟨none, _, _, _, _, _⟩) (vs := cells8 L) rwDig rfl (.tmp 4) (.tmp 33) rfl rfl HR.out HZz.out HLL.out (cells8_one _) rfl ?_))
      intro w7 hk7 ho7
      have HK7 : Kp _ := ⟨hk7⟩
      clear hk7
      go_wp2
      exact ret_arr rfl rwDig rfl HK7.out HLL.out rfl ⟨rfl, hB.trans (ho7.below (by omega))⟩
    | succ g2 =>
      have hk32 : k < 32 := by omega
      obtain ⟨j, hj⟩ : ∃ j : Nat, (31 : Int) - (k : Int) = (j : Int) := ⟨31 - k, by omega⟩
      have hjk : j = 31 - k := by omega
      have hj32 : (j : Int) < 32 := by omega
      obtain ⟨c, x, y, s, d, hc1, hx, hy, hs, hcase, HC, HX, HY, HS, HD⟩ := sub_parts_at (getN a) (getN b) k hk32 HGb.out
      have hca : wr.cell? ⟨w.heap.size, j, none⟩ = some (.int .u8 (x : Int)) := by rw [HA.out.cell?, hjk, cells8_at a _ (by rw [Hal.out]; omega), byte_at a Hal.out k hk32, HX.out]
      have hcb : wr.cell? ⟨gb, j, none⟩ = some (.int .u8 (y : Int)) := by rw [HB.out.cell?, hjk, cells8_at b _ (by rw [Hbl.out]; omega), byte_at b Hbl.out k hk32, HY.out]
      have hco : wr.cell? ⟨go, j, none⟩ = some (.int .u8 0) := by rw [HO.out.cell?, hjk]; exact tailB_spot _ k hk32
      have hfo := HO.out.frozen j
      have HSet : Kp _ := ⟨tailB_set (subN (getN a) (getN b)) k hk32⟩
      rw [HS.out, ← hjk] at HSet
      have HJ : Kp _ := ⟨hj⟩
      rw [hj, HC.out]
      have hj31 : j = 31 - k := hjk
      have HJN : Kp _ := ⟨hj31⟩
      clear hj hjk hj31
      obtain ⟨wa, rfl⟩ : ∃ x, x = wr := ⟨wr, rfl⟩
      rcases hcase with ⟨hlt, he, rfl⟩ | ⟨hge, he, rfl⟩
      · go_wp2_with fail
        go_still (by kernel_rfl)
        go_wp2
        go_roundg g2
        case rel => exact ⟨k + 1, by omega, by have h := HJN.out; go_num, by rw [HD.out]; rfl, ⟨by have h3 := HO.out.set j (.int .u8 (s : Int)); rw [HSet.out] at h3; exact h3.drew⟩, ⟨(HR.out.other (by show gr ≠ go; omega) _).drew⟩, ⟨(HA.out.other (by show w.heap.size ≠ go; omega) _).drew⟩, ⟨(HB.out.other (by show gb ≠ go; omega) _).drew⟩, (hB.setCell (by show w.heap.size ≤ go; omega) _).drew⟩
        case measure => omega
      · go_wp2_with fail
        go_still (by kernel_rfl)
        go_wp2
        go_roundg g2
        case rel => exact ⟨k + 1, by omega, by have h := HJN.out; go_num, by rw [HD.out]; rfl, ⟨by have h3 := HO.out.set j (.int .u8 (s : Int)); rw [HSet.out] at h3; exact h3.drew⟩, ⟨(HR.out.other (by show gr ≠ go; omega) _).drew⟩, ⟨(HA.out.other (by show w.heap.size ≠ go; omega) _).drew⟩, ⟨(HB.out.other (by show gb ≠ go; omega) _).drew⟩, (hB.setCell (by show w.heap.size ≤ go; omega) _).drew⟩
        case measure => omega
theorem lessat_false {a b : List UInt8} (ha : a.length = 32) (hb : b.length = 32) (k : Nat) (hk : k < 32) (ht : a.take k = b.take k) (h : (b[k]'(by omega)).toNat < (a[k]'(by omega)).toNat) : lessL a b = false :=
  decide_eq_false (fun h2 => absurd (less_at hb ha k hk ht.symm h) (by omega))
theorem take_next {a b : List UInt8} (ha : a.length = 32) (hb : b.length = 32) (k : Nat) (hk : k < 32) (ht : a.take k = b.take k) (h : a[k]'(by omega) = b[k]'(by omega)) : a.take (k + 1) = b.take (k + 1) := by
  rw [List.take_succ_eq_append_getElem (by omega), List.take_succ_eq_append_getElem (by omega), ht, h]
set_option maxHeartbeats 1000000 in
theorem refless_any (a b : List UInt8) (w : World) (ha : a.length = 32) (hb : b.length = 32) : Calls Try.prog 15 #[.agg (cells8 a).toArray, .agg (cells8 b).toArray] w fun e w' => e = .returned (.bool (lessL a b)) ∧ Below w.heap.size w w' := by
  have Hal : Kp _ := ⟨ha⟩
  have Hbl : Kp _ := ⟨hb⟩
  obtain ⟨bb, hbb⟩ : ∃ bb, bb = lessL a b := ⟨_, rfl⟩
  have HBB : Kp _ := ⟨hbb⟩
  rw [← hbb]
  clear hbb ha hb
  go_enter Try.func15, Try.ntmps15
  go_wp2_with (with_reducible refine wpList_box (o := ⟨some 2, _, _, _, _, _⟩) rfl (.tmp 0) rfl rfl ?_)
  intro w1 hk1 hb1 hs1
  have HK1 : Kp _ := ⟨hk1⟩
  clear hk1 hs1
  go_wp2_with (with_reducible refine wpList_box (o := ⟨some 3, _, _, _, _, _⟩) rfl (.tmp 1) rfl rfl ?_)
  intro w2 hk2 hb2 hs2
  have hT2 : Two w w.heap.size w1.heap.size 23 (cells8 a) (cells8 b) w2 := ⟨HK1.out.below hb2 HK1.out.lt, hk2, hb1.trans (hb2.mono hb1.size)⟩
  obtain ⟨gb, hgb⟩ : ∃ g, g = w1.heap.size := ⟨_, rfl⟩
  rw [← hgb] at hT2 ⊢
  clear hk2 hb1 hb2 hs2 HK1 hgb
  go_wp2
  go_loopg [5] 32 (fun gk vi wr => ∃ k : Nat, k + gk = 32 ∧ vi = .int .i64 (k : Int) ∧ Kp (a.take k = b.take k) ∧ Kp (Two w w.heap.size gb 23 (cells8 a) (cells8 b) wr))
  case atStart => exact ⟨0, by omega, rfl, ⟨rfl⟩, ⟨hT2⟩⟩
  case round =>
    clear hT2
    obtain ⟨k, hk, rfl, HT, HW⟩ := hrel
    cases gk with
    | zero =>
      obtain rfl : k = 32 := by omega
      have HR : Kp (bb = false) := ⟨by
        rw [HBB.out]
        have h := HT.out
        rw [List.take_of_length_le (by rw [Hal.out]; exact Nat.le_refl _), List.take_of_length_le (by rw [Hbl.out]; exact Nat.le_refl _)] at h
        rw [h]; exact decide_eq_false (Nat.lt_irrefl _)⟩
      go_wp2
      go_ret
      exact ⟨by rw [HR.out]; rfl, HW.out.below⟩
    | succ g2 =>
      have hk32 : k < 32 := by omega
      have hkI : (k : Int) < 32 := by omega
      obtain ⟨x, hx⟩ : ∃ x, x = a[k]'(by rw [Hal.out]; omega) := ⟨_, rfl⟩
      obtain ⟨y, hy⟩ : ∃ y, y = b[k]'(by rw [Hbl.out]; omega) := ⟨_, rfl⟩
      have hca : wr.cell? ⟨w.heap.size, k, none⟩ = some (.int .u8 (x.toNat : Int)) := by rw [HW.out.a.cell?, cells8_at a _ (by rw [Hal.out]; omega), ← hx]
      have hcb : wr.cell? ⟨gb, k, none⟩ = some (.int .u8 (y.toNat : Int)) := by rw [HW.out.b.cell?, cells8_at b _ (by rw [Hbl.out]; omega), ← hy]
      have HX : Kp _ := ⟨hx⟩
      have HY : Kp _ := ⟨hy⟩
      obtain ⟨wa, rfl⟩ : ∃ x, x = wr := ⟨wr, rfl⟩
      clear hx hy
      rcases Nat.lt_trichotomy x.toNat y.toNat with h | h | h
      · have hne : ((x.toNat : Int) == (y.toNat : Int)) = false := by rw [beq_eq_false_iff_ne]; omega
        have hlt : (x.toNat : Int) < (y.toNat : Int) := by omega
        have HR : Kp (bb = true) := ⟨by rw [HBB.out]; exact decide_eq_true (less_at Hal.out Hbl.out k hk32 HT.out (by rw [← HX.out, ← HY.out]; exact h))⟩
        clear h
        go_wp2_with fail
        go_still (by kernel_rfl)
        obtain ⟨wb, hwb⟩ : ∃ x, x = ({ wa with drawn := wa.drawn + 1 } : World) := ⟨_, rfl⟩
        have hca2 : wb.cell? ⟨w.heap.size, k, none⟩ = some (.int .u8 (x.toNat : Int)) := by rw [hwb]; exact hca
        have hcb2 : wb.cell? ⟨gb, k, none⟩ = some (.int .u8 (y.toNat : Int)) := by rw [hwb]; exact hcb
        have hBb : Below w.heap.size w wb := by rw [hwb]; exact HW.out.below.drew
        rw [← hwb]
        clear hwb hca hcb
        go_wp2_with fail
        go_still (by kernel_rfl)
        go_wp2
        go_ret
        exact ⟨by rw [HR.out]; rfl, hBb.drew⟩
      · have HEq : Kp (a.take (k + 1) = b.take (k + 1)) := ⟨take_next Hal.out Hbl.out k hk32 HT.out (by rw [← HX.out, ← HY.out]; exact UInt8.toNat_inj.1 h)⟩
        rw [← h] at hcb
        clear h
        go_wp2_with fail
        go_still (by kernel_rfl)
        go_wp2
        go_roundg g2
        case rel => exact ⟨k + 1, by omega, by go_num, HEq, ⟨HW.out.drew⟩⟩
        case measure => omega
      · have hne : ((x.toNat : Int) == (y.toNat : Int)) = false := by rw [beq_eq_false_iff_ne]; omega
        have hge : ¬ (x.toNat : Int) < (y.toNat : Int) := by omega
        have hdec : Kp (decide (x.toNat < y.toNat) = false) := ⟨decide_eq_false (by omega)⟩
        have HR : Kp (bb = false) := ⟨by rw [HBB.out]; exact lessat_false Hal.out Hbl.out k hk32 HT.out (by rw [← HX.out, ← HY.out]; exact h)⟩
        clear h
        go_wp2_with fail
        go_still (by kernel_rfl)
        obtain ⟨wb, hwb⟩ : ∃ x, x = ({ wa with drawn := wa.drawn + 1 } : World) := ⟨_, rfl⟩
        have hca2 : wb.cell? ⟨w.heap.size, k, none⟩ = some (.int .u8 (x.toNat : Int)) := by rw [hwb]; exact hca
        have hcb2 : wb.cell? ⟨gb, k, none⟩ = some (.int .u8 (y.toNat : Int)) := by rw [hwb]; exact hcb
        have hBb : Below w.heap.size w wb := by rw [hwb]; exact HW.out.below.drew
        rw [← hwb]
        clear hwb hca hcb
        go_wp2_with fail
        go_still (by kernel_rfl)
        go_wp2
        go_ret
        exact ⟨by rw [HR.out, ← hdec.out]; rfl, hBb.drew⟩
end Go.Proofs.Ytjllfaeamjadcaa
