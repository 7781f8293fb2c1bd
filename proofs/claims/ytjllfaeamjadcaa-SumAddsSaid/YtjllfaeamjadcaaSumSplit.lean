/- The contracts of package sum's start, split and digest, and of codec's Get. -/
import Derived.Test.YtjllfaeamjadcaaSumWords
import Derived.Test.YtjllfaeamjadcaaDig
import Derived.Test.YtjllfaeamjadcaaCPut
import Derived.Test.YtjllfaeamjadcaaCutAny
namespace Go.Proofs.Ytjllfaeamjadcaa
open Go.RowKit

set_option maxHeartbeats 400000 in
theorem get_any (A : Option Addr) (n c : Nat) (xs : List UInt8) (w : World) (L : Nat) (ha : Bs w L A n c xs) :
    Calls Try.prog 31 #[.slice A n c] w fun e w' => e = .returned (.int .u64 (getN (xs.drop (n - 8)))) ∧ w = w' := by
  have hn := ha.le
  go_enter Try.func31, Try.ntmps31
  rcases (by omega : 8 ≤ n ∨ n < 8) with h8 | h8
  all_goals
    go_wp2_with (with_reducible refine wpList_cut_l (o := ⟨some 11, _, _, _, _, _⟩) el8 rfl _ _ rfl rfl ha _ _ (n - 8) rfl (by omega) (by omega) ?_)
    intro A' m d hb
    have hlen : (xs.drop (n - 8)).length ≤ 8 := by have := ha.len; simp; omega
    generalize hys : xs.drop (n - 8) = ys at *
    have HYS := Lib.hid hys
    clear hys
    have hm := hb.le
    have HML := Lib.hid hb.len
    go_wp2
    go_loop [3, 13] (fun s i => ∃ k : Nat, k ≤ m ∧ i = .int .i64 k ∧ s = .int .u64 (getN (ys.take k))) (fun _ i => m - (intOf i).toNat)
    case atStart => exact ⟨0, Nat.zero_le _, rfl, rfl⟩
    case round =>
      obtain ⟨k, hk, rfl, rfl⟩ := hrel
      by_cases hlt : k < m
      · obtain ⟨b, o, rfl, _, hc⟩ := hb.cell hlt
        have hky : k < ys.length := by rw [HML.out]; exact hlt
        have hs := getN_take_succ ys k hky
        have hl8 := getN_lt8 (ys.take (k + 1)) (by simp; omega)
        have HS := Lib.hid (get_step (getN (ys.take k)) (ys[k].toNat) (UInt8.toNat_lt _) (by omega))
        have HS2 := Lib.hid hs
        clear hs hl8
        go_wp2
        go_round
        case rel => exact ⟨k + 1, by omega, by go_num, by rw [HS.out, HS2.out]⟩
        case measure => simp [intOf]; omega
      · go_wp2
        go_ret
        exact ⟨ret_eq (by rw [List.take_of_length_le (by rw [HML.out]; omega), HYS.out]; rfl), rfl⟩

theorem sstart_any (i : Nat) (w : World) (hi : i < 4) : Calls Try.prog 32 #[.int .i64 (i : Int)] w fun e w' => e = .returned (.int .i64 ((24 - 8 * i : Nat) : Int)) ∧ w' = w := by
  obtain ⟨j, hj⟩ : ∃ j : Nat, j = 24 - 8 * i := ⟨_, rfl⟩
  rw [← hj]
  have hji : ((3 : Int) - i) * 8 = (j : Int) := by omega
  have HJ : Kp _ := ⟨hj⟩
  clear hj
  go_enter Try.func32, Try.ntmps32
  go_wp2
  go_ret
  exact ⟨rfl, rfl⟩

theorem dig_parts : (Try.prog).underlying 23 = some (.array ((Try.prog).arrayLen 23) ((Try.prog).elem 23)) ∧ (Try.prog).arrayLen 23 = 32 ∧ (Try.prog).elem 23 = 5 ∧ ((Try.prog).info? 5).map (·.size) = some 1 := ⟨by kernel_rfl, by kernel_rfl, by kernel_rfl, by kernel_rfl⟩
theorem dig_slice_lh (g s : Nat) (hs : s ≤ 24) (W : World) : (Instr.sliceAt 23 (.pointer (some ⟨g, 0, none⟩)) (some (.int .i64 (s : Int))) (some (.int .i64 ((s : Int) + 8))) none).run Try.prog W = .ok (.slice (some ⟨g, s, none⟩) 8 (32 - s)) W := by
  obtain ⟨h1, h2, h3, h4⟩ := dig_parts
  rw [run_sliceAt_array_lh W _ ⟨g, 0, none⟩ h1 .i64 .i64 (s : Int) ((s : Int) + 8) (by omega) (by omega) (by rw [h2]; omega), h2, h3]
  cases hq : (Try.prog).info? 5 with
  | none => simp [hq] at h4
  | some i =>
    have hsz : i.size = 1 := by simpa [hq] using h4
    have e1 : ((s : Int) + 8).toNat = s + 8 := by omega
    simp [Go.sizeOf, typeInfo, hq, hsz, slicedAt, Addr.add, e1, if_neg (show ¬ 32 = s by omega)]
    try omega
theorem dig_slice_l (g s : Nat) (hs : s ≤ 24) (W : World) : (Instr.sliceAt 23 (.pointer (some ⟨g, 0, none⟩)) (some (.int .i64 (s : Int))) none none).run Try.prog W = .ok (.slice (some ⟨g, s, none⟩) (32 - s) (32 - s)) W := by
  obtain ⟨h1, h2, h3, h4⟩ := dig_parts
  rw [run_sliceAt_array_l W _ ⟨g, 0, none⟩ h1 .i64 (s : Int) (by omega) (by rw [h2]; omega), h2, h3]
  cases hq : (Try.prog).info? 5 with
  | none => simp [hq] at h4
  | some i =>
    have hsz : i.size = 1 := by simpa [hq] using h4
    simp [Go.sizeOf, typeInfo, hq, hsz, slicedAt, Addr.add, if_neg (show ¬ 32 = s by omega)]
    try omega
theorem cut_cells (d : List UInt8) (s n : Nat) : ((cells8 d).drop s).take n = cells8 ((d.take (s + n)).drop s) := by
  unfold cells8
  rw [← List.map_drop, ← List.map_take, List.drop_take, Nat.add_sub_cancel_left]
set_option maxRecDepth 100000 in
set_option maxHeartbeats 4000000 in
theorem split_any (d : List UInt8) (w : World) (hd : d.length = 32) : Calls Try.prog 22 #[.agg (cells8 d).toArray] w fun e w' => e = .returned (.agg (numCells (W4 (getN d))).toArray) ∧ Below w.heap.size w w' := by
  have HD : Kp _ := ⟨hd⟩
  have HLd : Kp ((cells8 d).length = 32) := ⟨by rw [cells8_length]; exact hd⟩
  clear hd
  go_enter Try.func22, Try.ntmps22
  go_wp2_with (with_reducible refine wpList_box (o := ⟨some 1, _, _, _, _, _⟩) rfl (.tmp 0) rfl rfl ?_)
  intro w1 hk1 hb1 hs1
  have HA1 : Kp _ := ⟨hk1⟩
  clear hk1 hs1
  go_wp2_with (with_reducible refine wpList_alloc (o := ⟨some 2, _, _, _, _, _⟩) tyWords rfl rfl ?_)
  intro w2 hk2 hb2 hs2
  have HR2 : Kp _ := ⟨hk2⟩
  have HA2 : Kp _ := ⟨HA1.out.below hb2 HA1.out.lt⟩
  have hB2 : Below w.heap.size w w2 := hb1.trans (hb2.mono hb1.size)
  have n1 : w.heap.size < w1.heap.size := HA1.out.lt
  clear hk2 hb1 hb2 hs2 HA1
  go_wp2_with (with_reducible refine wpList_alloc (o := ⟨some 3, _, _, _, _, _⟩) tyWords rfl rfl ?_)
  intro w3 hk3 hb3 hs3
  have HW3 : Kp (Blk w3 w2.heap.size 41 (numCells (part4 (dg (getN d)) (fun _ => 0) 0))) := ⟨by rw [part4_zero]; exact hk3⟩
  have HR3 : Kp _ := ⟨HR2.out.below hb3 HR2.out.lt⟩
  have HA3 : Kp _ := ⟨HA2.out.below hb3 HA2.out.lt⟩
  have hB3 : Below w.heap.size w w3 := hB2.trans (hb3.mono hB2.size)
  have n2 : w1.heap.size < w2.heap.size := HR2.out.lt
  obtain ⟨gr, hgr⟩ : ∃ g, g = w1.heap.size := ⟨_, rfl⟩
  obtain ⟨gw, hgw⟩ : ∃ g, g = w2.heap.size := ⟨_, rfl⟩
  rw [← hgr] at HR3 n1 n2
  rw [← hgw] at HW3 n2
  rw [← hgr, ← hgw]
  clear hk3 hb3 hs3 HR2 HA2 hB2 hgr hgw
  go_wp2
  go_loopg [5] 4 (fun gk vi wr => ∃ k : Nat, k + gk = 4 ∧ vi = .int .i64 k ∧ Kp (Blk wr gw 41 (numCells (part4 (dg (getN d)) (fun _ => 0) k))) ∧ Kp (Blk wr gr 41 zeroW4) ∧ Kp (Blk wr w.heap.size 23 (cells8 d)) ∧ Below w.heap.size w wr)
  case atStart => exact ⟨0, by omega, rfl, HW3, HR3, HA3, hB3⟩
  case round =>
    clear HW3 HR3 HA3 hB3
    obtain ⟨k, hk, rfl, HW, HR, HA, hB⟩ := hrel
    cases gk with
    | zero =>
      obtain rfl : k = 4 := by omega
      have HQ : Kp (Blk wr gw 41 (numCells (W4 (getN d)))) := ⟨by rw [← part4_all (getN d) (fun _ => 0)]; exact HW.out⟩
      have HLen : Kp ((numCells (W4 (getN d))).length = 4) := ⟨by rw [numCells_length, W4_length]⟩
      have HZ : Kp (zeroW4.length = 4) := ⟨rfl⟩
      generalize hL : W4 (getN d) = L at *
      have HL : Kp _ := ⟨hL⟩
      clear HW hL
      go_wp2_with (first
        | (with_reducible refine wpList_loadAll (o := ⟨some 18, _, _, _, _, _⟩) rwWords rfl (.tmp 3) rfl rfl HQ.out HLen.out ?_)
        | (with_reducible refine wpList_storeAll (o := ⟨none, _, _, _, _, _⟩) (vs := numCells L) rwWords rfl (.tmp 2) (.tmp 18) rfl rfl HR.out HZ.out HLen.out (numCells_one _) rfl ?_))
      intro w5 hk5 ho5
      have HK5 : Kp _ := ⟨hk5⟩
      clear hk5
      go_wp2
      exact ret_arr rfl rwWords rfl HK5.out HLen.out rfl ⟨by rw [HL.out], hB.trans (ho5.below (by omega))⟩
    | succ g2 =>
      have hkI : (k : Int) < 4 := by omega
      have hk4 : k < 4 := by omega
      obtain ⟨s, hs⟩ : ∃ s : Nat, s = 24 - 8 * k := ⟨_, rfl⟩
      have hs24 : s ≤ 24 := by omega
      have HWa := word_at d HD.out k hk4
      have HSt := sstart_any k wr hk4
      rw [← hs] at HWa HSt
      have HW8 : Kp _ := ⟨HWa⟩
      have HSC : Kp _ := ⟨HSt⟩
      have HSet : Kp _ := ⟨part4_set (dg (getN d)) (fun _ => 0) k⟩
      generalize dg (getN d) k = x at *
      have hco : wr.cell? ⟨gw, k, none⟩ = some (.int .u64 ((0 : Nat) : Int)) := by rw [HW.out.cell?, part4_at _ _ _ _ hk4 (Nat.le_refl _)]
      have hfo := HW.out.frozen k
      have HBs : Kp (Bs wr wr.heap.size (some ⟨w.heap.size, s, none⟩) 8 (32 - s) ((d.take (s + 8)).drop s)) := ⟨HA.out.bytes HA.out.lt (cut_cells d s 8) (by have := HD.out; simp; omega) (32 - s) (by omega) (by simp only [maxLen]; omega)⟩
      have hsl := dig_slice_lh w.heap.size s hs24 wr
      clear HWa HSt hs
      go_wp2_with fail
      refine HSC.out.mono ?_
      rintro e w5 ⟨rfl, rfl⟩
      go_wp2_with fail
      refine HSC.out.mono ?_
      rintro e w5 ⟨rfl, rfl⟩
      go_wp2_with fail
      refine (get_any _ _ _ _ _ _ HBs.out).mono ?_
      rintro e w6 ⟨rfl, rfl⟩
      rw [Nat.sub_self, List.drop_zero, HW8.out]
      go_wp2
      go_roundg g2
      case rel =>
        refine ⟨k + 1, by omega, by go_num, ⟨?_⟩, ⟨HR.out.other (by show gr ≠ gw; omega) _⟩, ⟨HA.out.other (by show w.heap.size ≠ gw; omega) _⟩, hB.setCell (by show w.heap.size ≤ gw; omega) _⟩
        have h3 := HW.out.set k (.int .u64 (x : Int)); rw [HSet.out] at h3; exact h3
      case measure => omega

end Go.Proofs.Ytjllfaeamjadcaa
