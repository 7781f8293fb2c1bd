/- The contracts of package sum's start, split and digest, and of codec's Get.
   The contract of package sum's digest.
   Lists of byte slices that a call makes: rows of slices, and what their slices read as; fields by their widths. No program is named here.
   '==' and '!=' between two arrays of bytes. No program is named here.
   What stays true of the world over a region that draws its order; lists of slices that have just been laid. No program is named here.
   The contracts of package sum's Add, Sub and Less.
   The contract of audit's counted.
   An operation within a round of a range over a function goes as anywhere, at the wide fence. No program is named here.
   The contracts of the document's Put and Get. -/
import Derived.Test.YthpfiieaanioeaaG03
import Derived.Test.YthpfiieaanioeaaG02
import Derived.Test.YthpfiieaanioeaaG01
import Derived.ChangeKeysEq
import Derived.Laws.StructEq
import Derived.Deep.RegionHeld3
import Derived.Deep.CutRange
import Derived.Deep.LoopGhost
import Derived.RangeFuncNested
import Derived.RangeFuncCalls
import Derived.RangeFuncLeaves
namespace Go.Proofs.Ythpfiieaanioeaa
open Go.RowKit

set_option maxHeartbeats 400000 in
theorem get_any (A : Option Addr) (n c : Nat) (xs : List UInt8) (w : World) (L : Nat) (ha : Bs w L A n c xs) :
    Calls Try.prog 45 #[.slice A n c] w fun e w' => e = .returned (.int .u64 (getN (xs.drop (n - 8)))) ∧ w = w' := by
  have hn := ha.le
  go_enter Try.func45, Try.ntmps45
  rcases (by omega : 8 ≤ n ∨ n < 8) with h8 | h8
  all_goals
    go_wp2_with (with_reducible refine wpList_cut_l (o := ⟨some 11, _, _, _, _, _⟩) el8 rfl _ _ rfl rfl ha _ _ (n - 8) rfl (by omega) (by omega) ?_)
    intro A' m d hb
    have hlen : (xs.drop (n - 8)).length ≤ 8 := by have := ha.len; simp; omega
    generalize hys : xs.drop (n - 8) = ys at *
    have HYS := Lib.hid hys
    clear hys
    have hm := hb.le
    have HML := Lib.hid hb.len
    go_wp2
    go_loop [3, 13] (fun s i => ∃ k : Nat, k ≤ m ∧ i = .int .i64 k ∧ s = .int .u64 (getN (ys.take k))) (fun _ i => m - (intOf i).toNat)
    case atStart => exact ⟨0, Nat.zero_le _, rfl, rfl⟩
    case round =>
      obtain ⟨k, hk, rfl, rfl⟩ := hrel
      by_cases hlt : k < m
      · obtain ⟨b, o, rfl, _, hc⟩ := hb.cell hlt
        have hky : k < ys.length := by rw [HML.out]; exact hlt
        have hs := getN_take_succ ys k hky
        have hl8 := getN_lt8 (ys.take (k + 1)) (by simp; omega)
        have HS := Lib.hid (get_step (getN (ys.take k)) (ys[k].toNat) (UInt8.toNat_lt _) (by omega))
        have HS2 := Lib.hid hs
        clear hs hl8
        go_wp2
        go_round
        case rel => exact ⟨k + 1, by omega, by go_num, by rw [HS.out, HS2.out]⟩
        case measure => simp [intOf]; omega
      · go_wp2
        go_ret
        exact ⟨ret_eq (by rw [List.take_of_length_le (by rw [HML.out]; omega), HYS.out]; rfl), rfl⟩

theorem sstart_any (i : Nat) (w : World) (hi : i < 4) : Calls Try.prog 46 #[.int .i64 (i : Int)] w fun e w' => e = .returned (.int .i64 ((24 - 8 * i : Nat) : Int)) ∧ w' = w := by
  obtain ⟨j, hj⟩ : ∃ j : Nat, j = 24 - 8 * i := ⟨_, rfl⟩
  rw [← hj]
  have hji : ((3 : Int) - i) * 8 = (j : Int) := by omega
  have HJ : Kp _ := ⟨hj⟩
  clear hj
  go_enter Try.func46, Try.ntmps46
  go_wp2
  go_ret
  exact ⟨rfl, rfl⟩

theorem dig_parts : (Try.prog).underlying 43 = some (.array ((Try.prog).arrayLen 43) ((Try.prog).elem 43)) ∧ (Try.prog).arrayLen 43 = 32 ∧ (Try.prog).elem 43 = 5 ∧ ((Try.prog).info? 5).map (·.size) = some 1 := ⟨by kernel_rfl, by kernel_rfl, by kernel_rfl, by kernel_rfl⟩
theorem dig_slice_lh (g s : Nat) (hs : s ≤ 24) (W : World) : (Instr.sliceAt 43 (.pointer (some ⟨g, 0, none⟩)) (some (.int .i64 (s : Int))) (some (.int .i64 ((s : Int) + 8))) none).run Try.prog W = .ok (.slice (some ⟨g, s, none⟩) 8 (32 - s)) W := by
  obtain ⟨h1, h2, h3, h4⟩ := dig_parts
  rw [run_sliceAt_array_lh W _ ⟨g, 0, none⟩ h1 .i64 .i64 (s : Int) ((s : Int) + 8) (by omega) (by omega) (by rw [h2]; omega), h2, h3]
  cases hq : (Try.prog).info? 5 with
  | none => simp [hq] at h4
  | some i =>
    have hsz : i.size = 1 := by simpa [hq] using h4
    have e1 : ((s : Int) + 8).toNat = s + 8 := by omega
    simp [Go.sizeOf, typeInfo, hq, hsz, slicedAt, Addr.add, e1, if_neg (show ¬ 32 = s by omega)]
    try omega
theorem dig_slice_l (g s : Nat) (hs : s ≤ 24) (W : World) : (Instr.sliceAt 43 (.pointer (some ⟨g, 0, none⟩)) (some (.int .i64 (s : Int))) none none).run Try.prog W = .ok (.slice (some ⟨g, s, none⟩) (32 - s) (32 - s)) W := by
  obtain ⟨h1, h2, h3, h4⟩ := dig_parts
  rw [run_sliceAt_array_l W _ ⟨g, 0, none⟩ h1 .i64 (s : Int) (by omega) (by rw [h2]; omega), h2, h3]
  cases hq : (Try.prog).info? 5 with
  | none => simp [hq] at h4
  | some i =>
    have hsz : i.size = 1 := by simpa [hq] using h4
    simp [Go.sizeOf, typeInfo, hq, hsz, slicedAt, Addr.add, if_neg (show ¬ 32 = s by omega)]
    try omega
theorem cut_cells (d : List UInt8) (s n : Nat) : ((cells8 d).drop s).take n = cells8 ((d.take (s + n)).drop s) := by
  unfold cells8
  rw [← List.map_drop, ← List.map_take, List.drop_take, Nat.add_sub_cancel_left]
set_option maxRecDepth 100000 in
set_option maxHeartbeats 4000000 in
theorem split_any (d : List UInt8) (w : World) (hd : d.length = 32) : Calls Try.prog 36 #[.agg (cells8 d).toArray] w fun e w' => e = .returned (.agg (numCells (W4 (getN d))).toArray) ∧ Below w.heap.size w w' := by
  have HD : Kp _ := ⟨hd⟩
  have HLd : Kp ((cells8 d).length = 32) := ⟨by rw [cells8_length]; exact hd⟩
  clear hd
  go_enter Try.func36, Try.ntmps36
  go_wp2_with (with_reducible refine wpList_box (o := ⟨some 1, _, _, _, _, _⟩) rfl (.tmp 0) rfl rfl ?_)
  intro w1 hk1 hb1 hs1
  have HA1 : Kp _ := ⟨hk1⟩
  clear hk1 hs1
  go_wp2_with (with_reducible refine wpList_alloc (o := ⟨some 2, _, _, _, _, _⟩) tyWords rfl rfl ?_)
  intro w2 hk2 hb2 hs2
  have HR2 : Kp _ := ⟨hk2⟩
  have HA2 : Kp _ := ⟨HA1.out.below hb2 HA1.out.lt⟩
  have hB2 : Below w.heap.size w w2 := hb1.trans (hb2.mono hb1.size)
  have n1 : w.heap.size < w1.heap.size := HA1.out.lt
  clear hk2 hb1 hb2 hs2 HA1
  go_wp2_with (with_reducible refine wpList_alloc (o := ⟨some 3, _, _, _, _, _⟩) tyWords rfl rfl ?_)
  intro w3 hk3 hb3 hs3
  have HW3 : Kp (Blk w3 w2.heap.size 66 (numCells (part4 (dg (getN d)) (fun _ => 0) 0))) := ⟨by rw [part4_zero]; exact hk3⟩
  have HR3 : Kp _ := ⟨HR2.out.below hb3 HR2.out.lt⟩
  have HA3 : Kp _ := ⟨HA2.out.below hb3 HA2.out.lt⟩
  have hB3 : Below w.heap.size w w3 := hB2.trans (hb3.mono hB2.size)
  have n2 : w1.heap.size < w2.heap.size := HR2.out.lt
  obtain ⟨gr, hgr⟩ : ∃ g, g = w1.heap.size := ⟨_, rfl⟩
  obtain ⟨gw, hgw⟩ : ∃ g, g = w2.heap.size := ⟨_, rfl⟩
  rw [← hgr] at HR3 n1 n2
  rw [← hgw] at HW3 n2
  rw [← hgr, ← hgw]
  clear hk3 hb3 hs3 HR2 HA2 hB2 hgr hgw
  go_wp2
  go_loopg [5] 4 (fun gk vi wr => ∃ k : Nat, k + gk = 4 ∧ vi = .int .i64 k ∧ Kp (Blk wr gw 66 (numCells (part4 (dg (getN d)) (fun _ => 0) k))) ∧ Kp (Blk wr gr 66 zeroW4) ∧ Kp (Blk wr w.heap.size 43 (cells8 d)) ∧ Below w.heap.size w wr)
  case atStart => exact ⟨0, by omega, rfl, HW3, HR3, HA3, hB3⟩
  case round =>
    clear HW3 HR3 HA3 hB3
    obtain ⟨k, hk, rfl, HW, HR, HA, hB⟩ := hrel
    cases gk with
    | zero =>
      obtain rfl : k = 4 := by omega
      have HQ : Kp (Blk wr gw 66 (numCells (W4 (getN d)))) := ⟨by rw [← part4_all (getN d) (fun _ => 0)]; exact HW.out⟩
      have HLen : Kp ((numCells (W4 (getN d))).length = 4) := ⟨by rw [numCells_length, W4_length]⟩
      have HZ : Kp (zeroW4.length = 4) := ⟨rfl⟩
      generalize hL : W4 (getN d) = L at *
      have HL : Kp _ := ⟨hL⟩
      clear HW hL
      go_wp2_with (first
        | (with_reducible refine wpList_loadAll (o := ⟨some 18, _, _, _, _, _⟩) rwWords rfl (.tmp 3) rfl rfl HQ.out HLen.out ?_)
        | (with_reducible refine wpList_storeAll (o := ⟨none, _, _, _, _, _⟩) (vs := numCells L) rwWords rfl (.tmp 2) (.tmp 18) rfl rfl HR.out HZ.out HLen.out (numCells_one _) rfl ?_))
      intro w5 hk5 ho5
      have HK5 : Kp _ := ⟨hk5⟩
      clear hk5
      go_wp2
      exact ret_arr rfl rwWords rfl HK5.out HLen.out rfl ⟨by rw [HL.out], hB.trans (ho5.below (by omega))⟩
    | succ g2 =>
      have hkI : (k : Int) < 4 := by omega
      have hk4 : k < 4 := by omega
      obtain ⟨s, hs⟩ : ∃ s : Nat, s = 24 - 8 * k := ⟨_, rfl⟩
      have hs24 : s ≤ 24 := by omega
      have HWa := word_at d HD.out k hk4
      have HSt := sstart_any k wr hk4
      rw [← hs] at HWa HSt
      have HW8 : Kp _ := ⟨HWa⟩
      have HSC : Kp _ := ⟨HSt⟩
      have HSet : Kp _ := ⟨part4_set (dg (getN d)) (fun _ => 0) k⟩
      generalize dg (getN d) k = x at *
      have hco : wr.cell? ⟨gw, k, none⟩ = some (.int .u64 ((0 : Nat) : Int)) := by rw [HW.out.cell?, part4_at _ _ _ _ hk4 (Nat.le_refl _)]
      have hfo := HW.out.frozen k
      have HBs : Kp (Bs wr wr.heap.size (some ⟨w.heap.size, s, none⟩) 8 (32 - s) ((d.take (s + 8)).drop s)) := ⟨HA.out.bytes HA.out.lt (cut_cells d s 8) (by have := HD.out; simp; omega) (32 - s) (by omega) (by simp only [maxLen]; omega)⟩
      have hsl := dig_slice_lh w.heap.size s hs24 wr
      clear HWa HSt hs
      go_wp2_with fail
      refine HSC.out.mono ?_
      rintro e w5 ⟨rfl, rfl⟩
      go_wp2_with fail
      refine HSC.out.mono ?_
      rintro e w5 ⟨rfl, rfl⟩
      go_wp2_with fail
      refine (get_any _ _ _ _ _ _ HBs.out).mono ?_
      rintro e w6 ⟨rfl, rfl⟩
      rw [Nat.sub_self, List.drop_zero, HW8.out]
      go_wp2
      go_roundg g2
      case rel =>
        refine ⟨k + 1, by omega, by go_num, ⟨?_⟩, ⟨HR.out.other (by show gr ≠ gw; omega) _⟩, ⟨HA.out.other (by show w.heap.size ≠ gw; omega) _⟩, hB.setCell (by show w.heap.size ≤ gw; omega) _⟩
        have h3 := HW.out.set k (.int .u64 (x : Int)); rw [HSet.out] at h3; exact h3
      case measure => omega

end Go.Proofs.Ythpfiieaanioeaa

namespace Go.Proofs.Ythpfiieaanioeaa
open Go.RowKit

theorem tail_cells (n k : Nat) (hk : k < 4) : (cells8 (tailL n k)).take (24 - 8 * k) ++ (cells8 (putN (dg n k) 8) ++ (cells8 (tailL n k)).drop (24 - 8 * k + 8)) = cells8 (tailL n (k + 1)) := by
  rw [← tail_next n k hk, cells8_append, cells8_append]
  unfold cells8
  rw [List.map_take, List.map_drop]
set_option maxRecDepth 100000 in
set_option maxHeartbeats 4000000 in
theorem sdigest_any (n : Nat) (w : World) : Calls Try.prog 37 #[.agg (numCells (W4 n)).toArray] w fun e w' => e = .returned (.agg (cells8 (putN n 32)).toArray) ∧ Below w.heap.size w w' := by
  have HLm : Kp ((numCells (W4 n)).length = 4) := ⟨by rw [numCells_length, W4_length]⟩
  go_enter Try.func37, Try.ntmps37
  go_wp2_with (with_reducible refine wpList_box (o := ⟨some 1, _, _, _, _, _⟩) rfl (.tmp 0) rfl rfl ?_)
  intro w1 hk1 hb1 hs1
  have HC1 : Kp _ := ⟨hk1⟩
  clear hk1 hs1
  go_wp2_with (with_reducible refine wpList_alloc (o := ⟨some 2, _, _, _, _, _⟩) tyDig rfl rfl ?_)
  intro w2 hk2 hb2 hs2
  have HR2 : Kp _ := ⟨hk2⟩
  have HC2 : Kp _ := ⟨HC1.out.below hb2 HC1.out.lt⟩
  have hB2 : Below w.heap.size w w2 := hb1.trans (hb2.mono hb1.size)
  have n1 : w.heap.size < w1.heap.size := HC1.out.lt
  clear hk2 hb1 hb2 hs2 HC1
  go_wp2_with (with_reducible refine wpList_alloc (o := ⟨some 3, _, _, _, _, _⟩) tyDig rfl rfl ?_)
  intro w3 hk3 hb3 hs3
  have HD3 : Kp (Blk w3 w2.heap.size 43 (cells8 (tailL n 0))) := ⟨by rw [tail_none]; exact hk3⟩
  have HR3 : Kp _ := ⟨HR2.out.below hb3 HR2.out.lt⟩
  have HC3 : Kp _ := ⟨HC2.out.below hb3 HC2.out.lt⟩
  have hB3 : Below w.heap.size w w3 := hB2.trans (hb3.mono hB2.size)
  have n2 : w1.heap.size < w2.heap.size := HR2.out.lt
  obtain ⟨gr, hgr⟩ : ∃ g, g = w1.heap.size := ⟨_, rfl⟩
  obtain ⟨gd, hgd⟩ : ∃ g, g = w2.heap.size := ⟨_, rfl⟩
  rw [← hgr] at HR3 n1 n2
  rw [← hgd] at HD3 n2
  rw [← hgr, ← hgd]
  clear hk3 hb3 hs3 HR2 HC2 hB2 hgr hgd
  go_wp2_with (with_reducible refine wpList_loadAll (o := ⟨some 6, _, _, _, _, _⟩) rwWords rfl (.tmp 1) rfl rfl HC3.out HLm.out ?_)
  go_wp2
  go_loopg [7] 4 (fun gk vi wr => ∃ k : Nat, k + gk = 4 ∧ vi = .int .i64 k ∧ Kp (Blk wr gd 43 (cells8 (tailL n k))) ∧ Kp (Blk wr gr 43 zero32) ∧ Kp (Blk wr w.heap.size 66 (numCells (W4 n))) ∧ Below w.heap.size w wr)
  case atStart => exact ⟨0, by omega, rfl, HD3, HR3, HC3, hB3⟩
  case round =>
    clear HD3 HR3 HC3 hB3
    obtain ⟨k, hk, rfl, HD, HR, HC, hB⟩ := hrel
    cases gk with
    | zero =>
      obtain rfl : k = 4 := by omega
      have HQ : Kp (Blk wr gd 43 (cells8 (putN n 32))) := ⟨by rw [← tail_all n]; exact HD.out⟩
      have HLen : Kp ((cells8 (putN n 32)).length = 32) := ⟨by rw [cells8_length, putN_length]⟩
      have HZ : Kp (zero32.length = 32) := ⟨rfl⟩
      generalize hL : putN n 32 = L at *
      have HL : Kp _ := ⟨hL⟩
      clear HD hL
      go_wp2_with (first
        | (with_reducible refine wpList_loadAll (o := ⟨some 18, _, _, _, _, _⟩) rwDig rfl (.tmp 3) rfl rfl HQ.out HLen.out ?_)
        | (with_reducible refine wpList_storeAll (o := ⟨none, _, _, _, _, _⟩) (vs := cells8 L) rwDig rfl (.tmp 2) (.tmp 18) rfl rfl HR.out HZ.out HLen.out (cells8_one _) rfl ?_))
      intro w5 hk5 ho5
      have HK5 : Kp _ := ⟨hk5⟩
      clear hk5
      go_wp2
      exact ret_arr rfl rwDig rfl HK5.out HLen.out rfl ⟨by rw [HL.out], hB.trans (ho5.below (by omega))⟩
    | succ g2 =>
      have hkI : (k : Int) < 4 := by omega
      have hk4 : k < 4 := by omega
      obtain ⟨s, hs⟩ : ∃ s : Nat, s = 24 - 8 * k := ⟨_, rfl⟩
      have hs24 : s ≤ 24 := by omega
      have hSt := fun W => sstart_any k W hk4
      have hTN := tail_cells n k hk4
      have hx64 := dg_lt n k
      have he := W4_at n k hk4
      rw [← hs] at hTN
      simp only [← hs] at hSt
      have HSC : Kp _ := ⟨hSt⟩
      have HTN : Kp _ := ⟨hTN⟩
      have hsl := fun W => dig_slice_l gd s hs24 W
      generalize dg n k = x at *
      clear hSt hTN hs
      go_wp2_with (with_reducible refine wpList_index (o := ⟨some 10, _, _, _, _, _⟩) rwWords.ty plain64 rfl (.tmp 6) (.tmp 7) rfl rfl rfl k rfl hk4 he ?_)
      go_wp2_with fail
      obtain ⟨wa, rfl⟩ : ∃ x, x = wr := ⟨wr, rfl⟩
      refine wp_region_any (by kernel_rfl) ?_
      change wpAny _ _ _ _ _ _ _ wa.drew
      replace HC : Kp _ := ⟨HC.out.drew⟩
      replace HR : Kp _ := ⟨HR.out.drew⟩
      replace HD : Kp _ := ⟨HD.out.drew⟩
      replace hB := hB.drew
      generalize wa.drew = wS at *
      refine wpAny_take (i := 0) (oi := ⟨some 11, _, _, _, _, _⟩) (v := ?_) rfl (by kernel_rfl) (by kernel_rfl) (by kernel_rfl) (fun _ _ _ h => h) (Or.inl ⟨by rfl, by intro w; go_simp; try rfl⟩) ?_
      try simp only [Act.put, List.setIfInBounds_toArray, List.set_cons_zero, List.set_cons_succ]
      refine wpAny_take (i := 3) (oi := ⟨some 14, _, _, _, _, _⟩) (v := ?_) rfl (by kernel_rfl) (by kernel_rfl) (by kernel_rfl) (fun _ _ _ h => h) (Or.inl ⟨by rfl, by intro w; go_simp; try rfl⟩) ?_
      try simp only [Act.put, List.setIfInBounds_toArray, List.set_cons_zero, List.set_cons_succ]
      refine wpAny_ready (rs := [1]) (by kernel_rfl) (by simp) ?_
      refine AllReady.cons (o := ⟨some 12, _, _, _, _, _⟩) rfl (fun K hK => ?_) AllReady.nil
      go_simp
      refine (HSC.out wS).mono ?_
      rintro e w61 ⟨rfl, rfl⟩
      refine hK _ _ ?_
      clear hK K
      try simp only [Act.put, List.setIfInBounds_toArray, List.set_cons_zero, List.set_cons_succ]
      refine wpAny_take (i := 2) (oi := ⟨some 13, _, _, _, _, _⟩) (v := _) rfl (by kernel_rfl) (by kernel_rfl) (by kernel_rfl) (fun _ _ _ h => h) (Or.inl ⟨by rfl, by intro w; go_simp; try rfl⟩) ?_
      try simp only [Act.put, List.setIfInBounds_toArray, List.set_cons_zero, List.set_cons_succ]
      refine wpAny_ready (rs := [4]) (by kernel_rfl) (by simp) ?_
      refine AllReady.cons (o := ⟨some 15, _, _, _, _, _⟩) rfl (fun K hK => ?_) AllReady.nil
      go_simp
      refine (put_any x 8 _ hx64).mono ?_
      rintro e w62 ⟨v, rfl, hown, hb'⟩
      obtain ⟨Ap, cp, rfl, hbs⟩ := Bs.of_own hown
      have HP : Kp _ := ⟨hbs⟩
      refine hK _ _ ?_
      clear hK K hown hbs
      try simp only [Act.put, List.setIfInBounds_toArray, List.set_cons_zero, List.set_cons_succ]
      replace HC : Kp _ := ⟨HC.out.below hb' HC.out.lt⟩
      replace HR : Kp _ := ⟨HR.out.below hb' HR.out.lt⟩
      replace HD : Kp _ := ⟨HD.out.below hb' HD.out.lt⟩
      replace hB := hB.trans (hb'.mono hB.size)
      clear hb'
      refine wpAny_ready (rs := [5]) (by kernel_rfl) (by simp) ?_
      refine AllReady.cons (o := ⟨some 16, _, _, _, _, _⟩) rfl (fun K hK => ?_) AllReady.nil
      obtain ⟨ad, hAd⟩ : ∃ ad, Ap = some ad := by
        obtain ⟨b, o, h, _⟩ := HP.out.cells (by decide)
        exact ⟨_, h⟩
      subst hAd
      have hnw := HP.out.news _ rfl
      refine step_copy_splice rfl (.tmp 13) (.tmp 15) _ _ rfl 5 Try.underlying22 (by kernel_rfl) _ _ _ _ _ _ rfl rfl gd s (cells8 (tailL n k)) 43 HD.out.heap (cells8 (putN x 8)) (by rw [cells8_length, putN_length]; show 8 = min 8 (32 - s); omega) (fun _ => ⟨rfl, _, rfl, hnw⟩) (by rw [cells8_length, cells8_length, putN_length, tailL_length _ _ (by omega)]; omega) (cells8_one _) gd w62 (Below.refl _ _) (Nat.le_refl _) ?_
      intro w63 hh hb'
      have HDn : Kp (Blk w63 gd 43 (cells8 (tailL n (k + 1)))) := ⟨⟨by have h3 := hh.out; unfold splice at h3; rw [cells8_length, putN_length, HTN.out] at h3; exact h3⟩⟩
      replace HC : Kp _ := ⟨HC.out.below hb' (by omega)⟩
      replace HR : Kp _ := ⟨HR.out.below hb' (by omega)⟩
      replace hB := hB.trans (hb'.mono (by omega))
      refine hK _ _ ?_
      clear hK K hh hb'
      try simp only [Act.put, List.setIfInBounds_toArray, List.set_cons_zero, List.set_cons_succ]
      refine wpAny_done (by kernel_rfl) ?_ _
      go_wp2
      go_roundg g2
      case rel => exact ⟨k + 1, by omega, by go_num, HDn, HR, HC, hB⟩
      case measure => omega
end Go.Proofs.Ythpfiieaanioeaa

namespace Go.Proofs.Ythpfiieaanioeaa
open Go.RowKit

/-- The values are slices that read as the lists fs; those that have anything lie below B, and not in block g. -/
structure Fs (w : World) (B : Nat) (g : Option Nat) (vals : List Value) (fs : List (List UInt8)) : Prop where
  len : vals.length = fs.length
  at' : ∀ j (h1 : j < vals.length) (h2 : j < fs.length), ∃ A n c, vals[j] = .slice A n c ∧ Bs w B A n c fs[j] ∧ ∀ ad, A = some ad → 0 < n → g ≠ some ad.block
section
variable {w w' : World} {B B' : Nat} {g : Option Nat} {vals : List Value} {fs : List (List UInt8)}
theorem Fs.zero (w : World) (B : Nat) (g : Option Nat) : Fs w B g [] [] := ⟨rfl, fun j h _ => absurd h (by simp)⟩
theorem Fs.below (h : Fs w B g vals fs) (hb : Below B w w') : Fs w' B g vals fs :=
  ⟨h.len, fun j h1 h2 => by
    obtain ⟨A, n, c, e, hbs, hg⟩ := h.at' j h1 h2
    exact ⟨A, n, c, e, hbs.below hb, hg⟩⟩
theorem Fs.more (h : Fs w B g vals fs) (hB : B ≤ B') : Fs w B' g vals fs :=
  ⟨h.len, fun j h1 h2 => by
    obtain ⟨A, n, c, e, hbs, hg⟩ := h.at' j h1 h2
    exact ⟨A, n, c, e, hbs.more hB, hg⟩⟩
theorem Bs.grown {g : Option Nat} {A : Option Addr} {n c : Nat} {l : List UInt8} (h : Bs w B A n c l) (hk : ∀ k, g ≠ some k → k < B → w'.heap[k]? = w.heap[k]?) (hg : ∀ ad, A = some ad → 0 < n → g ≠ some ad.block) : Bs w' B A n c l :=
  ⟨h.len, h.cap, h.max, h.nil, fun h0 => by
    obtain ⟨b, o, hA, hb, hc⟩ := h.cells h0
    refine ⟨b, o, hA, hb, fun j hj => ?_⟩
    rw [← hc j hj]
    exact World.cell?_of_block (w := w) (hk b (hg _ hA h0) hb)⟩
theorem Fs.grown (h : Fs w B g vals fs) (hk : ∀ k, g ≠ some k → k < B → w'.heap[k]? = w.heap[k]?) : Fs w' B g vals fs :=
  ⟨h.len, fun j h1 h2 => by
    obtain ⟨A, n, c, e, hbs, hg⟩ := h.at' j h1 h2
    exact ⟨A, n, c, e, hbs.grown hk hg, hg⟩⟩
theorem Fs.move {g' : Option Nat} (h : Fs w B g vals fs) (hg' : g' = g ∨ ∃ k, g' = some k ∧ B ≤ k) : Fs w B g' vals fs :=
  ⟨h.len, fun j h1 h2 => by
    obtain ⟨A, n, c, e, hbs, hg⟩ := h.at' j h1 h2
    refine ⟨A, n, c, e, hbs, fun ad hA h0 => ?_⟩
    rcases hg' with rfl | ⟨k, rfl, hk⟩
    · exact hg ad hA h0
    · obtain ⟨b, o, hA', hb, _⟩ := hbs.cells h0
      rw [hA] at hA'
      obtain rfl := Option.some.inj hA'
      intro e; have := Option.some.inj e; simp at this; omega⟩
theorem Fs.snoc (h : Fs w B g vals fs) {A : Option Addr} {n c : Nat} {l : List UInt8} (hb : Bs w B A n c l) (hg : ∀ ad, A = some ad → 0 < n → g ≠ some ad.block) :
    Fs w B g (vals ++ [.slice A n c]) (fs ++ [l]) := by
  refine ⟨by simp [h.len], fun j h1 h2 => ?_⟩
  by_cases hj : j < vals.length
  · rw [List.getElem_append_left hj, List.getElem_append_left (by rw [← h.len]; exact hj)]
    exact h.at' j hj _
  · have hjv : j = vals.length := by simp at h1; omega
    have hjf : j = fs.length := by rw [← h.len]; exact hjv
    refine ⟨A, n, c, ?_, ?_, hg⟩
    · rw [List.getElem_append_right (by omega)]; simp [hjv]
    · rw [List.getElem_append_right (by omega)]; simpa [hjf] using hb
theorem Fs.lists {base : Nat} {e : TypeId} {v : Value} {k : Nat} (h : Fs w B g vals fs) (hown : w.ownsRow base e 1 v k vals) (hB : w.heap.size ≤ B) : ∃ A c, v = .slice A k c ∧ Ls w B A k c fs := by
  have hl : vals.length = k := by have := hown.1; omega
  rcases hown.2 with ⟨rfl, rfl⟩ | ⟨g', cap, cur, rfl, hg, hh, hn, hm, hs, ht⟩
  · obtain rfl : vals = [] := List.eq_nil_of_length_eq_zero hl
    obtain rfl : fs = [] := List.eq_nil_of_length_eq_zero (by rw [← h.len]; rfl)
    exact ⟨none, 0, rfl, Ls.zero w _⟩
  · refine ⟨some ⟨g', 0, none⟩, cap, rfl, by rw [← h.len]; exact hl, hn, hm, (fun h => by cases h), fun h0 => ⟨g', 0, rfl, ?_, fun j hj => ?_⟩⟩
    · have := (Array.getElem?_eq_some_iff.1 hh).1; omega
    · have hjv : j < vals.length := by rw [h.len]; exact hj
      obtain ⟨A, n, c, e', hbs, _⟩ := h.at' j hjv hj
      refine ⟨A, n, c, ?_, hbs⟩
      have := hown.cells (g := g') rfl j (vals[j]) (List.getElem?_eq_getElem hjv)
      rw [Addr.add_lit, e'] at this
      exact this
/-- one slice, laid in a block of its own, is a list of one -/
theorem Ls.one {A : Option Addr} {n c : Nat} {l : List UInt8} (t : TypeId) (h : Bs w w.heap.size A n c l) : Ls (w.alloc (.cells #[.slice A n c] t)) (w.heap.size + 1) (some ⟨w.heap.size, 0, none⟩) 1 1 [l] := by
  refine ⟨rfl, Nat.le_refl _, by simp [maxLen], (fun h => by cases h), fun _ => ⟨w.heap.size, 0, rfl, by omega, fun j hj => ?_⟩⟩
  obtain rfl : j = 0 := by simp at hj; omega
  refine ⟨A, n, c, ?_, (h.alloc (Nat.le_refl _) _).more (by omega)⟩
  rw [World.cell?_alloc_at _ _ _ _ rfl]; rfl
theorem Ls.two {A A2 : Option Addr} {n c n2 c2 : Nat} {l l2 : List UInt8} (t : TypeId) (h : Bs w w.heap.size A n c l) (h2 : Bs w w.heap.size A2 n2 c2 l2) : Ls (w.alloc (.cells #[.slice A n c, .slice A2 n2 c2] t)) (w.heap.size + 1) (some ⟨w.heap.size, 0, none⟩) 2 2 [l, l2] := by
  refine ⟨rfl, Nat.le_refl _, by simp [maxLen], (fun h => by cases h), fun _ => ⟨w.heap.size, 0, rfl, by omega, fun j hj => ?_⟩⟩
  rcases (by simp at hj; omega : j = 0 ∨ j = 1) with rfl | rfl
  · refine ⟨A, n, c, ?_, (h.alloc (Nat.le_refl _) _).more (by omega)⟩
    rw [World.cell?_alloc_at _ _ _ _ rfl]; rfl
  · refine ⟨A2, n2, c2, ?_, (h2.alloc (Nat.le_refl _) _).more (by omega)⟩
    rw [World.cell?_alloc_at _ _ _ _ rfl]; rfl
end

/-- where the k-th field begins -/
def off (ws : List Int) (k : Nat) : Nat := ((ws.take k).map Int.toNat).sum
/-- the fields, one behind the other, as far as there is anything -/
def fieldsL : List UInt8 → List Int → List (List UInt8)
  | _, [] => []
  | b, w :: ws => b.take w.toNat :: fieldsL (b.drop w.toNat) ws
/-- why there are none -/
def cutE (b : List UInt8) (ws : List Int) : Nat := if b.length < off ws ws.length then 3 else if off ws ws.length < b.length then 4 else 0
def cutF (b : List UInt8) (ws : List Int) : List (List UInt8) := if cutE b ws = 0 then fieldsL b ws else []

theorem off_zero (ws : List Int) : off ws 0 = 0 := rfl
theorem off_succ (ws : List Int) (k : Nat) (h : k < ws.length) : off ws (k + 1) = off ws k + ws[k].toNat := by
  unfold off
  rw [List.take_succ_eq_append_getElem h, List.map_append, List.sum_append]; rfl
theorem off_mono (ws : List Int) (j k : Nat) (h : j ≤ k) : off ws j ≤ off ws k := by
  unfold off
  have e : ws.take j = (ws.take k).take j := by rw [List.take_take]; congr 1; omega
  rw [e]
  conv => rhs; rw [← List.take_append_drop j (ws.take k), List.map_append, List.sum_append]
  omega
theorem cutE_short {b : List UInt8} {ws : List Int} {k N rn : Nat} (hk : k + 1 ≤ ws.length) (h1 : off ws (k + 1) = off ws k + N) (h2 : off ws k + rn = b.length) (h3 : rn < N) : cutE b ws = 3 := by
  have := off_mono ws (k + 1) ws.length hk
  unfold cutE
  rw [if_pos (by omega)]
theorem cutE_left {b : List UInt8} {ws : List Int} {rn : Nat} (h2 : off ws ws.length + rn = b.length) (h3 : 0 < rn) : cutE b ws = 4 := by
  unfold cutE
  rw [if_neg (by omega), if_pos (by omega)]
theorem cutE_ok {b : List UInt8} {ws : List Int} (h2 : off ws ws.length = b.length) : cutE b ws = 0 := by
  unfold cutE
  rw [if_neg (by omega), if_neg (by omega)]
theorem cutF_bad {b : List UInt8} {ws : List Int} (h : cutE b ws ≠ 0) : cutF b ws = [] := by unfold cutF; rw [if_neg h]
theorem cutF_ok {b : List UInt8} {ws : List Int} (h : cutE b ws = 0) : cutF b ws = fieldsL b ws := by unfold cutF; rw [if_pos h]
theorem fieldsL_length (b : List UInt8) (ws : List Int) : (fieldsL b ws).length = ws.length := by
  induction ws generalizing b with
  | nil => rfl
  | cons w ws ih => simp [fieldsL, ih]
theorem fieldsL_snoc (b : List UInt8) (ws : List Int) (z : Int) : fieldsL b (ws ++ [z]) = fieldsL b ws ++ [(b.drop (off ws ws.length)).take z.toNat] := by
  induction ws generalizing b with
  | nil => simp [fieldsL, off]
  | cons w ws ih =>
    simp only [List.cons_append, fieldsL, ih]
    simp [off, List.drop_drop]
theorem fieldsL_take (b : List UInt8) (ws : List Int) (k : Nat) (h : k < ws.length) : fieldsL b (ws.take (k + 1)) = fieldsL b (ws.take k) ++ [(b.drop (off ws k)).take ws[k].toNat] := by
  rw [List.take_succ_eq_append_getElem h, fieldsL_snoc]
  have : off (ws.take k) (ws.take k).length = off ws k := by
    unfold off; rw [List.take_of_length_le (Nat.le_refl _)]
  rw [this]
theorem fieldsL_flatten (b : List UInt8) (ws : List Int) (h : off ws ws.length ≤ b.length) : (fieldsL b ws).flatten = b.take (off ws ws.length) := by
  induction ws generalizing b with
  | nil => simp [fieldsL, off]
  | cons w ws ih =>
    have e : off (w :: ws) (w :: ws).length = w.toNat + off ws ws.length := by simp [off]
    rw [e] at h ⊢
    rw [fieldsL, List.flatten_cons, ih _ (by simp; omega), List.take_add]
end Go.Proofs.Ythpfiieaanioeaa

namespace Go.Proofs.Ythpfiieaanioeaa
open Go.RowKit

theorem run_eqItems_bytes {P : Program} {e : TypeId} (he : P.underlying e = some (.int .u8)) (hc : P.cellsOf e = 1) (w : World) (d : Nat) (l m : List UInt8) (hl : l.length = m.length) :
    ∀ (k i : Nat), i + k = l.length → (Op.eqItems (d + 1) e (P.cellsOf e) (cells8 l).toArray (cells8 m).toArray (List.range' i k)).run P w = .ok (l.drop i == m.drop i) w
  | 0, i, h => by
    rw [List.drop_of_length_le (by omega), List.drop_of_length_le (by omega)]
    simp [Op.eqItems]
  | k + 1, i, h => by
    have hi : i < l.length := by omega
    have hi2 : i < m.length := by omega
    have ih := run_eqItems_bytes he hc w d l m hl k (i + 1) (by omega)
    have p1 : (part e (cells8 l).toArray (i * P.cellsOf e)).run P w = .ok (.int .u8 (l[i].toNat : Int)) w := by
      rw [hc, Nat.mul_one]
      exact run_part_plain w (by simp [Program.plainKey, he]) (by simpa using cells8_at l i hi)
    have p2 : (part e (cells8 m).toArray (i * P.cellsOf e)).run P w = .ok (.int .u8 (m[i].toNat : Int)) w := by
      rw [hc, Nat.mul_one]
      exact run_part_plain w (by simp [Program.plainKey, he]) (by simpa using cells8_at m i hi2)
    rw [List.range'_succ]
    simp only [Op.eqItems, Sem.run_bind, p1, p2, Result.andThen_ok, run_equalIn_int w d e .u8 .u8 _ _ he]
    rw [List.drop_eq_getElem_cons hi, List.drop_eq_getElem_cons hi2, List.cons_beq_cons]
    have e1 : ((l[i].toNat : Int) == (m[i].toNat : Int)) = (l[i] == m[i]) := by
      rw [Bool.eq_iff_iff]
      simp only [beq_iff_eq]
      exact ⟨fun h => UInt8.toNat_inj.1 (by omega), fun h => by rw [h]⟩
    rw [e1]
    cases h4 : l[i] == m[i]
    · simp
    · simpa using ih

/-- two arrays of bytes, held against each other -/
structure EqB (P : Program) (t e : TypeId) (n : Nat) : Prop where
  ty : P.underlying t = some (.array n e)
  el : P.underlying e = some (.int .u8)
  one : P.cellsOf e = 1
theorem run_eql_bytes {P : Program} {t e : TypeId} {n : Nat} (E : EqB P t e n) (w : World) (l m : List UInt8) (hl : l.length = n) (hm : m.length = n) :
    (binOp .eql t (.agg (cells8 l).toArray) (.agg (cells8 m).toArray)).run P w = .ok (.bool (l == m)) w := by
  obtain ⟨i, hi⟩ : ∃ i, P.info? e = some i := info_of_underlying E.el
  rw [run_eql_struct, run_equalIn_array w 9999 _ _ E.ty hi, List.range_eq_range', run_eqItems_bytes E.el E.one w 9998 l m (by omega) n 0 (by omega)]
  simp
theorem run_equalIn_bytes {P : Program} {t e : TypeId} {n : Nat} (E : EqB P t e n) (w : World) (l m : List UInt8) (hl : l.length = n) (hm : m.length = n) :
    (Op.equalIn 10000 t (.agg (cells8 l).toArray) (.agg (cells8 m).toArray)).run P w = .ok (l == m) w := by
  obtain ⟨i, hi⟩ : ∃ i, P.info? e = some i := info_of_underlying E.el
  rw [run_equalIn_array w 9999 _ _ E.ty hi, List.range_eq_range', run_eqItems_bytes E.el E.one w 9998 l m (by omega) n 0 (by omega)]
  simp
theorem run_neq_bytes {P : Program} {t e : TypeId} {n : Nat} (E : EqB P t e n) (w : World) (l m : List UInt8) (hl : l.length = n) (hm : m.length = n) :
    (binOp .neq t (.agg (cells8 l).toArray) (.agg (cells8 m).toArray)).run P w = .ok (.bool (!(l == m))) w := by
  obtain ⟨i, hi⟩ : ∃ i, P.info? e = some i := info_of_underlying E.el
  rw [run_neq_struct, run_equalIn_array w 9999 _ _ E.ty hi, List.range_eq_range', run_eqItems_bytes E.el E.one w 9998 l m (by omega) n 0 (by omega)]
  simp
end Go.Proofs.Ythpfiieaanioeaa

namespace Go.Proofs.Ythpfiieaanioeaa
open Go.RowKit

/-- what stays true of the world while calls make memory: nothing that was there has turned -/
theorem keep_call {w0 W W' : World} {g : Nat} {cs : List Value} (hS : Below w0.heap.size w0 W ∧ W.rangeAt g 0 cs) (hg : g < w0.heap.size) (hb : Below W.heap.size W W') : Below w0.heap.size w0 W' ∧ W'.rangeAt g 0 cs :=
  ⟨hS.1.trans (hb.mono hS.1.size), range_below hS.2 hb (Nat.lt_of_lt_of_le hg hS.1.size)⟩
theorem keep_alloc {w0 W : World} {g : Nat} {cs : List Value} (hS : Below w0.heap.size w0 W ∧ W.rangeAt g 0 cs) (o : Obj) : Below w0.heap.size w0 (W.alloc o) ∧ (W.alloc o).rangeAt g 0 cs :=
  ⟨hS.1.alloc hS.1.size o, World.rangeAt_alloc hS.2 o⟩
theorem keep_drew {w0 W : World} {g : Nat} {cs : List Value} (hS : Below w0.heap.size w0 W ∧ W.rangeAt g 0 cs) : Below w0.heap.size w0 W.drew ∧ W.drew.rangeAt g 0 cs := ⟨hS.1.drew, hS.2⟩

theorem ls_two (W : World) (t : TypeId) {A B : Option Addr} {n c m d : Nat} {la lb : List UInt8} (ha : Bs W W.heap.size A n c la) (hb : Bs W W.heap.size B m d lb) :
    Ls (W.alloc (.cells #[.slice A n c, .slice B m d] t)) (W.alloc (.cells #[.slice A n c, .slice B m d] t)).heap.size (some ⟨W.heap.size, 0, none⟩) 2 2 [la, lb] := (Ls.two t ha hb).more (by simp)
theorem ls_one (W : World) (t : TypeId) {A : Option Addr} {n c : Nat} {la : List UInt8} (ha : Bs W W.heap.size A n c la) :
    Ls (W.alloc (.cells #[.slice A n c] t)) (W.alloc (.cells #[.slice A n c] t)).heap.size (some ⟨W.heap.size, 0, none⟩) 1 1 [la] := (Ls.one t ha).more (by simp)
/-- x[i:] of bytes, in a region -/
theorem yieldsIf_cut_l {P : Program} {ops : Array Oper} {S : World → Prop} {op : Oper} {a : Act} {t e : TypeId} {z : Value} {bytes : Nat} (hw : Region.wanted op (yielded ops a.tmps) = true) (E : El P t e z bytes) (x lo : Operand) (ho : op.op = .slice t x (some lo) none none)
    {A : Option Addr} {n c : Nat} (hx : a.eval x = .slice A n c) {k : IntKind} {I : Int} (hlo : a.eval lo = .int k I) (i : Nat) (hI : I = i) (hi : i ≤ n) {A' : Option Addr} {n' c' : Nat} (hA' : (if c = i then A else A.map (·.add i)) = A') (hn' : n - i = n') (hc' : c - i = c') : YieldsIf P ops S op (.slice A' n' c') a := by
  subst hI hA' hn' hc'
  refine .inl ⟨hw, fun w _ => ?_⟩
  have hrun := run_slice_l (P := P) (w := w) t A n c E.ty' k (i : Int) (by omega) (by omega)
  rw [E.sizeOf] at hrun
  unfold execOp
  simp [ho, hx, hlo, run_sliceAt_slice (P := P) (w := w) t _ _ _ _ E.ty', hrun, Result.andThen, sliced]
/-- two arrays of bytes, held against each other, in a region -/
theorem yieldsIf_eql {P : Program} {ops : Array Oper} {S : World → Prop} {op : Oper} {a : Act} {t e t' : TypeId} {n : Nat} (hw : Region.wanted op (yielded ops a.tmps) = true) (E : EqB P t e n) (hG : P.eqGuardType P.depth t = false) (x y : Operand) (ho : op.op = .binOp .eql t x y t') (l m : List UInt8)
    (hx : a.eval x = .agg (cells8 l).toArray) (hy : a.eval y = .agg (cells8 m).toArray) (hl : l.length = n) (hm : m.length = n) {b : Bool} (hb : (l == m) = b) : YieldsIf P ops S op (.bool b) a :=
  .inl ⟨hw, fun w _ => by
    unfold execOp
    simp only [ho, hx, hy, Sem.run_bind, run_eqGuard_agg (w := w) _ _ _ _ _ _ hG, Result.andThen_ok, run_eql_bytes E w l m hl hm, hb, Sem.run_pure]⟩
theorem yieldsIf_neq {P : Program} {ops : Array Oper} {S : World → Prop} {op : Oper} {a : Act} {t e t' : TypeId} {n : Nat} (hw : Region.wanted op (yielded ops a.tmps) = true) (E : EqB P t e n) (hG : P.eqGuardType P.depth t = false) (x y : Operand) (ho : op.op = .binOp .neq t x y t') (l m : List UInt8)
    (hx : a.eval x = .agg (cells8 l).toArray) (hy : a.eval y = .agg (cells8 m).toArray) (hl : l.length = n) (hm : m.length = n) {b : Bool} (hb : (!(l == m)) = b) : YieldsIf P ops S op (.bool b) a :=
  .inl ⟨hw, fun w _ => by
    unfold execOp
    simp only [ho, hx, hy, Sem.run_bind, run_eqGuard_agg (w := w) _ _ _ _ _ _ hG, Result.andThen_ok, run_neq_bytes E w l m hl hm, hb, Sem.run_pure]⟩
end Go.Proofs.Ythpfiieaanioeaa

namespace Go.Proofs.Ythpfiieaanioeaa
open Go.RowKit

/-- two blocks as they are, and what was there ahead -/
structure Two (w : World) (ga gb : Nat) (t : TypeId) (ca cb : List Value) (W : World) : Prop where
  a : Blk W ga t ca
  b : Blk W gb t cb
  below : Below w.heap.size w W
section
variable {w W W' : World} {ga gb g : Nat} {t : TypeId} {ca cb : List Value}
theorem Two.next (h : Two w ga gb t ca cb W) (hb : Below W.heap.size W W') : Two w ga gb t ca cb W' := ⟨h.a.below hb h.a.lt, h.b.below hb h.b.lt, h.below.trans (hb.mono h.below.size)⟩
theorem Two.drew (h : Two w ga gb t ca cb W) : Two w ga gb t ca cb W.drew := ⟨h.a.drew, h.b.drew, h.below.drew⟩
theorem Two.only (h : Two w ga gb t ca cb W) (ho : Only g W W') (ha : ga < g) (hb : gb < g) (hw : w.heap.size ≤ g) : Two w ga gb t ca cb W' := ⟨h.a.only ho (by omega), h.b.only ho (by omega), h.below.trans (ho.below hw)⟩
end
theorem take_all32 {l : List Value} {n : Nat} (h : l.length = n) : (l.drop 0).take n = l := by rw [List.drop_zero, List.take_of_length_le (by omega)]
theorem fit_all32 {l : List Value} {n : Nat} (h : l.length = n) : 0 + n ≤ l.length := by omega
theorem store_all32 {cs vs : List Value} {n : Nat} (h : cs.length = n) : cs.take 0 ++ vs ++ cs.drop (0 + n) = vs := by rw [List.drop_of_length_le (by omega)]; simp
end Go.Proofs.Ythpfiieaanioeaa

namespace Go.Proofs.Ythpfiieaanioeaa
open Go.RowKit

/-- a map that tells how many of each there are: of c to begin with, of g now -/
def cntG (c g : Th → Nat) (x : Th) : Option Value := if c x = 0 then none else some (.int .i64 (g x : Int))
def cntF (l : List Th) : Th → Option Value := cntG (cntL l) (cntL l)
theorem cntG_get (c g : Th → Nat) (x : Th) (h : g x ≤ c x) : (cntG c g x).getD (.int .i64 0) = .int .i64 (g x : Int) := by
  unfold cntG
  split
  · rename_i h0
    have : g x = 0 := by omega
    rw [this]; rfl
  · rfl
theorem cntF_get (l : List Th) (x : Th) : (cntF l x).getD (.int .i64 0) = .int .i64 (cntL l x : Int) := cntG_get _ _ _ (Nat.le_refl _)
theorem cntF_next (l : List Th) (k : Nat) (h : k < l.length) (x : Th) (hx : x = l[k]) (c1 : Nat) (hc : c1 = cntL (l.take k) x + 1) : (fun y => if y = x then some (Value.int .i64 (c1 : Int)) else cntF (l.take k) y) = cntF (l.take (k + 1)) := by
  funext y
  unfold cntF cntG
  rw [cntL_take l k h, ← hx]
  by_cases hy : y = x
  · subst hy
    rw [if_pos rfl, if_pos rfl, if_neg (by omega), hc]
  · rw [if_neg hy, show (if x = y then 1 else 0) = 0 from if_neg (fun e => hy e.symm), Nat.add_zero]
theorem cntF_nil : cntF [] = fun _ => none := by funext x; rfl
set_option maxRecDepth 100000 in
set_option maxHeartbeats 2000000 in
theorem counted_any (A : Option Addr) (m c : Nat) (its : List Th) (w : World) (hI : Its w w.heap.size A m c its) (hm : m ≤ 4294967296) :
    Calls Try.prog 31 #[.slice A m c] w fun e w' => ∃ b n, e = .returned (.map (some b)) ∧ w.heap.size ≤ b ∧ Below w.heap.size w w' ∧ n ≤ m ∧ MapI w' Try.prog 61 kvT okT b n (cntF its) := by
  have HI : Kp _ := ⟨hI⟩
  have HL : Kp _ := ⟨hI.len⟩
  have hn63 := hI.le
  clear hI
  go_enter Try.func31, Try.ntmps31
  go_wp2_with (with_reducible refine wpList_makeI (o := ⟨some 8, _, _, _, _, _⟩) rfl (.tmp 7) rfl Try.underlying58 rfl kvT okT ?_)
  intro hM1 hB1
  generalize hw1 : w.alloc (.map #[] 0) = w1 at *
  have hM1' : MapI w1 Try.prog 61 kvT okT w.heap.size 0 (cntF (its.take 0)) := by rw [List.take_zero, cntF_nil]; exact hM1
  have HM1 : Kp _ := ⟨hM1'⟩
  obtain ⟨gm, hgm⟩ : ∃ g, g = w.heap.size := ⟨_, rfl⟩
  have HGm : Kp (w.heap.size ≤ gm) := ⟨by omega⟩
  rw [← hgm] at HM1 ⊢
  clear hM1 hM1' hw1 hgm
  go_wp2
  go_loopg [11] m (fun gk v11 wr => ∃ i n : Nat, i + gk = m ∧ n ≤ i ∧ v11 = .int .i64 i ∧ Kp (MapI wr Try.prog 61 kvT okT gm n (cntF (its.take i))) ∧ Below w.heap.size w wr)
  case atStart => exact ⟨0, 0, by omega, Nat.le_refl _, rfl, HM1, hB1⟩
  case round =>
    clear HM1 hB1
    obtain ⟨i, n, hi, hni, rfl, HM, hB⟩ := hrel
    cases gk with
    | zero =>
      have hlt : ¬ ((i : Int) < (m : Int)) := by omega
      have HE : Kp (i = m) := ⟨by omega⟩
      go_wp2
      go_ret
      refine ⟨gm, rfl, HGm.out, hB, n, by have := HE.out; omega, ?_⟩
      have h := HM.out
      rwa [HE.out, List.take_of_length_le (by rw [HL.out]; exact Nat.le_refl _)] at h
    | succ g2 =>
      have hlt : (i : Int) < (m : Int) := by omega
      have hin : i < m := by omega
      have hil : i < its.length := by rw [HL.out]; exact hin
      obtain ⟨ba, oa, A', n', c', rfl, hbl, hc1, hc2, hbs⟩ := (HI.out.below hB).at hin
      obtain ⟨z, hz⟩ : ∃ z, z = (its[i]'hil).1 := ⟨_, rfl⟩
      obtain ⟨l, hl⟩ : ∃ l, l = (its[i]'hil).2 := ⟨_, rfl⟩
      have HX : Kp ((z, l) = its[i]'hil) := ⟨by rw [hz, hl]⟩
      have HOk : Kp (okT (z, l)) := ⟨⟨by show (Lit.int .i64 z).wf = true; rw [hz]; exact HI.out.wf _ (List.getElem_mem hil), by show l.length ≤ maxLen; rw [hl, hbs.len]; exact Nat.le_trans hbs.cap hbs.max⟩⟩
      obtain ⟨k, hk⟩ : ∃ k, k = cntL (its.take i) (z, l) := ⟨_, rfl⟩
      obtain ⟨k1, hk1⟩ : ∃ k1, k1 = k + 1 := ⟨_, rfl⟩
      have hkle : k ≤ i := by rw [hk]; exact Nat.le_trans (cntL_le _ _) (by rw [List.length_take]; omega)
      have HG : Kp ((cntF (its.take i) (z, l)).getD (.int .i64 0) = .int .i64 (k : Int)) := ⟨by rw [hk]; exact cntF_get _ _⟩
      have HNx : Kp ((fun y => if y = (z, l) then some (Value.int .i64 (k1 : Int)) else cntF (its.take i) y) = cntF (its.take (i + 1))) := ⟨cntF_next its i hil _ HX.out k1 (by rw [hk1, hk])⟩
      have hadd : IntKind.i64.wrap ((k : Int) + 1) = (k1 : Int) := by rw [IntKind.wrap_i64, hk1]; omega
      have hadd2 : wrap64 ((k : Int) + 1) = (k1 : Int) := by rw [← hadd]; simp only [wrap64, IntKind.wrap_i64]
      rw [← hz] at hc1
      rw [← hl] at hbs
      have HBs : Kp _ := ⟨hbs⟩
      have HNlt : Kp (n < maxLen) := ⟨by simp only [maxLen]; omega⟩
      have HL2 : Kp (([.int .i64 z, .slice A' n' c'] : List Value).length = 2) := ⟨rfl⟩
      have hwr : w.heap.size ≤ wr.heap.size := hB.size
      clear hz hl hk hk1 hkle hbs hn63
      go_upto_region 5 with fail
      have hb5 : Below wr.heap.size wr (wr.alloc (.cells #[.int .i64 z, .slice A' n' c'] 30)) := (Below.refl _ _).alloc (Nat.le_refl _) _
      have HI5 : Kp (Blk (wr.alloc (.cells #[.int .i64 z, .slice A' n' c'] 30)) wr.heap.size 30 [.int .i64 z, .slice A' n' c']) := ⟨Blk.new _ _ _⟩
      have hB5 : Below w.heap.size w (wr.alloc (.cells #[.int .i64 z, .slice A' n' c'] 30)) := hB.trans (hb5.mono hwr)
      replace HM : Kp (MapI (wr.alloc (.cells #[.int .i64 z, .slice A' n' c'] 30)).drew Try.prog 61 kvT okT gm n (cntF (its.take i))) := ⟨HM.out.stay (hb5.block _ HM.out.lt)⟩
      replace HBs : Kp (Bs (wr.alloc (.cells #[.int .i64 z, .slice A' n' c'] 30)).drew (wr.alloc (.cells #[.int .i64 z, .slice A' n' c'] 30)).drew.heap.size A' n' c' l) := ⟨(((HBs.out.below (hb5.mono hwr)).more (by simp; omega)).drew)⟩
      have hgi : gm ≠ wr.heap.size := fun e => by
        have h1 := HM.out.lt
        obtain ⟨es, ck, h2⟩ := HM.out.heap
        have h3 := HI5.out.heap
        rw [← e] at h3
        have h4 := h2.symm.trans h3
        cases h4
      generalize hgx : wr.heap.size = gx at *
      clear hb5 hB hc1 hc2 hgx
      generalize wr.alloc (.cells #[.int .i64 z, .slice A' n' c'] 30) = w5 at *
      refine wp_region_any (by kernel_rfl) ?_
      change wpAny _ _ _ _ _ _ _ w5.drew
      replace HI5 : Kp _ := ⟨HI5.out.drew⟩
      replace hB5 := hB5.drew
      generalize w5.drew = wS at *
      refine wpAny_take (i := 0) (oi := ⟨some 15, _, _, _, _, _⟩) (v := ?_) rfl (by kernel_rfl) (by kernel_rfl) (by kernel_rfl) (fun _ _ _ h => h) (Or.inl ⟨by rfl, by intro w; go_simp; try rfl⟩) ?_
      try simp only [Act.put, List.setIfInBounds_toArray, List.set_cons_zero, List.set_cons_succ]
      refine wpAny_ready (rs := [1]) (by kernel_rfl) (by simp) ?_
      refine AllReady.cons (o := ⟨some 16, _, _, _, _, _⟩) rfl (fun K hK => ?_) AllReady.nil
      refine step_load rwIt rfl (.tmp 5) rfl rfl HI5.out (fit_all32 HL2.out) (take_all32 HL2.out) ?_
      refine hK _ _ ?_
      clear hK K
      try simp only [Act.put, List.setIfInBounds_toArray, List.set_cons_zero, List.set_cons_succ]
      refine wpAny_ready (rs := [2]) (by kernel_rfl) (by simp) ?_
      refine AllReady.cons (o := ⟨some 17, _, _, _, _, _⟩) rfl (fun K hK => ?_) AllReady.nil
      go_simp
      refine (thing_any z A' n' c' l wS HBs.out).mono ?_
      rintro e w61 ⟨rfl, hb'⟩
      refine hK _ _ ?_
      clear hK K
      try simp only [Act.put, List.setIfInBounds_toArray, List.set_cons_zero, List.set_cons_succ]
      replace HI5 : Kp _ := ⟨HI5.out.below hb' HI5.out.lt⟩
      replace hB5 := hB5.trans (hb'.mono hB5.size)
      replace HM : Kp _ := ⟨HM.out.stay (hb'.block _ HM.out.lt)⟩
      clear hb'
      refine wpAny_ready (rs := [3, 5]) (by kernel_rfl) (by simp) ?_
      refine AllReady.cons (o := ⟨some 18, _, _, _, _, _⟩) rfl (fun K hK => ?_) (AllReady.cons (o := ⟨some 20, _, _, _, _, _⟩) rfl (fun K hK => ?_) AllReady.nil)
      · first | refine step_lookI HM.out keyT rfl (.tmp 15) (.tmp 17) rfl Try.underlying58 (z := .int .i64 0) (fun w => rfl) rfl (z, l) HOk.out rfl ?_ | refine step_lookE HE.out keyT rfl (.tmp 15) (.tmp 17) rfl Try.underlying58 (fun w => rfl) rfl HOk.out rfl ?_
        rw [HG.out]
        refine hK _ _ ?_
        clear hK K
        try simp only [Act.put, List.setIfInBounds_toArray, List.set_cons_zero, List.set_cons_succ]
        refine wpAny_take (i := 4) (oi := ⟨some 19, _, _, _, _, _⟩) (v := ?_) rfl (by kernel_rfl) (by kernel_rfl) (by kernel_rfl) (fun _ _ _ h => h) (Or.inl ⟨by rfl, by intro w; go_simp; try rfl⟩) ?_
        try simp only [Act.put, List.setIfInBounds_toArray, List.set_cons_zero, List.set_cons_succ]
        refine wpAny_ready (rs := [5]) (by kernel_rfl) (by simp) ?_
        refine AllReady.cons (o := ⟨some 20, _, _, _, _, _⟩) rfl (fun K hK => ?_) AllReady.nil
        refine step_entI HM.out keyT rfl (.tmp 15) (.tmp 17) rfl Try.underlying58 (z := .int .i64 0) (fun w => rfl) HNlt.out rfl (z, l) HOk.out rfl ?_
        intro st w63 hE ho
        refine hK _ _ ?_
        clear hK K
        try simp only [Act.put, List.setIfInBounds_toArray, List.set_cons_zero, List.set_cons_succ]
        have HE : Kp _ := ⟨hE⟩
        replace hB5 := hB5.trans (ho.below HGm.out)
        clear HM hE ho
        refine wpAny_take (i := 6) (oi := ⟨some 21, _, _, _, _, _⟩) (v := ?_) rfl (by kernel_rfl) (by kernel_rfl) (by kernel_rfl) (fun _ _ _ h => h) (Or.inl ⟨by rfl, by intro w; go_simp; try rfl⟩) ?_
        try simp only [Act.put, List.setIfInBounds_toArray, List.set_cons_zero, List.set_cons_succ]
        refine wpAny_ready (rs := [7]) (by kernel_rfl) (by simp) ?_
        refine AllReady.cons (o := ⟨none, _, _, _, _, _⟩) rfl (fun K hK => ?_) AllReady.nil
        refine step_entS HE.out rfl (.tmp 15) (.tmp 21) (.tmp 19) rfl rfl rfl (u := .int .i64 (k1 : Int)) rfl ?_
        intro w64 hM ho
        refine hK _ _ ?_
        clear hK K
        try simp only [Act.put]
        have HM9 : Kp _ := ⟨hM⟩
        replace hB5 := hB5.trans (ho.below HGm.out)
        clear HE hM ho
        refine wpAny_done (by kernel_rfl) ?_ _
        rw [HNx.out] at HM9
        have hn9 : (if (cntF (its.take i) (z, l)).isSome = true then n else n + 1) ≤ i + 1 := by split <;> omega
        obtain ⟨n9, hn9e⟩ : ∃ n9, n9 = (if (cntF (its.take i) (z, l)).isSome = true then n else n + 1) := ⟨_, rfl⟩
        rw [← hn9e] at HM9 hn9
        clear hn9e HG HNx HNlt HBs HI5 HX HOk
        go_wp2
        go_roundg g2
        case measure => omega
        case rel => exact ⟨i + 1, n9, by omega, hn9, by go_num, HM9, hB5⟩
      · refine step_entI HM.out keyT rfl (.tmp 15) (.tmp 17) rfl Try.underlying58 (z := .int .i64 0) (fun w => rfl) HNlt.out rfl (z, l) HOk.out rfl ?_
        intro st w65 hE ho
        refine hK _ _ ?_
        clear hK K
        try simp only [Act.put, List.setIfInBounds_toArray, List.set_cons_zero, List.set_cons_succ]
        have HE : Kp _ := ⟨hE⟩
        replace hB5 := hB5.trans (ho.below HGm.out)
        clear HM hE ho
        refine wpAny_take (i := 6) (oi := ⟨some 21, _, _, _, _, _⟩) (v := ?_) rfl (by kernel_rfl) (by kernel_rfl) (by kernel_rfl) (fun _ _ _ h => h) (Or.inl ⟨by rfl, by intro w; go_simp; try rfl⟩) ?_
        try simp only [Act.put, List.setIfInBounds_toArray, List.set_cons_zero, List.set_cons_succ]
        refine wpAny_ready (rs := [3]) (by kernel_rfl) (by simp) ?_
        refine AllReady.cons (o := ⟨some 18, _, _, _, _, _⟩) rfl (fun K hK => ?_) AllReady.nil
        first | refine step_lookI HM.out keyT rfl (.tmp 15) (.tmp 17) rfl Try.underlying58 (z := .int .i64 0) (fun w => rfl) rfl (z, l) HOk.out rfl ?_ | refine step_lookE HE.out keyT rfl (.tmp 15) (.tmp 17) rfl Try.underlying58 (fun w => rfl) rfl HOk.out rfl ?_
        rw [HG.out]
        refine hK _ _ ?_
        clear hK K
        try simp only [Act.put, List.setIfInBounds_toArray, List.set_cons_zero, List.set_cons_succ]
        refine wpAny_take (i := 4) (oi := ⟨some 19, _, _, _, _, _⟩) (v := ?_) rfl (by kernel_rfl) (by kernel_rfl) (by kernel_rfl) (fun _ _ _ h => h) (Or.inl ⟨by rfl, by intro w; go_simp; try rfl⟩) ?_
        try simp only [Act.put, List.setIfInBounds_toArray, List.set_cons_zero, List.set_cons_succ]
        refine wpAny_ready (rs := [7]) (by kernel_rfl) (by simp) ?_
        refine AllReady.cons (o := ⟨none, _, _, _, _, _⟩) rfl (fun K hK => ?_) AllReady.nil
        refine step_entS HE.out rfl (.tmp 15) (.tmp 21) (.tmp 19) rfl rfl rfl (u := .int .i64 (k1 : Int)) rfl ?_
        intro w67 hM ho
        refine hK _ _ ?_
        clear hK K
        try simp only [Act.put]
        have HM9 : Kp _ := ⟨hM⟩
        replace hB5 := hB5.trans (ho.below HGm.out)
        clear HE hM ho
        refine wpAny_done (by kernel_rfl) ?_ _
        rw [HNx.out] at HM9
        have hn9 : (if (cntF (its.take i) (z, l)).isSome = true then n else n + 1) ≤ i + 1 := by split <;> omega
        obtain ⟨n9, hn9e⟩ : ∃ n9, n9 = (if (cntF (its.take i) (z, l)).isSome = true then n else n + 1) := ⟨_, rfl⟩
        rw [← hn9e] at HM9 hn9
        clear hn9e HG HNx HNlt HBs HI5 HX HOk
        go_wp2
        go_roundg g2
        case measure => omega
        case rel => exact ⟨i + 1, n9, by omega, hn9, by go_num, HM9, hB5⟩
end Go.Proofs.Ythpfiieaanioeaa

namespace Go.Proofs.Ythpfiieaanioeaa
open Go.RowKit

section
variable {P : Program} {w : World} {ops : Array Oper} {rest : List Oper} {o : Oper} {a : Act} {K : Act → World → Prop} {Q : Exit → Act → World → Prop} {n : Nat}
theorem op_inRound (r : Nat) (hd : ∀ c, o.op ≠ .defer c) (h : Oper.wp P o a w K Q) : Oper.wpIn (Fence.wide.inRound r) n P o a w K Q := by
  refine ⟨fun f _ => trivial, ?_⟩
  rw [show o.semAt (Fence.wide.inRound r).round a.eval = execOp a.eval o from Oper.semAt_some r _ _ hd]
  unfold Oper.wp at h
  generalize (execOp a.eval o).run P w = res at h ⊢
  cases res with
  | ok v w' =>
    cases v with
    | value v => exact h
    | skip => exact h
    | defer d => exact h
    | enter f args => exact ⟨fun h => (by cases h), CallsIn.inRound r (callsIn_wide.2 h)⟩
    | row s args =>
      exact ⟨fun h => (by cases h), fun c cs _ => by
        obtain ⟨v, w2, hr, hs⟩ := h c cs
        exact ⟨v, w2, hr, stepsIn_wide.2 hs⟩⟩
    | _ => exact h.elim
  | halt e w' =>
    cases e with
    | panic v => exact h
    | _ => exact h.elim
theorem ready_inRound {X : Prop} (r : Nat) (hd : ∀ c, o.op ≠ .defer c) (hg : o.guard = none) (h : if Region.wanted o (yielded ops a.tmps) = true then Oper.wp P o a w K Q else True) :
    if Region.wanted o (yielded ops a.tmps) = true then Oper.wpIn (Fence.wide.inRound r) n P o a w K Q else X := by
  have hw : Region.wanted o (yielded ops a.tmps) = true := by simp [Region.wanted, hg]
  rw [if_pos hw] at h ⊢
  exact op_inRound r hd h
theorem list_inRound (r : Nat) (hd : ∀ c, o.op ≠ .defer c) (hg : o.guard = none)
    (h : ∀ K : Act → World → Prop, (∀ a w, wpListIn (Fence.wide.inRound r) n P ops Q rest a w → K a w) → if Region.wanted o (yielded ops a.tmps) = true then Oper.wp P o a w K Q else True) : wpListIn (Fence.wide.inRound r) n P ops Q (o :: rest) a w :=
  wpListIn_step fun K hK => ready_inRound r hd hg (h K hK)
end
end Go.Proofs.Ythpfiieaanioeaa

namespace Go.Proofs.Ythpfiieaanioeaa
open Go.RowKit

set_option maxHeartbeats 400000 in
theorem refget_any (A : Option Addr) (n c : Nat) (xs : List UInt8) (w : World) (L : Nat) (ha : Bs w L A n c xs) :
    Calls Try.prog 77 #[.slice A n c] w fun e w' => e = .returned (.int .u64 ((getN xs % 18446744073709551616 : Nat) : Int)) ∧ w = w' := by
  have hn := ha.le
  have HL := Lib.hid ha.len
  go_enter Try.func77, Try.ntmps77
  go_wp2
  go_loop [3, 4] (fun s i => ∃ k : Nat, k ≤ n ∧ i = .int .i64 k ∧ s = .int .u64 ((getN (xs.take k) % 18446744073709551616 : Nat) : Int)) (fun _ i => n - (intOf i).toNat)
  case atStart => exact ⟨0, Nat.zero_le _, rfl, rfl⟩
  case round =>
    obtain ⟨k, hk, rfl, rfl⟩ := hrel
    by_cases hlt : k < n
    · obtain ⟨b, o, rfl, _, hc⟩ := ha.cell hlt
      have hky : k < xs.length := by rw [HL.out]; exact hlt
      have HS := Lib.hid (refget_step (getN (xs.take k)) (xs[k].toNat))
      have HS2 := Lib.hid (getN_take_succ xs k hky)
      generalize getN (xs.take k) % 18446744073709551616 = g at *
      go_wp2
      go_round
      case rel => exact ⟨k + 1, by omega, by go_num, by rw [HS.out, HS2.out]⟩
      case measure => simp [intOf]; omega
    · go_wp2
      go_ret
      exact ⟨ret_eq (by rw [List.take_of_length_le (by rw [HL.out]; omega)]; rfl), rfl⟩

set_option maxHeartbeats 1000000 in
theorem refput_any (n : Nat) (wide : Int) (w : World) (hn : n < 18446744073709551616) :
    Calls Try.prog 51 #[.int .u64 n, .int .i64 wide] w fun e w' => ∃ v, e = .returned v ∧ w'.ownsRow w.heap.size 5 1 v (min (max wide 0) 8).toNat (cells8 (putN n (min (max wide 0) 8).toNat)) ∧ Below w.heap.size w w' := by
  obtain ⟨N, hN⟩ : ∃ N : Nat, N = (min (max wide 0) 8).toNat := ⟨_, rfl⟩
  rw [← hN]
  have hN8 : N ≤ 8 := by omega
  have HN := Lib.hid hn
  have HNN := Lib.hid hN
  clear hn hN
  go_enter Try.func51, Try.ntmps51
  have hcase : wide < 1 ∨ (1 ≤ wide ∧ wide ≤ 8) ∨ 8 < wide := by omega
  rcases hcase with h | ⟨h0, h⟩ | h
  · obtain rfl : N = 0 := by have := HNN.out; omega
    go_wp2
    go_ret
    exact ⟨_, rfl, own_nil _ _ _, Below.refl _ _⟩
  all_goals
    go_wp2
    go_loopw [5, 6] (fun v i wr => ∃ k : Nat, k ≤ N ∧ i = .int .i64 ((N : Int) - 1 - k) ∧ Hid (wr.ownsRow w.heap.size 5 1 v k (cells8 ((putN n N).take k))) ∧ Below w.heap.size w wr) (fun _ i _ => (intOf i + 1).toNat)
    case atStart => exact ⟨0, Nat.zero_le _, by have := HNN.out; go_num, own_nil _ _ _, Below.refl _ _⟩
    case round =>
      obtain ⟨k, hk, rfl, H, hb⟩ := hrel
      by_cases hlt : k < N
      · go_wp2
        go_loop [7, 8] (fun x j => ∃ m q : Nat, m ≤ N - 1 - k ∧ j = .int .i64 m ∧ x = .int .u64 (q : Int) ∧ Hid (q = n / 256 ^ m)) (fun _ j => N - (intOf j).toNat)
        case atStart => exact ⟨0, n, Nat.zero_le _, rfl, rfl, by simp [Hid]⟩
        case round =>
          obtain ⟨m, q, hm, rfl, rfl, HQ⟩ := hrel
          by_cases hlt2 : m < N - 1 - k
          · have HD := Lib.hid (tdiv256 q (by rw [HQ.out]; exact Nat.lt_of_le_of_lt (Nat.div_le_self _ _) HN.out))
            go_wp2
            go_round
            case rel => exact ⟨m + 1, q / 256, by omega, by go_num, by rw [HD.out], by rw [HQ.out, Nat.div_div_eq_div_mul, ← Nat.pow_succ]; rfl⟩
            case measure => simp [intOf]; omega
          · go_wp2_with (at_builtin; refine wpList_app1 el8 rfl _ _ rfl w.heap.size _ k _ rfl H.out rfl rfl (by simp only [maxLen]; omega) (by omega) hb.size ?_)
            intro v' w' H' hb' _ _
            clear H
            go_wp2
            go_roundw
            case rel =>
              refine ⟨k + 1, by omega, by go_num, ?_, hb.trans hb'⟩
              show World.ownsRow _ _ _ _ _ _ _
              rw [← putN_take n N k hlt]
              obtain rfl : m = N - 1 - k := by omega
              have h1 := H'.out
              rw [HQ.out] at h1
              exact h1
            case measure => simp [intOf]; omega
      · obtain rfl : k = N := by omega
        have H2 := H.out
        rw [List.take_of_length_le (by rw [putN_length]; exact Nat.le_refl _)] at H2
        have H3 := Lib.hid H2
        clear H2 H
        go_wp2
        go_ret
        exact ⟨_, rfl, H3.out, hb⟩

end Go.Proofs.Ythpfiieaanioeaa
