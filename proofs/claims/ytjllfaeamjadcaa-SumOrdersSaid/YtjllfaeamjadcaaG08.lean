/- The contract of package sum's minus.
   A slice of a slice, in a region that draws its order. No program is named here.
   The contracts of package sum's start, split and digest, and of codec's Get.
   The contract of package sum's digest.
   The contracts of package sum's Add, Sub and Less.
   An operation within a round of a range over a function goes as anywhere, at the wide fence. No program is named here. -/
import Derived.Test.YtjllfaeamjadcaaG07
import Derived.Test.YtjllfaeamjadcaaG01
import Derived.Test.YtjllfaeamjadcaaG02
import Derived.Test.YtjllfaeamjadcaaG06
import Derived.RangeFuncNested
import Derived.RangeFuncCalls
import Derived.RangeFuncLeaves
namespace Go.Proofs.Ytjllfaeamjadcaa
open Go.RowKit

set_option maxRecDepth 100000 in
set_option maxHeartbeats 4000000 in
theorem minus_any (m n : Nat) (w : World) (hm : m < 256 ^ 32) (hn : n < 256 ^ 32) : Calls Try.prog 25 #[.agg (numCells (W4 m)).toArray, .agg (numCells (W4 n)).toArray] w fun e w' => e = .returned (.tuple #[.agg (numCells (W4 (subN m n))).toArray, .bool (decide (m < n))]) ∧ Below w.heap.size w w' := by
  have HLm : Kp ((numCells (W4 m)).length = 4) := ⟨by rw [numCells_length, W4_length]⟩
  have HMl : Kp _ := ⟨hm⟩
  have HNl : Kp _ := ⟨hn⟩
  clear hm hn
  go_enter Try.func25, Try.ntmps25
  go_wp2_with (with_reducible refine wpList_box (o := ⟨some 2, _, _, _, _, _⟩) rfl (.tmp 0) rfl rfl ?_)
  intro w1 hk1 hb1 hs1
  have HK1 : Kp _ := ⟨hk1⟩
  clear hk1 hs1
  go_wp2_with (with_reducible refine wpList_box (o := ⟨some 3, _, _, _, _, _⟩) rfl (.tmp 1) rfl rfl ?_)
  intro w2 hk2 hb2 hs2
  have HN2 : Kp _ := ⟨hk2⟩
  have HA2 : Kp _ := ⟨HK1.out.below hb2 HK1.out.lt⟩
  have hB2 : Below w.heap.size w w2 := hb1.trans (hb2.mono hb1.size)
  have n1 : w.heap.size < w1.heap.size := HK1.out.lt
  clear hk2 hb1 hb2 hs2 HK1
  go_wp2_with (with_reducible refine wpList_alloc (o := ⟨some 4, _, _, _, _, _⟩) tyWords rfl rfl ?_)
  intro w3 hk3 hb3 hs3
  have HR3 : Kp _ := ⟨hk3⟩
  have HN3 : Kp _ := ⟨HN2.out.below hb3 HN2.out.lt⟩
  have HA3 : Kp (Blk w3 w.heap.size 41 (numCells (part4 (dg (subN m n)) (dg m) 0))) := ⟨by rw [part4_none]; exact HA2.out.below hb3 HA2.out.lt⟩
  have hB3 : Below w.heap.size w w3 := hB2.trans (hb3.mono hB2.size)
  have n2 : w1.heap.size < w2.heap.size := HN2.out.lt
  obtain ⟨gn, hgn⟩ : ∃ g, g = w1.heap.size := ⟨_, rfl⟩
  obtain ⟨gr, hgr⟩ : ∃ g, g = w2.heap.size := ⟨_, rfl⟩
  rw [← hgn] at HN3 n1 n2
  rw [← hgr] at HR3 n2
  rw [← hgn, ← hgr]
  have HC0 : Kp _ := ⟨borrowN_zero m n⟩
  clear hk3 hb3 hs3 HN2 HA2 hB2 hgn hgr
  go_wp2
  go_loopg [6, 8] 4 (fun gk vc vi wr => ∃ k : Nat, k + gk = 4 ∧ vi = .int .i64 k ∧ vc = .int .u64 ((borrowN m n k : Nat) : Int) ∧ Kp (Blk wr w.heap.size 41 (numCells (part4 (dg (subN m n)) (dg m) k))) ∧ Kp (Blk wr gn 41 (numCells (W4 n))) ∧ Kp (Blk wr gr 41 zeroW4) ∧ Below w.heap.size w wr)
  case atStart => exact ⟨0, by omega, rfl, by rw [HC0.out]; rfl, HA3, HN3, HR3, hB3⟩
  case round =>
    clear HA3 HN3 HR3 hB3 HC0
    obtain ⟨k, hk, rfl, rfl, HA, HN, HR, hB⟩ := hrel
    cases gk with
    | zero =>
      obtain rfl : k = 4 := by omega
      have HD : Kp (Blk wr w.heap.size 41 (numCells (W4 (subN m n)))) := ⟨by rw [← part4_all (subN m n) (dg m)]; exact HA.out⟩
      have HLen : Kp ((numCells (W4 (subN m n))).length = 4) := ⟨by rw [numCells_length, W4_length]⟩
      have HZ : Kp (zeroW4.length = 4) := ⟨rfl⟩
      obtain ⟨bb, hbb⟩ : ∃ b : Nat, b = borrowN m n 4 := ⟨_, rfl⟩
      have HBq : Kp (((bb : Int) == 1) = decide (m < n)) := ⟨by
        rw [hbb, borrow_end m n HMl.out HNl.out]
        by_cases h : m < n
        · rw [if_pos h, decide_eq_true h]; rfl
        · rw [if_neg h, decide_eq_false h]; rfl⟩
      rw [← hbb]
      clear hbb
      generalize hL : W4 (subN m n) = L at *
      have HL : Kp _ := ⟨hL⟩
      clear HA HN hL
      go_wp2_with (first
        | (with_reducible refine wpList_loadAll (o := ⟨some 25, _, _, _, _, _⟩) rwWords rfl (.tmp 2) rfl rfl HD.out HLen.out ?_)
        | (with_reducible refine wpList_storeAll (o := ⟨none, _, _, _, _, _⟩) (vs := numCells L) rwWords rfl (.tmp 4) (.tmp 25) rfl rfl HR.out HZ.out HLen.out (numCells_one _) rfl ?_))
      intro w5 hk5 ho5
      have HK5 : Kp _ := ⟨hk5⟩
      clear hk5
      go_wp2
      exact ret_arr_tmp rfl rwWords rfl rfl HK5.out HLen.out rfl ⟨by rw [HL.out, ← HBq.out]; rfl, hB.trans (ho5.below (by omega))⟩
    | succ g2 =>
      have hkI : (k : Int) < 4 := by omega
      have hk4 : k < 4 := by omega
      obtain ⟨x, y, c, s, d, hc1, HX, HY, HCx, HS, HD, hrun⟩ := minus_parts m n k hk4 HNl.out
      have hca : wr.cell? ⟨w.heap.size, k, none⟩ = some (.int .u64 (x : Int)) := by rw [HA.out.cell?, part4_at _ _ _ _ hk4 (Nat.le_refl _), HX.out]
      have hcn : wr.cell? ⟨gn, k, none⟩ = some (.int .u64 (y : Int)) := by rw [HN.out.cell?, W4_at _ _ hk4, HY.out]
      have hfa := HA.out.frozen k
      have HSet : Kp _ := ⟨part4_set (dg (subN m n)) (dg m) k⟩
      rw [HS.out] at HSet
      rw [HCx.out]
      obtain ⟨wa, rfl⟩ : ∃ x, x = wr := ⟨wr, rfl⟩
      go_wp2_with fail
      replace hca : wa.drew.cell? ⟨w.heap.size, k, none⟩ = some (.int .u64 (x : Int)) := hca
      replace hcn : wa.drew.cell? ⟨gn, k, none⟩ = some (.int .u64 (y : Int)) := hcn
      replace hfa : wa.drew.frozen? ⟨w.heap.size, k, none⟩ = false := hfa
      refine wp_region_any (by kernel_rfl) ?_
      change wpAny _ _ _ _ _ _ _ wa.drew
      replace HA : Kp _ := ⟨HA.out.drew⟩
      replace HN : Kp _ := ⟨HN.out.drew⟩
      replace HR : Kp _ := ⟨HR.out.drew⟩
      replace hB := hB.drew
      generalize wa.drew = wS at *
      refine wpAny_take (i := 0) (oi := ⟨some 12, _, _, _, _, _⟩) (v := ?_) rfl (by kernel_rfl) (by kernel_rfl) (by kernel_rfl) (fun _ _ _ h => h) (Or.inl ⟨by rfl, by intro w; go_simp; try rfl⟩) ?_
      try simp only [Act.put, List.setIfInBounds_toArray, List.set_cons_zero, List.set_cons_succ]
      refine wpAny_take (i := 1) (oi := ⟨some 13, _, _, _, _, _⟩) (v := ?_) rfl (by kernel_rfl) (by kernel_rfl) (by kernel_rfl) (fun _ _ _ h => h) (Or.inl ⟨by rfl, by intro w; go_simp; try rfl⟩) ?_
      try simp only [Act.put, List.setIfInBounds_toArray, List.set_cons_zero, List.set_cons_succ]
      refine wpAny_take (i := 2) (oi := ⟨some 14, _, _, _, _, _⟩) (v := ?_) rfl (by kernel_rfl) (by kernel_rfl) (by kernel_rfl) (fun _ _ _ h => h) (Or.inl ⟨by rfl, by intro w; go_simp; try rfl⟩) ?_
      try simp only [Act.put, List.setIfInBounds_toArray, List.set_cons_zero, List.set_cons_succ]
      refine wpAny_take (i := 4) (oi := ⟨some 16, _, _, _, _, _⟩) (v := ?_) rfl (by kernel_rfl) (by kernel_rfl) (by kernel_rfl) (fun _ _ _ h => h) (Or.inl ⟨by rfl, by intro w; go_simp; try rfl⟩) ?_
      try simp only [Act.put, List.setIfInBounds_toArray, List.set_cons_zero, List.set_cons_succ]
      refine wpAny_take (i := 5) (oi := ⟨some 17, _, _, _, _, _⟩) (v := ?_) rfl (by kernel_rfl) (by kernel_rfl) (by kernel_rfl) (fun _ _ _ h => h) (Or.inl ⟨by rfl, by intro w; go_simp; try rfl⟩) ?_
      try simp only [Act.put, List.setIfInBounds_toArray, List.set_cons_zero, List.set_cons_succ]
      refine wpAny_take (i := 7) (oi := ⟨some 19, _, _, _, _, _⟩) (v := ?_) rfl (by kernel_rfl) (by kernel_rfl) (by kernel_rfl) (fun _ _ _ h => h) (Or.inl ⟨by rfl, by intro w; go_simp; try rfl⟩) ?_
      try simp only [Act.put, List.setIfInBounds_toArray, List.set_cons_zero, List.set_cons_succ]
      refine wpAny_ready (rs := [3, 6]) (by kernel_rfl) (by simp) ?_
      refine AllReady.cons (o := ⟨some 15, _, _, _, _, _⟩) rfl (fun K hK => ?_) (AllReady.cons (o := ⟨some 18, _, _, _, _, _⟩) rfl (fun K hK => ?_) AllReady.nil)
      · go_simp
        refine hK _ _ ?_
        clear hK K
        try simp only [Act.put, List.setIfInBounds_toArray, List.set_cons_zero, List.set_cons_succ]
        refine wpAny_ready (rs := [6]) (by kernel_rfl) (by simp) ?_
        refine AllReady.cons (o := ⟨some 18, _, _, _, _, _⟩) rfl (fun K hK => ?_) AllReady.nil
        go_simp
        refine hK _ _ ?_
        clear hK K
        try simp only [Act.put, List.setIfInBounds_toArray, List.set_cons_zero, List.set_cons_succ]
        refine wpAny_take (i := 8) (oi := ⟨some 20, _, _, _, _, _⟩) (v := _) rfl (by kernel_rfl) (by kernel_rfl) (by kernel_rfl) (fun _ _ _ h => h) (Or.inl ⟨by rfl, by intro w; go_simp; try rfl⟩) ?_
        try simp only [Act.put, List.setIfInBounds_toArray, List.set_cons_zero, List.set_cons_succ]
        refine wpAny_take (i := 9) (oi := ⟨some 11, _, _, _, _, _⟩) (v := ?_) rfl (by kernel_rfl) (by kernel_rfl) (by kernel_rfl) (fun _ _ _ h => h) (Or.inl ⟨by rfl, by intro w; go_simp; try rfl⟩) ?_
        try simp only [Act.put, List.setIfInBounds_toArray, List.set_cons_zero, List.set_cons_succ]
        refine wpAny_take (i := 10) (oi := ⟨some 21, _, _, _, _, _⟩) (v := ?_) rfl (by kernel_rfl) (by kernel_rfl) (by kernel_rfl) (fun _ _ _ h => h) (Or.inl ⟨by rfl, by intro w; go_simp; try rfl⟩) ?_
        try simp only [Act.put, List.setIfInBounds_toArray, List.set_cons_zero, List.set_cons_succ]
        refine wpAny_take (i := 11) (oi := ⟨some 22, _, _, _, _, _⟩) (v := ?_) rfl (by kernel_rfl) (by kernel_rfl) (by kernel_rfl) (fun _ _ _ h => h) (Or.inl ⟨by rfl, by intro w; go_simp; try rfl⟩) ?_
        try simp only [Act.put, List.setIfInBounds_toArray, List.set_cons_zero, List.set_cons_succ]
        refine wpAny_take (i := 12) (oi := ⟨some 23, _, _, _, _, _⟩) (v := ?_) rfl (by kernel_rfl) (by kernel_rfl) (by kernel_rfl) (fun _ _ _ h => h) (Or.inl ⟨by rfl, by intro w; go_simp; try rfl⟩) ?_
        try simp only [Act.put, List.setIfInBounds_toArray, List.set_cons_zero, List.set_cons_succ]
        refine wpAny_ready (rs := [13]) (by kernel_rfl) (by simp) ?_
        refine AllReady.cons (o := ⟨none, _, _, _, _, _⟩) rfl (fun K hK => ?_) AllReady.nil
        go_simp
        refine hK _ _ ?_
        clear hK K
        try simp only [Act.put, List.setIfInBounds_toArray, List.set_cons_zero, List.set_cons_succ]
        refine wpAny_take (i := 14) (oi := ⟨some 6, _, _, _, _, _⟩) (v := ?_) rfl (by kernel_rfl) (by kernel_rfl) (by kernel_rfl) (fun _ _ _ h => h) (Or.inl ⟨by rfl, by intro w; go_simp; try rfl⟩) ?_
        try simp only [Act.put, List.setIfInBounds_toArray, List.set_cons_zero, List.set_cons_succ]
        refine wpAny_done (by kernel_rfl) ?_ _
        go_wp2
        go_roundg g2
        case rel => exact ⟨k + 1, by omega, by go_num, by rw [HD.out], ⟨by have h3 := HA.out.set k (.int .u64 (s : Int)); rw [HSet.out] at h3; exact h3⟩, ⟨HN.out.other (by show _ ≠ w.heap.size; omega) _⟩, ⟨HR.out.other (by show _ ≠ w.heap.size; omega) _⟩, hB.setCell (by show w.heap.size ≤ w.heap.size; omega) _⟩
        case measure => omega
      · go_simp
        refine hK _ _ ?_
        clear hK K
        try simp only [Act.put, List.setIfInBounds_toArray, List.set_cons_zero, List.set_cons_succ]
        refine wpAny_ready (rs := [3]) (by kernel_rfl) (by simp) ?_
        refine AllReady.cons (o := ⟨some 15, _, _, _, _, _⟩) rfl (fun K hK => ?_) AllReady.nil
        go_simp
        refine hK _ _ ?_
        clear hK K
        try simp only [Act.put, List.setIfInBounds_toArray, List.set_cons_zero, List.set_cons_succ]
        refine wpAny_take (i := 8) (oi := ⟨some 20, _, _, _, _, _⟩) (v := _) rfl (by kernel_rfl) (by kernel_rfl) (by kernel_rfl) (fun _ _ _ h => h) (Or.inl ⟨by rfl, by intro w; go_simp; try rfl⟩) ?_
        try simp only [Act.put, List.setIfInBounds_toArray, List.set_cons_zero, List.set_cons_succ]
        refine wpAny_take (i := 9) (oi := ⟨some 11, _, _, _, _, _⟩) (v := ?_) rfl (by kernel_rfl) (by kernel_rfl) (by kernel_rfl) (fun _ _ _ h => h) (Or.inl ⟨by rfl, by intro w; go_simp; try rfl⟩) ?_
        try simp only [Act.put, List.setIfInBounds_toArray, List.set_cons_zero, List.set_cons_succ]
        refine wpAny_take (i := 10) (oi := ⟨some 21, _, _, _, _, _⟩) (v := ?_) rfl (by kernel_rfl) (by kernel_rfl) (by kernel_rfl) (fun _ _ _ h => h) (Or.inl ⟨by rfl, by intro w; go_simp; try rfl⟩) ?_
        try simp only [Act.put, List.setIfInBounds_toArray, List.set_cons_zero, List.set_cons_succ]
        refine wpAny_take (i := 11) (oi := ⟨some 22, _, _, _, _, _⟩) (v := ?_) rfl (by kernel_rfl) (by kernel_rfl) (by kernel_rfl) (fun _ _ _ h => h) (Or.inl ⟨by rfl, by intro w; go_simp; try rfl⟩) ?_
        try simp only [Act.put, List.setIfInBounds_toArray, List.set_cons_zero, List.set_cons_succ]
        refine wpAny_take (i := 12) (oi := ⟨some 23, _, _, _, _, _⟩) (v := ?_) rfl (by kernel_rfl) (by kernel_rfl) (by kernel_rfl) (fun _ _ _ h => h) (Or.inl ⟨by rfl, by intro w; go_simp; try rfl⟩) ?_
        try simp only [Act.put, List.setIfInBounds_toArray, List.set_cons_zero, List.set_cons_succ]
        refine wpAny_ready (rs := [13]) (by kernel_rfl) (by simp) ?_
        refine AllReady.cons (o := ⟨none, _, _, _, _, _⟩) rfl (fun K hK => ?_) AllReady.nil
        go_simp
        refine hK _ _ ?_
        clear hK K
        try simp only [Act.put, List.setIfInBounds_toArray, List.set_cons_zero, List.set_cons_succ]
        refine wpAny_take (i := 14) (oi := ⟨some 6, _, _, _, _, _⟩) (v := ?_) rfl (by kernel_rfl) (by kernel_rfl) (by kernel_rfl) (fun _ _ _ h => h) (Or.inl ⟨by rfl, by intro w; go_simp; try rfl⟩) ?_
        try simp only [Act.put, List.setIfInBounds_toArray, List.set_cons_zero, List.set_cons_succ]
        refine wpAny_done (by kernel_rfl) ?_ _
        go_wp2
        go_roundg g2
        case rel => exact ⟨k + 1, by omega, by go_num, by rw [HD.out], ⟨by have h3 := HA.out.set k (.int .u64 (s : Int)); rw [HSet.out] at h3; exact h3⟩, ⟨HN.out.other (by show _ ≠ w.heap.size; omega) _⟩, ⟨HR.out.other (by show _ ≠ w.heap.size; omega) _⟩, hB.setCell (by show w.heap.size ≤ w.heap.size; omega) _⟩
        case measure => omega
end Go.Proofs.Ytjllfaeamjadcaa

namespace Go.Proofs.Ytjllfaeamjadcaa
open Go.RowKit

/-- x[i:k] -/
theorem yields_cut_lh {P : Program} {ops : Array Oper} {op : Oper} {a : Act} {t e : TypeId} {z : Value} {bytes : Nat} (hw : Region.wanted op (yielded ops a.tmps) = true) (E : El P t e z bytes) (x lo hi : Operand) (ho : op.op = .slice t x (some lo) (some hi) none)
    {A : Option Addr} {n c : Nat} (hx : a.eval x = .slice A n c) {k1 k2 : IntKind} {I J : Int} (hlo : a.eval lo = .int k1 I) (hhi : a.eval hi = .int k2 J) (i k : Nat) (hI : I = i) (hJ : J = k) (hik : i ≤ k) (hk : k ≤ c) {A' : Option Addr} {n' c' : Nat} (hA' : (if c = i then A else A.map (·.add i)) = A') (hn' : k - i = n') (hc' : c - i = c') : Yields P ops op (.slice A' n' c') a := by
  subst hI hJ hA' hn' hc'
  refine .inl ⟨hw, fun w => ?_⟩
  have hrun := run_slice_lh (P := P) (w := w) t A n c E.ty' k1 k2 (i : Int) (k : Int) (by omega) (by omega) (by omega)
  rw [E.sizeOf] at hrun
  unfold execOp
  simp [ho, hx, hlo, hhi, run_sliceAt_slice (P := P) (w := w) t _ _ _ _ E.ty', hrun, Result.andThen, sliced]
end Go.Proofs.Ytjllfaeamjadcaa

namespace Go.Proofs.Ytjllfaeamjadcaa
open Go.RowKit

set_option maxHeartbeats 400000 in
theorem get_any (A : Option Addr) (n c : Nat) (xs : List UInt8) (w : World) (L : Nat) (ha : Bs w L A n c xs) :
    Calls Try.prog 31 #[.slice A n c] w fun e w' => e = .returned (.int .u64 (getN (xs.drop (n - 8)))) ∧ w = w' := by
  have hn := ha.le
  go_enter Try.func31, Try.ntmps31
  rcases (by omega : 8 ≤ n ∨ n < 8) with h8 | h8
  all_goals
    go_wp2_with (with_reducible refine wpList_cut_l (o := ⟨some 11, _, _, _, _, _⟩) el8 rfl _ _ rfl rfl ha _ _ (n - 8) rfl (by omega) (by omega) ?_)
    intro A' m d hb
    have hlen : (xs.drop (n - 8)).length ≤ 8 := by have := ha.len; simp; omega
    generalize hys : xs.drop (n - 8) = ys at *
    have HYS := Lib.hid hys
    clear hys
    have hm := hb.le
    have HML := Lib.hid hb.len
    go_wp2
    go_loop [3, 13] (fun s i => ∃ k : Nat, k ≤ m ∧ i = .int .i64 k ∧ s = .int .u64 (getN (ys.take k))) (fun _ i => m - (intOf i).toNat)
    case atStart => exact ⟨0, Nat.zero_le _, rfl, rfl⟩
    case round =>
      obtain ⟨k, hk, rfl, rfl⟩ := hrel
      by_cases hlt : k < m
      · obtain ⟨b, o, rfl, _, hc⟩ := hb.cell hlt
        have hky : k < ys.length := by rw [HML.out]; exact hlt
        have hs := getN_take_succ ys k hky
        have hl8 := getN_lt8 (ys.take (k + 1)) (by simp; omega)
        have HS := Lib.hid (get_step (getN (ys.take k)) (ys[k].toNat) (UInt8.toNat_lt _) (by omega))
        have HS2 := Lib.hid hs
        clear hs hl8
        go_wp2
        go_round
        case rel => exact ⟨k + 1, by omega, by go_num, by rw [HS.out, HS2.out]⟩
        case measure => simp [intOf]; omega
      · go_wp2
        go_ret
        exact ⟨ret_eq (by rw [List.take_of_length_le (by rw [HML.out]; omega), HYS.out]; rfl), rfl⟩

theorem sstart_any (i : Nat) (w : World) (hi : i < 4) : Calls Try.prog 32 #[.int .i64 (i : Int)] w fun e w' => e = .returned (.int .i64 ((24 - 8 * i : Nat) : Int)) ∧ w' = w := by
  obtain ⟨j, hj⟩ : ∃ j : Nat, j = 24 - 8 * i := ⟨_, rfl⟩
  rw [← hj]
  have hji : ((3 : Int) - i) * 8 = (j : Int) := by omega
  have HJ : Kp _ := ⟨hj⟩
  clear hj
  go_enter Try.func32, Try.ntmps32
  go_wp2
  go_ret
  exact ⟨rfl, rfl⟩

theorem dig_parts : (Try.prog).underlying 23 = some (.array ((Try.prog).arrayLen 23) ((Try.prog).elem 23)) ∧ (Try.prog).arrayLen 23 = 32 ∧ (Try.prog).elem 23 = 5 ∧ ((Try.prog).info? 5).map (·.size) = some 1 := ⟨by kernel_rfl, by kernel_rfl, by kernel_rfl, by kernel_rfl⟩
theorem dig_slice_lh (g s : Nat) (hs : s ≤ 24) (W : World) : (Instr.sliceAt 23 (.pointer (some ⟨g, 0, none⟩)) (some (.int .i64 (s : Int))) (some (.int .i64 ((s : Int) + 8))) none).run Try.prog W = .ok (.slice (some ⟨g, s, none⟩) 8 (32 - s)) W := by
  obtain ⟨h1, h2, h3, h4⟩ := dig_parts
  rw [run_sliceAt_array_lh W _ ⟨g, 0, none⟩ h1 .i64 .i64 (s : Int) ((s : Int) + 8) (by omega) (by omega) (by rw [h2]; omega), h2, h3]
  cases hq : (Try.prog).info? 5 with
  | none => simp [hq] at h4
  | some i =>
    have hsz : i.size = 1 := by simpa [hq] using h4
    have e1 : ((s : Int) + 8).toNat = s + 8 := by omega
    simp [Go.sizeOf, typeInfo, hq, hsz, slicedAt, Addr.add, e1, if_neg (show ¬ 32 = s by omega)]
    try omega
theorem dig_slice_l (g s : Nat) (hs : s ≤ 24) (W : World) : (Instr.sliceAt 23 (.pointer (some ⟨g, 0, none⟩)) (some (.int .i64 (s : Int))) none none).run Try.prog W = .ok (.slice (some ⟨g, s, none⟩) (32 - s) (32 - s)) W := by
  obtain ⟨h1, h2, h3, h4⟩ := dig_parts
  rw [run_sliceAt_array_l W _ ⟨g, 0, none⟩ h1 .i64 (s : Int) (by omega) (by rw [h2]; omega), h2, h3]
  cases hq : (Try.prog).info? 5 with
  | none => simp [hq] at h4
  | some i =>
    have hsz : i.size = 1 := by simpa [hq] using h4
    simp [Go.sizeOf, typeInfo, hq, hsz, slicedAt, Addr.add, if_neg (show ¬ 32 = s by omega)]
    try omega
theorem cut_cells (d : List UInt8) (s n : Nat) : ((cells8 d).drop s).take n = cells8 ((d.take (s + n)).drop s) := by
  unfold cells8
  rw [← List.map_drop, ← List.map_take, List.drop_take, Nat.add_sub_cancel_left]
set_option maxRecDepth 100000 in
set_option maxHeartbeats 4000000 in
theorem split_any (d : List UInt8) (w : World) (hd : d.length = 32) : Calls Try.prog 22 #[.agg (cells8 d).toArray] w fun e w' => e = .returned (.agg (numCells (W4 (getN d))).toArray) ∧ Below w.heap.size w w' := by
  have HD : Kp _ := ⟨hd⟩
  have HLd : Kp ((cells8 d).length = 32) := ⟨by rw [cells8_length]; exact hd⟩
  clear hd
  go_enter Try.func22, Try.ntmps22
  go_wp2_with (with_reducible refine wpList_box (o := ⟨some 1, _, _, _, _, _⟩) rfl (.tmp 0) rfl rfl ?_)
  intro w1 hk1 hb1 hs1
  have HA1 : Kp _ := ⟨hk1⟩
  clear hk1 hs1
  go_wp2_with (with_reducible refine wpList_alloc (o := ⟨some 2, _, _, _, _, _⟩) tyWords rfl rfl ?_)
  intro w2 hk2 hb2 hs2
  have HR2 : Kp _ := ⟨hk2⟩
  have HA2 : Kp _ := ⟨HA1.out.below hb2 HA1.out.lt⟩
  have hB2 : Below w.heap.size w w2 := hb1.trans (hb2.mono hb1.size)
  have n1 : w.heap.size < w1.heap.size := HA1.out.lt
  clear hk2 hb1 hb2 hs2 HA1
  go_wp2_with (with_reducible refine wpList_alloc (o := ⟨some 3, _, _, _, _, _⟩) tyWords rfl rfl ?_)
  intro w3 hk3 hb3 hs3
  have HW3 : Kp (Blk w3 w2.heap.size 41 (numCells (part4 (dg (getN d)) (fun _ => 0) 0))) := ⟨by rw [part4_zero]; exact hk3⟩
  have HR3 : Kp _ := ⟨HR2.out.below hb3 HR2.out.lt⟩
  have HA3 : Kp _ := ⟨HA2.out.below hb3 HA2.out.lt⟩
  have hB3 : Below w.heap.size w w3 := hB2.trans (hb3.mono hB2.size)
  have n2 : w1.heap.size < w2.heap.size := HR2.out.lt
  obtain ⟨gr, hgr⟩ : ∃ g, g = w1.heap.size := ⟨_, rfl⟩
  obtain ⟨gw, hgw⟩ : ∃ g, g = w2.heap.size := ⟨_, rfl⟩
  rw [← hgr] at HR3 n1 n2
  rw [← hgw] at HW3 n2
  rw [← hgr, ← hgw]
  clear hk3 hb3 hs3 HR2 HA2 hB2 hgr hgw
  go_wp2
  go_loopg [5] 4 (fun gk vi wr => ∃ k : Nat, k + gk = 4 ∧ vi = .int .i64 k ∧ Kp (Blk wr gw 41 (numCells (part4 (dg (getN d)) (fun _ => 0) k))) ∧ Kp (Blk wr gr 41 zeroW4) ∧ Kp (Blk wr w.heap.size 23 (cells8 d)) ∧ Below w.heap.size w wr)
  case atStart => exact ⟨0, by omega, rfl, HW3, HR3, HA3, hB3⟩
  case round =>
    clear HW3 HR3 HA3 hB3
    obtain ⟨k, hk, rfl, HW, HR, HA, hB⟩ := hrel
    cases gk with
    | zero =>
      obtain rfl : k = 4 := by omega
      have HQ : Kp (Blk wr gw 41 (numCells (W4 (getN d)))) := ⟨by rw [← part4_all (getN d) (fun _ => 0)]; exact HW.out⟩
      have HLen : Kp ((numCells (W4 (getN d))).length = 4) := ⟨by rw [numCells_length, W4_length]⟩
      have HZ : Kp (zeroW4.length = 4) := ⟨rfl⟩
      generalize hL : W4 (getN d) = L at *
      have HL : Kp _ := ⟨hL⟩
      clear HW hL
      go_wp2_with (first
        | (with_reducible refine wpList_loadAll (o := ⟨some 18, _, _, _, _, _⟩) rwWords rfl (.tmp 3) rfl rfl HQ.out HLen.out ?_)
        | (with_reducible refine wpList_storeAll (o := ⟨none, _, _, _, _, _⟩) (vs := numCells L) rwWords rfl (.tmp 2) (.tmp 18) rfl rfl HR.out HZ.out HLen.out (numCells_one _) rfl ?_))
      intro w5 hk5 ho5
      have HK5 : Kp _ := ⟨hk5⟩
      clear hk5
      go_wp2
      exact ret_arr rfl rwWords rfl HK5.out HLen.out rfl ⟨by rw [HL.out], hB.trans (ho5.below (by omega))⟩
    | succ g2 =>
      have hkI : (k : Int) < 4 := by omega
      have hk4 : k < 4 := by omega
      obtain ⟨s, hs⟩ : ∃ s : Nat, s = 24 - 8 * k := ⟨_, rfl⟩
      have hs24 : s ≤ 24 := by omega
      have HWa := word_at d HD.out k hk4
      have HSt := sstart_any k wr hk4
      rw [← hs] at HWa HSt
      have HW8 : Kp _ := ⟨HWa⟩
      have HSC : Kp _ := ⟨HSt⟩
      have HSet : Kp _ := ⟨part4_set (dg (getN d)) (fun _ => 0) k⟩
      generalize dg (getN d) k = x at *
      have hco : wr.cell? ⟨gw, k, none⟩ = some (.int .u64 ((0 : Nat) : Int)) := by rw [HW.out.cell?, part4_at _ _ _ _ hk4 (Nat.le_refl _)]
      have hfo := HW.out.frozen k
      have HBs : Kp (Bs wr wr.heap.size (some ⟨w.heap.size, s, none⟩) 8 (32 - s) ((d.take (s + 8)).drop s)) := ⟨HA.out.bytes HA.out.lt (cut_cells d s 8) (by have := HD.out; simp; omega) (32 - s) (by omega) (by simp only [maxLen]; omega)⟩
      have hsl := dig_slice_lh w.heap.size s hs24 wr
      clear HWa HSt hs
      go_wp2_with fail
      refine HSC.out.mono ?_
      rintro e w5 ⟨rfl, rfl⟩
      go_wp2_with fail
      refine HSC.out.mono ?_
      rintro e w5 ⟨rfl, rfl⟩
      go_wp2_with fail
      refine (get_any _ _ _ _ _ _ HBs.out).mono ?_
      rintro e w6 ⟨rfl, rfl⟩
      rw [Nat.sub_self, List.drop_zero, HW8.out]
      go_wp2
      go_roundg g2
      case rel =>
        refine ⟨k + 1, by omega, by go_num, ⟨?_⟩, ⟨HR.out.other (by show gr ≠ gw; omega) _⟩, ⟨HA.out.other (by show w.heap.size ≠ gw; omega) _⟩, hB.setCell (by show w.heap.size ≤ gw; omega) _⟩
        have h3 := HW.out.set k (.int .u64 (x : Int)); rw [HSet.out] at h3; exact h3
      case measure => omega

end Go.Proofs.Ytjllfaeamjadcaa

namespace Go.Proofs.Ytjllfaeamjadcaa
open Go.RowKit

theorem tail_cells (n k : Nat) (hk : k < 4) : (cells8 (tailL n k)).take (24 - 8 * k) ++ (cells8 (putN (dg n k) 8) ++ (cells8 (tailL n k)).drop (24 - 8 * k + 8)) = cells8 (tailL n (k + 1)) := by
  rw [← tail_next n k hk, cells8_append, cells8_append]
  unfold cells8
  rw [List.map_take, List.map_drop]
set_option maxRecDepth 100000 in
set_option maxHeartbeats 4000000 in
theorem sdigest_any (n : Nat) (w : World) : Calls Try.prog 24 #[.agg (numCells (W4 n)).toArray] w fun e w' => e = .returned (.agg (cells8 (putN n 32)).toArray) ∧ Below w.heap.size w w' := by
  have HLm : Kp ((numCells (W4 n)).length = 4) := ⟨by rw [numCells_length, W4_length]⟩
  go_enter Try.func24, Try.ntmps24
  go_wp2_with (with_reducible refine wpList_box (o := ⟨some 1, _, _, _, _, _⟩) rfl (.tmp 0) rfl rfl ?_)
  intro w1 hk1 hb1 hs1
  have HC1 : Kp _ := ⟨hk1⟩
  clear hk1 hs1
  go_wp2_with (with_reducible refine wpList_alloc (o := ⟨some 2, _, _, _, _, _⟩) tyDig rfl rfl ?_)
  intro w2 hk2 hb2 hs2
  have HR2 : Kp _ := ⟨hk2⟩
  have HC2 : Kp _ := ⟨HC1.out.below hb2 HC1.out.lt⟩
  have hB2 : Below w.heap.size w w2 := hb1.trans (hb2.mono hb1.size)
  have n1 : w.heap.size < w1.heap.size := HC1.out.lt
  clear hk2 hb1 hb2 hs2 HC1
  go_wp2_with (with_reducible refine wpList_alloc (o := ⟨some 3, _, _, _, _, _⟩) tyDig rfl rfl ?_)
  intro w3 hk3 hb3 hs3
  have HD3 : Kp (Blk w3 w2.heap.size 23 (cells8 (tailL n 0))) := ⟨by rw [tail_none]; exact hk3⟩
  have HR3 : Kp _ := ⟨HR2.out.below hb3 HR2.out.lt⟩
  have HC3 : Kp _ := ⟨HC2.out.below hb3 HC2.out.lt⟩
  have hB3 : Below w.heap.size w w3 := hB2.trans (hb3.mono hB2.size)
  have n2 : w1.heap.size < w2.heap.size := HR2.out.lt
  obtain ⟨gr, hgr⟩ : ∃ g, g = w1.heap.size := ⟨_, rfl⟩
  obtain ⟨gd, hgd⟩ : ∃ g, g = w2.heap.size := ⟨_, rfl⟩
  rw [← hgr] at HR3 n1 n2
  rw [← hgd] at HD3 n2
  rw [← hgr, ← hgd]
  clear hk3 hb3 hs3 HR2 HC2 hB2 hgr hgd
  go_wp2_with (with_reducible refine wpList_loadAll (o := ⟨some 6, _, _, _, _, _⟩) rwWords rfl (.tmp 1) rfl rfl HC3.out HLm.out ?_)
  go_wp2
  go_loopg [7] 4 (fun gk vi wr => ∃ k : Nat, k + gk = 4 ∧ vi = .int .i64 k ∧ Kp (Blk wr gd 23 (cells8 (tailL n k))) ∧ Kp (Blk wr gr 23 zero32) ∧ Kp (Blk wr w.heap.size 41 (numCells (W4 n))) ∧ Below w.heap.size w wr)
  case atStart => exact ⟨0, by omega, rfl, HD3, HR3, HC3, hB3⟩
  case round =>
    clear HD3 HR3 HC3 hB3
    obtain ⟨k, hk, rfl, HD, HR, HC, hB⟩ := hrel
    cases gk with
    | zero =>
      obtain rfl : k = 4 := by omega
      have HQ : Kp (Blk wr gd 23 (cells8 (putN n 32))) := ⟨by rw [← tail_all n]; exact HD.out⟩
      have HLen : Kp ((cells8 (putN n 32)).length = 32) := ⟨by rw [cells8_length, putN_length]⟩
      have HZ : Kp (zero32.length = 32) := ⟨rfl⟩
      generalize hL : putN n 32 = L at *
      have HL : Kp _ := ⟨hL⟩
      clear HD hL
      go_wp2_with (first
        | (with_reducible refine wpList_loadAll (o := ⟨some 18, _, _, _, _, _⟩) rwDig rfl (.tmp 3) rfl rfl HQ.out HLen.out ?_)
        | (with_reducible refine wpList_storeAll (o := ⟨none, _, _, _, _, _⟩) (vs := cells8 L) rwDig rfl (.tmp 2) (.tmp 18) rfl rfl HR.out HZ.out HLen.out (cells8_one _) rfl ?_))
      intro w5 hk5 ho5
      have HK5 : Kp _ := ⟨hk5⟩
      clear hk5
      go_wp2
      exact ret_arr rfl rwDig rfl HK5.out HLen.out rfl ⟨by rw [HL.out], hB.trans (ho5.below (by omega))⟩
    | succ g2 =>
      have hkI : (k : Int) < 4 := by omega
      have hk4 : k < 4 := by omega
      obtain ⟨s, hs⟩ : ∃ s : Nat, s = 24 - 8 * k := ⟨_, rfl⟩
      have hs24 : s ≤ 24 := by omega
      have hSt := fun W => sstart_any k W hk4
      have hTN := tail_cells n k hk4
      have hx64 := dg_lt n k
      have he := W4_at n k hk4
      rw [← hs] at hTN
      simp only [← hs] at hSt
      have HSC : Kp _ := ⟨hSt⟩
      have HTN : Kp _ := ⟨hTN⟩
      have hsl := fun W => dig_slice_l gd s hs24 W
      generalize dg n k = x at *
      clear hSt hTN hs
      go_wp2_with (with_reducible refine wpList_index (o := ⟨some 10, _, _, _, _, _⟩) rwWords.ty plain64 rfl (.tmp 6) (.tmp 7) rfl rfl rfl k rfl hk4 he ?_)
      go_wp2_with fail
      obtain ⟨wa, rfl⟩ : ∃ x, x = wr := ⟨wr, rfl⟩
      refine wp_region_any (by kernel_rfl) ?_
      change wpAny _ _ _ _ _ _ _ wa.drew
      replace HC : Kp _ := ⟨HC.out.drew⟩
      replace HR : Kp _ := ⟨HR.out.drew⟩
      replace HD : Kp _ := ⟨HD.out.drew⟩
      replace hB := hB.drew
      generalize wa.drew = wS at *
      refine wpAny_take (i := 0) (oi := ⟨some 11, _, _, _, _, _⟩) (v := ?_) rfl (by kernel_rfl) (by kernel_rfl) (by kernel_rfl) (fun _ _ _ h => h) (Or.inl ⟨by rfl, by intro w; go_simp; try rfl⟩) ?_
      try simp only [Act.put, List.setIfInBounds_toArray, List.set_cons_zero, List.set_cons_succ]
      refine wpAny_take (i := 3) (oi := ⟨some 14, _, _, _, _, _⟩) (v := ?_) rfl (by kernel_rfl) (by kernel_rfl) (by kernel_rfl) (fun _ _ _ h => h) (Or.inl ⟨by rfl, by intro w; go_simp; try rfl⟩) ?_
      try simp only [Act.put, List.setIfInBounds_toArray, List.set_cons_zero, List.set_cons_succ]
      refine wpAny_ready (rs := [1]) (by kernel_rfl) (by simp) ?_
      refine AllReady.cons (o := ⟨some 12, _, _, _, _, _⟩) rfl (fun K hK => ?_) AllReady.nil
      go_simp
      refine (HSC.out wS).mono ?_
      rintro e w61 ⟨rfl, rfl⟩
      refine hK _ _ ?_
      clear hK K
      try simp only [Act.put, List.setIfInBounds_toArray, List.set_cons_zero, List.set_cons_succ]
      refine wpAny_take (i := 2) (oi := ⟨some 13, _, _, _, _, _⟩) (v := _) rfl (by kernel_rfl) (by kernel_rfl) (by kernel_rfl) (fun _ _ _ h => h) (Or.inl ⟨by rfl, by intro w; go_simp; try rfl⟩) ?_
      try simp only [Act.put, List.setIfInBounds_toArray, List.set_cons_zero, List.set_cons_succ]
      refine wpAny_ready (rs := [4]) (by kernel_rfl) (by simp) ?_
      refine AllReady.cons (o := ⟨some 15, _, _, _, _, _⟩) rfl (fun K hK => ?_) AllReady.nil
      go_simp
      refine (put_any x 8 _ hx64).mono ?_
      rintro e w62 ⟨v, rfl, hown, hb'⟩
      obtain ⟨Ap, cp, rfl, hbs⟩ := Bs.of_own hown
      have HP : Kp _ := ⟨hbs⟩
      refine hK _ _ ?_
      clear hK K hown hbs
      try simp only [Act.put, List.setIfInBounds_toArray, List.set_cons_zero, List.set_cons_succ]
      replace HC : Kp _ := ⟨HC.out.below hb' HC.out.lt⟩
      replace HR : Kp _ := ⟨HR.out.below hb' HR.out.lt⟩
      replace HD : Kp _ := ⟨HD.out.below hb' HD.out.lt⟩
      replace hB := hB.trans (hb'.mono hB.size)
      clear hb'
      refine wpAny_ready (rs := [5]) (by kernel_rfl) (by simp) ?_
      refine AllReady.cons (o := ⟨some 16, _, _, _, _, _⟩) rfl (fun K hK => ?_) AllReady.nil
      obtain ⟨ad, hAd⟩ : ∃ ad, Ap = some ad := by
        obtain ⟨b, o, h, _⟩ := HP.out.cells (by decide)
        exact ⟨_, h⟩
      subst hAd
      have hnw := HP.out.news _ rfl
      refine step_copy_splice rfl (.tmp 13) (.tmp 15) _ _ rfl 5 Try.underlying27 (by kernel_rfl) _ _ _ _ _ _ rfl rfl gd s (cells8 (tailL n k)) 23 HD.out.heap (cells8 (putN x 8)) (by rw [cells8_length, putN_length]; show 8 = min 8 (32 - s); omega) (fun _ => ⟨rfl, _, rfl, hnw⟩) (by rw [cells8_length, cells8_length, putN_length, tailL_length _ _ (by omega)]; omega) (cells8_one _) gd w62 (Below.refl _ _) (Nat.le_refl _) ?_
      intro w63 hh hb'
      have HDn : Kp (Blk w63 gd 23 (cells8 (tailL n (k + 1)))) := ⟨⟨by have h3 := hh.out; unfold splice at h3; rw [cells8_length, putN_length, HTN.out] at h3; exact h3⟩⟩
      replace HC : Kp _ := ⟨HC.out.below hb' (by omega)⟩
      replace HR : Kp _ := ⟨HR.out.below hb' (by omega)⟩
      replace hB := hB.trans (hb'.mono (by omega))
      refine hK _ _ ?_
      clear hK K hh hb'
      try simp only [Act.put, List.setIfInBounds_toArray, List.set_cons_zero, List.set_cons_succ]
      refine wpAny_done (by kernel_rfl) ?_ _
      go_wp2
      go_roundg g2
      case rel => exact ⟨k + 1, by omega, by go_num, HDn, HR, HC, hB⟩
      case measure => omega
end Go.Proofs.Ytjllfaeamjadcaa

namespace Go.Proofs.Ytjllfaeamjadcaa
open Go.RowKit

/-- two blocks as they are, and what was there ahead -/
structure Two (w : World) (ga gb : Nat) (t : TypeId) (ca cb : List Value) (W : World) : Prop where
  a : Blk W ga t ca
  b : Blk W gb t cb
  below : Below w.heap.size w W
section
variable {w W W' : World} {ga gb g : Nat} {t : TypeId} {ca cb : List Value}
theorem Two.next (h : Two w ga gb t ca cb W) (hb : Below W.heap.size W W') : Two w ga gb t ca cb W' := ⟨h.a.below hb h.a.lt, h.b.below hb h.b.lt, h.below.trans (hb.mono h.below.size)⟩
theorem Two.drew (h : Two w ga gb t ca cb W) : Two w ga gb t ca cb W.drew := ⟨h.a.drew, h.b.drew, h.below.drew⟩
theorem Two.only (h : Two w ga gb t ca cb W) (ho : Only g W W') (ha : ga < g) (hb : gb < g) (hw : w.heap.size ≤ g) : Two w ga gb t ca cb W' := ⟨h.a.only ho (by omega), h.b.only ho (by omega), h.below.trans (ho.below hw)⟩
end
theorem take_all32 {l : List Value} {n : Nat} (h : l.length = n) : (l.drop 0).take n = l := by rw [List.drop_zero, List.take_of_length_le (by omega)]
theorem fit_all32 {l : List Value} {n : Nat} (h : l.length = n) : 0 + n ≤ l.length := by omega
theorem store_all32 {cs vs : List Value} {n : Nat} (h : cs.length = n) : cs.take 0 ++ vs ++ cs.drop (0 + n) = vs := by rw [List.drop_of_length_le (by omega)]; simp
set_option maxRecDepth 100000 in
set_option maxHeartbeats 4000000 in
theorem sadd_any (a b : List UInt8) (w : World) (ha : a.length = 32) (hb : b.length = 32) : Calls Try.prog 10 #[.agg (cells8 a).toArray, .agg (cells8 b).toArray] w fun e w' => e = .returned (.agg (cells8 (addL a b)).toArray) ∧ Below w.heap.size w w' := by
  have HA32 : Kp _ := ⟨ha⟩
  have HB32 : Kp _ := ⟨hb⟩
  have HLa : Kp ((cells8 a).length = 32) := ⟨by rw [cells8_length]; exact ha⟩
  have HLb : Kp ((cells8 b).length = 32) := ⟨by rw [cells8_length]; exact hb⟩
  have HGa : Kp _ := ⟨getN_lt32 ha⟩
  have HGb : Kp _ := ⟨getN_lt32 hb⟩
  have huD : (Try.prog).underlying 23 = some (.array 32 5) := rwDig.ty
  have hia : ((Try.prog).info? 23).map (·.size) = some (cells8 a).length := by rw [HLa.out]; exact rwDig.size
  have hib : ((Try.prog).info? 23).map (·.size) = some (cells8 b).length := by rw [HLb.out]; exact rwDig.size
  clear ha hb
  obtain ⟨L, hL⟩ : ∃ L, L = addL a b := ⟨_, rfl⟩
  have HDg : Kp (∀ W, Calls Try.prog 24 #[.agg (numCells (W4 (getN a + getN b))).toArray] W fun e w' => e = .returned (.agg (cells8 L).toArray) ∧ Below W.heap.size W w') := ⟨fun W => by rw [hL]; exact sdigest_any _ W⟩
  have HLr : Kp ((cells8 L).length = 32) := ⟨by rw [hL, cells8_length, addL_length]⟩
  rw [← hL]
  clear hL
  go_enter Try.func10, Try.ntmps10
  go_wp2_with (with_reducible refine wpList_box (o := ⟨some 2, _, _, _, _, _⟩) rfl (.tmp 0) rfl rfl ?_)
  intro w1 hk1 hb1 hs1
  have HK1 : Kp _ := ⟨hk1⟩
  clear hk1 hs1
  go_wp2_with (with_reducible refine wpList_box (o := ⟨some 3, _, _, _, _, _⟩) rfl (.tmp 1) rfl rfl ?_)
  intro w2 hk2 hb2 hs2
  have hT2 : Two w w.heap.size w1.heap.size 23 (cells8 a) (cells8 b) w2 := ⟨HK1.out.below hb2 HK1.out.lt, hk2, hb1.trans (hb2.mono hb1.size)⟩
  have n1 : w.heap.size < w1.heap.size := HK1.out.lt
  have n2 : w1.heap.size < w2.heap.size := hk2.lt
  obtain ⟨gb, hgb⟩ : ∃ g, g = w1.heap.size := ⟨_, rfl⟩
  rw [← hgb] at hT2 n1 n2 ⊢
  clear hk2 hb1 hb2 hs2 HK1 hgb
  go_wp2_with (with_reducible refine wpList_alloc (o := ⟨some 4, _, _, _, _, _⟩) tyDig rfl rfl ?_)
  intro w3 hk3 hb3 hs3
  have HR : Kp _ := ⟨hk3⟩
  have hT3 := hT2.next hb3
  obtain ⟨gr, hgr⟩ : ∃ g, g = w2.heap.size := ⟨_, rfl⟩
  have n3 : gr < w3.heap.size := by rw [hgr]; exact HR.out.lt
  rw [← hgr] at HR n2 ⊢
  clear hk3 hb3 hs3 hT2 hgr
  have HRd : Kp _ := ⟨HR.out.drew⟩
  clear HR
  go_wp2_with fail
  refine wp_region_held_drew (S := Two w w.heap.size gb 23 (cells8 a) (cells8 b)) (by kernel_rfl) (hT3.drew) (fun hHeld => ?_)
  generalize w3.drew = wS at *
  have HR := HRd
  clear HRd
  refine wpAnyH_take (i := 0) (oi := ⟨some 5, _, _, _, _, _⟩) (v := _) rfl (by kernel_rfl) (by kernel_rfl) (by kernel_rfl) (fun _ _ _ h => h) (yieldsIf_load_mid (by rfl) _ (.tmp 2) rfl _ _ rfl (cells8 a) _ (fun W hW => hW.a.range (take_all32 HLa.out)) huD rfl hia) (by assumption) ?_
  try simp only [Act.put, List.setIfInBounds_toArray, List.set_cons_zero, List.set_cons_succ]
  refine wpAnyH_take (i := 2) (oi := ⟨some 7, _, _, _, _, _⟩) (v := _) rfl (by kernel_rfl) (by kernel_rfl) (by kernel_rfl) (fun _ _ _ h => h) (yieldsIf_load_mid (by rfl) _ (.tmp 3) rfl _ _ rfl (cells8 b) _ (fun W hW => hW.b.range (take_all32 HLb.out)) huD rfl hib) (by assumption) ?_
  try simp only [Act.put, List.setIfInBounds_toArray, List.set_cons_zero, List.set_cons_succ]
  refine wpAnyH_ready (rs := [1]) (by kernel_rfl) (by simp) ?_
  refine AllReadyH.cons (o := ⟨some 6, _, _, _, _, _⟩) rfl (fun K hK => ?_) AllReadyH.nil
  go_simp
  refine (split_any a _ HA32.out).mono ?_
  rintro e w51 ⟨rfl, hb'⟩
  try replace HR : Kp _ := ⟨HR.out.below hb' HR.out.lt⟩
  try replace HW : Kp _ := ⟨HW.out.below hb' HW.out.lt⟩
  refine hK.out _ _ (hHeld.next hb') (fun hHeld2 => ?_)
  clear hb'
  clear hK K hHeld
  have hHeld := hHeld2
  clear hHeld2
  try simp only [Act.put, List.setIfInBounds_toArray, List.set_cons_zero, List.set_cons_succ]
  refine wpAnyH_ready (rs := [3]) (by kernel_rfl) (by simp) ?_
  refine AllReadyH.cons (o := ⟨some 8, _, _, _, _, _⟩) rfl (fun K hK => ?_) AllReadyH.nil
  go_simp
  refine (split_any b _ HB32.out).mono ?_
  rintro e w52 ⟨rfl, hb'⟩
  try replace HR : Kp _ := ⟨HR.out.below hb' HR.out.lt⟩
  try replace HW : Kp _ := ⟨HW.out.below hb' HW.out.lt⟩
  refine hK.out _ _ (hHeld.next hb') (fun hHeld2 => ?_)
  clear hb'
  clear hK K hHeld
  have hHeld := hHeld2
  clear hHeld2
  try simp only [Act.put, List.setIfInBounds_toArray, List.set_cons_zero, List.set_cons_succ]
  refine wpAnyH_ready (rs := [4]) (by kernel_rfl) (by simp) ?_
  refine AllReadyH.cons (o := ⟨some 9, _, _, _, _, _⟩) rfl (fun K hK => ?_) AllReadyH.nil
  go_simp
  refine (plus_any (getN a) (getN b) _).mono ?_
  rintro e w53 ⟨rfl, hb'⟩
  try replace HR : Kp _ := ⟨HR.out.below hb' HR.out.lt⟩
  try replace HW : Kp _ := ⟨HW.out.below hb' HW.out.lt⟩
  refine hK.out _ _ (hHeld.next hb') (fun hHeld2 => ?_)
  clear hb'
  clear hK K hHeld
  have hHeld := hHeld2
  clear hHeld2
  try simp only [Act.put, List.setIfInBounds_toArray, List.set_cons_zero, List.set_cons_succ]
  refine wpAnyH_ready (rs := [5]) (by kernel_rfl) (by simp) ?_
  refine AllReadyH.cons (o := ⟨some 10, _, _, _, _, _⟩) rfl (fun K hK => ?_) AllReadyH.nil
  go_simp
  refine (HDg.out _).mono ?_
  rintro e w54 ⟨rfl, hb'⟩
  try replace HR : Kp _ := ⟨HR.out.below hb' HR.out.lt⟩
  try replace HW : Kp _ := ⟨HW.out.below hb' HW.out.lt⟩
  refine hK.out _ _ (hHeld.next hb') (fun hHeld2 => ?_)
  clear hb'
  clear hK K hHeld
  have hHeld := hHeld2
  clear hHeld2
  try simp only [Act.put, List.setIfInBounds_toArray, List.set_cons_zero, List.set_cons_succ]
  refine wpAnyH_ready (rs := [6]) (by kernel_rfl) (by simp) ?_
  refine AllReadyH.cons (o := ⟨none, _, _, _, _, _⟩) rfl (fun K hK => ?_) AllReadyH.nil
  refine step_store rwDig rfl (.tmp 4) (.tmp 10) rfl rfl rfl HR.out HLr.out (fit_all32 (l := zero32) rfl) (cells8_one _) ?_
  intro w55 hk ho
  refine hK.out _ _ (hHeld.only ho (by omega) (by omega) (by omega)) (fun hHeld2 => ?_)
  have HKf : Kp (Blk w55 gr 23 (cells8 L)) := ⟨by have h := hk; rw [store_all32 (n := 32) rfl] at h; exact h⟩
  clear hk ho
  clear hK K hHeld
  have hHeld := hHeld2
  clear hHeld2
  try simp only [Act.put]
  refine wpAnyH_done (by kernel_rfl) ?_ _
  go_wp2
  exact ret_arr rfl rwDig rfl HKf.out HLr.out rfl ⟨rfl, hHeld.below⟩
end Go.Proofs.Ytjllfaeamjadcaa

namespace Go.Proofs.Ytjllfaeamjadcaa
open Go.RowKit

section
variable {P : Program} {w : World} {ops : Array Oper} {rest : List Oper} {o : Oper} {a : Act} {K : Act → World → Prop} {Q : Exit → Act → World → Prop} {n : Nat}
theorem op_inRound (r : Nat) (hd : ∀ c, o.op ≠ .defer c) (h : Oper.wp P o a w K Q) : Oper.wpIn (Fence.wide.inRound r) n P o a w K Q := by
  refine ⟨fun f _ => trivial, ?_⟩
  rw [show o.semAt (Fence.wide.inRound r).round a.eval = execOp a.eval o from Oper.semAt_some r _ _ hd]
  unfold Oper.wp at h
  generalize (execOp a.eval o).run P w = res at h ⊢
  cases res with
  | ok v w' =>
    cases v with
    | value v => exact h
    | skip => exact h
    | defer d => exact h
    | enter f args => exact ⟨fun h => (by cases h), CallsIn.inRound r (callsIn_wide.2 h)⟩
    | row s args =>
      exact ⟨fun h => (by cases h), fun c cs _ => by
        obtain ⟨v, w2, hr, hs⟩ := h c cs
        exact ⟨v, w2, hr, stepsIn_wide.2 hs⟩⟩
    | _ => exact h.elim
  | halt e w' =>
    cases e with
    | panic v => exact h
    | _ => exact h.elim
theorem ready_inRound {X : Prop} (r : Nat) (hd : ∀ c, o.op ≠ .defer c) (hg : o.guard = none) (h : if Region.wanted o (yielded ops a.tmps) = true then Oper.wp P o a w K Q else True) :
    if Region.wanted o (yielded ops a.tmps) = true then Oper.wpIn (Fence.wide.inRound r) n P o a w K Q else X := by
  have hw : Region.wanted o (yielded ops a.tmps) = true := by simp [Region.wanted, hg]
  rw [if_pos hw] at h ⊢
  exact op_inRound r hd h
theorem list_inRound (r : Nat) (hd : ∀ c, o.op ≠ .defer c) (hg : o.guard = none)
    (h : ∀ K : Act → World → Prop, (∀ a w, wpListIn (Fence.wide.inRound r) n P ops Q rest a w → K a w) → if Region.wanted o (yielded ops a.tmps) = true then Oper.wp P o a w K Q else True) : wpListIn (Fence.wide.inRound r) n P ops Q (o :: rest) a w :=
  wpListIn_step fun K hK => ready_inRound r hd hg (h K hK)
end
end Go.Proofs.Ytjllfaeamjadcaa
