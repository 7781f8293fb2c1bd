/- The contract of package aes's Xor. -/
import Derived.Test.YtleplilcpcgacaaAesStr
import Derived.StillTailTactics
namespace Go.Proofs.Ytleplilcpcgacaa
open Go.RowKit

/-- a row of bytes, the first k of which are done -/
def partU (f s : Nat → UInt8) (n k : Nat) : List UInt8 := (List.range n).map fun j => if j < k then f j else s j
section
variable (f s : Nat → UInt8) (n k : Nat)
theorem partU_length : (partU f s n k).length = n := by simp [partU]
theorem partU_set : (cells8 (partU f s n k)).set k (.int .u8 ((f k).toNat : Int)) = cells8 (partU f s n (k + 1)) := by
  have e : (partU f s n k).set k (f k) = partU f s n (k + 1) := by
    refine List.ext_getElem (by rw [List.length_set, partU_length, partU_length]) fun i h1 h2 => ?_
    rw [List.getElem_set]
    simp only [partU, List.getElem_map, List.getElem_range]
    by_cases hi : k = i
    · subst hi; simp
    · rw [if_neg hi]
      by_cases h3 : i < k
      · rw [if_pos h3, if_pos (by omega)]
      · rw [if_neg h3, if_neg (by omega)]
  rw [← e]
  unfold cells8
  rw [List.map_set]
theorem partU_at (h : k < n) : (cells8 (partU f s n k))[k]? = some (.int .u8 ((s k).toNat : Int)) := by
  simp [cells8, partU, List.getElem?_map, List.getElem?_range h]
theorem partU_done : partU f s n n = (List.range n).map f := by
  unfold partU
  refine List.map_congr_left fun j hj => ?_
  rw [if_pos (List.mem_range.1 hj)]
theorem partU_none : partU f s n 0 = (List.range n).map s := by
  unfold partU
  refine List.map_congr_left fun j _ => ?_
  rw [if_neg (by omega)]
end
set_option maxRecDepth 100000 in
set_option maxHeartbeats 4000000 in
theorem xor_any (gc : Nat) (key at' : List UInt8) (B : Option Addr) (n c : Nat) (b : List UInt8) (w : World) (hc : Ci w gc key) (ha : at'.length = 16) (hb : Bs w w.heap.size B n c b) (hn : n ≤ 1048576) :
    Calls Try.prog 26 #[.pointer (some ⟨gc, 0, none⟩), .agg (cells8 at').toArray, .slice B n c] w fun e w' => ∃ A d, e = .returned (.slice A n d) ∧ Bs w' w'.heap.size A n d (addL (strL (strF key at') n) b n) ∧ Below w.heap.size w w' := by
  have HC : Kp _ := ⟨hc⟩
  have HB : Kp _ := ⟨hb⟩
  have HA : Kp _ := ⟨ha⟩
  have HLa : Kp ((cells8 at').length = 16) := ⟨by rw [cells8_length]; exact ha⟩
  have hnI : (n : Int) ≤ 1048576 := by omega
  have hn63 := hb.le
  clear hc ha hb
  go_enter Try.func26, Try.ntmps26
  go_wp2_with (with_reducible refine wpList_box (o := ⟨some 4, _, _, _, _, _⟩) rfl (.tmp 1) rfl rfl ?_)
  intro w1 hk1 hb1 hs1
  have HK1 : Kp _ := ⟨hk1⟩
  have HC1 : Kp _ := ⟨HC.out.below hb1⟩
  have HB1 : Kp _ := ⟨HB.out.next hb1 (Nat.le_refl _)⟩
  clear hk1 hs1 HC HB
  go_wp2_with (with_reducible refine wpList_loadAll (o := ⟨some 13, _, _, _, _, _⟩) rwNonce rfl (.tmp 4) rfl rfl HK1.out HLa.out ?_)
  go_wp2_with fail
  refine (stream_mid gc key at' n w1 HC1.out HA.out hn).mono ?_
  rintro e w2 ⟨v2, rfl, hown, hb2⟩
  have hB2 : Below w.heap.size w w2 := hb1.trans (hb2.mono hb1.size)
  have HB2 : Kp _ := ⟨HB1.out.below' hb2 (Nat.le_refl _)⟩
  have hs12 := hb2.size
  have hs01 := hb1.size
  have hXl : (strL (strF key at') n).length = n := strL_length _ _
  have HPN : Kp (partU (fun j => (strL (strF key at') n).getD j 0 ^^^ b.getD j 0) (fun j => (strL (strF key at') n).getD j 0) n 0 = strL (strF key at') n) := ⟨by rw [partU_none]; exact range_getD _ _ hXl⟩
  have HPD : Kp (partU (fun j => (strL (strF key at') n).getD j 0 ^^^ b.getD j 0) (fun j => (strL (strF key at') n).getD j 0) n n = addL (strL (strF key at') n) b n) := ⟨by rw [partU_done]; rfl⟩
  obtain ⟨S, hS⟩ : ∃ S, S = strL (strF key at') n := ⟨_, rfl⟩
  have HS : Kp _ := ⟨hS⟩
  rw [← hS] at hown hXl HPN HPD
  clear hS
  clear HK1 HC1 HB1 hb1 hb2
  rcases hown.2 with ⟨rfl, hx0⟩ | ⟨g, cap, cur, rfl, hg, hh, hnc, hcm, hcs, htk⟩
  · have hS0 : S = [] := List.eq_nil_of_length_eq_zero (by rw [hXl]; exact hx0)
    have HS0 : Kp _ := ⟨hS0⟩
    have HN0 : Kp _ := ⟨hx0⟩
    have hnI0 : ¬ ((0 : Int) < (n : Int)) := by omega
    clear hown hS0 hx0 HPN HPD
    go_wp2
    go_loopw [19] (fun vi wr => vi = .int .i64 0 ∧ wr = w2) (fun _ _ => 0)
    case atStart => exact ⟨rfl, rfl⟩
    case round =>
      obtain ⟨rfl, rfl⟩ := hrel
      go_wp2
      go_ret
      refine ⟨none, 0, by rw [HN0.out]; rfl, ?_, hB2⟩
      rw [HN0.out]
      exact Bs.zero _ _
  · obtain ⟨T, hT⟩ : ∃ T, cur.toList = cells8 S ++ T := ⟨cur.toList.drop n, by rw [← htk]; simp⟩
    have HK2 : Kp (Blk w2 g 5 (cells8 (partU (fun j => S.getD j 0 ^^^ b.getD j 0) (fun j => S.getD j 0) n 0) ++ T)) := ⟨⟨by rw [HPN.out, ← hT]; simpa using hh⟩⟩
    have hgw : w1.heap.size ≤ g := hg
    clear hown hh hcs htk hT hg HPN
    go_wp2
    go_loopw [19] (fun vi wr => ∃ j : Nat, j ≤ n ∧ vi = .int .i64 j ∧ Kp (Blk wr g 5 (cells8 (partU (fun j => S.getD j 0 ^^^ b.getD j 0) (fun j => S.getD j 0) n j) ++ T)) ∧ Only g w2 wr) (fun vi _ => n - (intOf vi).toNat)
    case atStart => exact ⟨0, by omega, rfl, HK2, Only.refl _ _⟩
    case round =>
      clear HK2
      obtain ⟨j, hj, rfl, HK, ho⟩ := hrel
      by_cases hlt : j < n
      · have hltI : (j : Int) < (n : Int) := by omega
        have cs : wr.cell? ⟨g, j, none⟩ = some (.int .u8 ((S.getD j 0).toNat : Int)) := by
          rw [HK.out.cell? j, List.getElem?_append_left (by rw [cells8_length, partU_length]; exact hlt)]
          exact partU_at _ _ _ _ hlt
        obtain ⟨bb, ob, rfl, hbb, hcb⟩ := HB2.out.cell hlt
        have cb : wr.cell? ⟨bb, ob + j, none⟩ = some (.int .u8 ((b.getD j 0).toNat : Int)) := by
          have h := World.cell?_of_block (w := w2) (a := ⟨bb, ob + j, none⟩) (ho.block bb (by omega))
          rw [h, hcb]
          have hjb : j < b.length := by rw [HB2.out.len]; exact hlt
          simp [List.getD, List.getElem?_eq_getElem hjb]
        have hfo := HK.out.frozen j
        have HSet : Kp _ := ⟨partU_set (fun j => S.getD j 0 ^^^ b.getD j 0) (fun j => S.getD j 0) n j⟩
        have hv := u8_xor' (S.getD j 0) (b.getD j 0)
        have HLp : Kp (j < (cells8 (partU (fun j => S.getD j 0 ^^^ b.getD j 0) (fun j => S.getD j 0) n j)).length) := ⟨by rw [cells8_length, partU_length]; exact hlt⟩
        have HV : Kp (S.getD j 0 ^^^ b.getD j 0 = S.getD j 0 ^^^ b.getD j 0) := ⟨rfl⟩
        generalize hxy : S.getD j 0 ^^^ b.getD j 0 = xy at hv HSet
        generalize S.getD j 0 = x at cs hv
        generalize b.getD j 0 = y at cb hv
        clear hcb
        go_wp2_with fail
        go_still_tail 9, (by kernel_rfl)
        change wpList _ _ _ _ _ wr.drew
        go_wp2
        refine ⟨⟨j + 1, by omega, by go_num, ⟨?_⟩, (ho.trans (Only.setCell wr ⟨g, j, none⟩ _)).drew⟩, by simp [intOf]; omega⟩
        have h3 := (HK.out.set j (.int .u8 (xy.toNat : Int))).drew
        rw [List.set_append_left _ _ HLp.out, HSet.out] at h3
        exact h3
      · obtain rfl : j = n := by omega
        have hBs : Kp (Bs wr wr.heap.size (some ⟨g, 0, none⟩) j cap (addL S b j)) := ⟨by
          have h := HK.out
          rw [HPD.out] at h
          exact h.bytes h.lt (by rw [List.drop_zero, List.take_append_of_le_length (by rw [cells8_length, addL_length]; omega), List.take_of_length_le (by rw [cells8_length, addL_length]; omega)]) (addL_length _ _ _) cap hnc hcm⟩
        have hBf : Below w.heap.size w wr := hB2.trans (ho.below (by omega))
        clear HK HPD
        go_wp2
        go_ret
        exact ⟨_, _, rfl, by rw [← HS.out]; exact hBs.out, hBf⟩
end Go.Proofs.Ytleplilcpcgacaa
