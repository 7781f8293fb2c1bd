/- 
   
   
   
   
    -/
import Derived.Test.YtcehkafddlfleaaGreatDoorG12
import Derived.Test.YtcehkafddlfleaaGreatDoorG04
import Derived.Test.YtcehkafddlfleaaGreatDoorG08
import Derived.Test.YtcehkafddlfleaaGreatDoorG14
import Derived.Test.YtcehkafddlfleaaGreatDoorG02
import Derived.Test.YtcehkafddlfleaaGreatDoorG05
namespace Go.Proofs.YtcehkafddlfleaaGreatDoor
open Go.RowKit
def StZ : ShSt := ⟨0, 0, 0, 0, 0, 0, 0, 0⟩
def zeroHash : List Value := hashCells StZ (List.replicate 64 0) 0
theorem tyHash : Ty Tryz.prog 320 zeroHash := ⟨by kernel_rfl⟩
noncomputable def hashDesc : TypeDesc := ((Tryz.prog).underlying 320).getD (.array 0 0)
theorem rwHash : Rw Tryz.prog 320 hashDesc 73 := ⟨by kernel_rfl, by kernel_rfl, by kernel_rfl⟩
theorem hash_one (s : ShSt) (buf : List UInt8) (n : Nat) : ∀ v ∈ hashCells s buf n, v.oneCell' = true := by
 intro v hv
 unfold hashCells at hv
 rcases List.mem_append.1 hv with h | h
 ·rcases List.mem_append.1 h with h | h
  ·exact cells32_one _ _ h
  ·exact cells8_one _ _ h
 ·simp at h; subst h; rfl
theorem HashIs.grown {w w' : World} {g k : Nat} {M : List UInt8} (h : HashIs w g M) (hg : w.grownBy w' (some k)) (hne : g ≠ k) : HashIs w' g M := by
 obtain ⟨st, buf, hb, hl, hs, ht⟩ := h.is
 exact ⟨st, buf, hb.grown hg hne, hl, hs, ht⟩
theorem HashIs.lt {w : World} {g : Nat} {M : List UInt8} (h : HashIs w g M) : g < w.heap.size := by
 obtain ⟨st, buf, hb, _⟩ := h.is
 exact hb.lt
theorem HashIs.below {w w' : World} {g B : Nat} {M : List UInt8} (h : HashIs w g M) (hb : Below B w w') (hg : g < B) : HashIs w' g M := by
 obtain ⟨st, buf, hk, hl, hs, ht⟩ := h.is
 exact ⟨st, buf, hk.below hb hg, hl, hs, ht⟩
theorem HG.is {w : World} {g : Nat} {M buf : List UInt8} (h : HG w g M buf) : HashIs w g M := ⟨_, buf, h.blk, h.len, fun _ => rfl, h.buf⟩
theorem hash_zero {w : World} {g : Nat} (h : Blk w g 320 zeroHash) : HashIs w g [] := ⟨StZ, List.replicate 64 0, h, rfl, (fun h => absurd h (by simp)), by simp⟩
set_option maxRecDepth 100000 in
set_option maxHeartbeats 4000000 in
theorem sum_any (g : Nat) (M : List UInt8) (w : World) (hh : HashIs w g M) (hn : M.length ≤ 524288) :
  Calls Tryz.prog 178 #[.pointer (some ⟨g, 0, none⟩)] w fun e w' => e = .returned (.agg (cells8 (shaL M)).toArray) ∧ Below w.heap.size w w' := by
 obtain ⟨st, buf, hb, hl, hs, ht⟩ := hh.is
 have HB : Kp _ := ⟨hb⟩
 have HH : Kp _ := ⟨hh⟩
 have HLen : Kp ((hashCells st buf M.length).length = 73) := ⟨hashCells_length _ _ _ hl⟩
 have HRest : Kp (buf.length = 64 ∧ (0 < M.length → st = foldB M (M.length / 64)) ∧ buf.take (M.length % 64) = M.drop (64 * (M.length / 64))) := ⟨hl, hs, ht⟩
 have HZ : Kp (zeroHash.length = 73) := ⟨rfl⟩
 clear hb hl hs ht hh
 go_enter Tryz.func178, Tryz.ntmps178
 go_wp2_with (with_reducible refine wpList_alloc (o := ⟨some 2, _, _, _, _, _⟩) tyDig rfl rfl ?_)
 intro w1 hk1 hb1 hs1
 have HK1 : Kp _ := ⟨hk1⟩
 have HB1 : Kp _ := ⟨HB.out.below hb1 HB.out.lt⟩
 have hgl := HB.out.lt
 clear hk1 HB
 go_wp2_with (first
  | (with_reducible refine wpList_loadAll (o := ⟨some 9, _, _, _, _, _⟩) rwHash rfl (.tmp 8) rfl rfl HB1.out HLen.out ?_)
  | (with_reducible refine wpList_alloc (o := ⟨some 3, _, _, _, _, _⟩) tyHash rfl rfl ?_))
 intro w2 hk2 hb2 hs2
 have HK2 : Kp _ := ⟨hk2⟩
 clear hk2
 go_wp2_with (with_reducible refine wpList_storeAll (o := ⟨none, _, _, _, _, _⟩) (vs := hashCells st buf M.length) rwHash rfl (.tmp 3) (.tmp 9) rfl rfl HK2.out HZ.out HLen.out (hash_one _ _ _) rfl ?_)
 intro w3 hk3 ho3
 have HO3 : Kp (HashIs w3 (w.heap.size + 1) M) := ⟨⟨st, buf, hk3, HRest.out⟩⟩
 have HH3 : Kp _ := ⟨(HB1.out.below hb2 (by omega)).only ho3 (by omega)⟩
 have hc72 : w3.cell? ⟨g, 72, none⟩ = some (.int .u64 (M.length : Int)) := by rw [HH3.out.cell? 72]; exact hash_size_at _ _ _ HRest.out.1
 have HK3 : Kp _ := ⟨(HK1.out.below hb2 (by omega)).only ho3 (by omega)⟩
 have hB3 : Below w.heap.size w w3 := (hb1.trans (hb2.mono (by omega))).trans (ho3.below (by omega))
 have hs3 := ho3.size
 clear hk3 HB1 HK1 HK2 hb1 hb2 ho3 HRest HZ HLen
 go_wp2_with fail
 refine (ending_any M.length _ (by omega)).mono ?_
 rintro e w4 ⟨v4, rfl, hown4, hb4⟩
 obtain ⟨A4, c4, rfl, hbs4⟩ := BsA.of_own (g := w.heap.size + 1) hown4 (by omega)
 have HE4 : Kp _ := ⟨hbs4⟩
 have HO4 : Kp _ := ⟨HO3.out.below hb4 (by omega)⟩
 have hs4 := hb4.size
 have HK4 : Kp _ := ⟨HK3.out.below hb4 (by omega)⟩
 have hB4 : Below w.heap.size w w4 := hB3.trans (hb4.mono (by omega))
 have HEL : Kp (M.length + (ending M.length).length ≤ 1048576) := ⟨by
  have h1 := padded_length M
  rw [padded, List.length_append] at h1
  have := pad_le M.length
  omega⟩
 clear hown4 hbs4 hc72 HO3 HK3 hB3 hb4
 go_wp2_with fail
 refine (tell_any (w.heap.size + 1) M _ 1 1 [ending M.length] _ (HO4.out.below ((Below.refl _ _).alloc (Nat.le_refl _) _) HO4.out.lt) (LsA.one _ HE4.out HO4.out.lt) (by simpa using HEL.out)).mono ?_
 rintro e w5 ⟨rfl, hg5, hgr5⟩
 have hgr45 : w4.grownBy w5 (some (w.heap.size + 1)) := grown_trans (grown_below ((Below.refl _ _).alloc (Nat.le_refl _) _) _) hgr5
 have HG5 : Kp (∃ buf, HG w5 (w.heap.size + 1) (padded M) buf) := ⟨by simpa [padded] using hg5⟩
 have HK5 : Kp _ := ⟨HK4.out.grown hgr45 (by omega)⟩
 have hB5 : Below w.heap.size w w5 := hB4.trans (below_grown hgr45 (by omega) (by omega))
 have hs5 := hgr45.size
 obtain ⟨buf5, hg5'⟩ := HG5.out
 have HB5 : Kp _ := ⟨hg5'.blk⟩
 have H85 : Kp (0 + 8 ≤ (hashCells (foldB (padded M) ((padded M).length / 64)) buf5 (padded M).length).length) := ⟨by rw [hashCells_length _ _ _ hg5'.len]; omega⟩
 have HSh : Kp (shaL M = digestL (foldB (padded M) ((padded M).length / 64))) := ⟨rfl⟩
 have HVS : Kp ((hashCells (foldB (padded M) ((padded M).length / 64)) buf5 (padded M).length).take 8 = cells32 (foldB (padded M) ((padded M).length / 64)).list) := ⟨hash_state_at (foldB (padded M) ((padded M).length / 64)) buf5 (padded M).length⟩
 have HZ32 : Kp (zero32.length = 32) := ⟨rfl⟩
 clear hg5 hgr5 hgr45 HG5 hg5' HK4 HO4 HE4 hB4 HEL
 generalize foldB (padded M) ((padded M).length / 64) = sx at *
 have HD32 : Kp ((cells8 (digestL sx)).length = 32) := ⟨by rw [cells8_length, digestL_length]⟩
 go_wp2_with (with_reducible refine wpList_load (o := ⟨some 18, _, _, _, _, _⟩) rwSt rfl (.tmp 17) rfl rfl HB5.out H85.out ?_)
 rw [HVS.out]
 go_wp2_with fail
 refine (digest_any sx _).mono ?_
 rintro e w6 ⟨rfl, hb6⟩
 have HK6 : Kp _ := ⟨HK5.out.below hb6 (by omega)⟩
 go_wp2_with (with_reducible refine wpList_storeAll (o := ⟨none, _, _, _, _, _⟩) (vs := cells8 (digestL sx)) rwDig rfl (.tmp 2) (.tmp 19) rfl rfl HK6.out HZ32.out HD32.out (cells8_one _) rfl ?_)
 intro w7 hk7 ho7
 have HK7 : Kp _ := ⟨hk7⟩
 clear hk7
 go_wp2
 refine ret_arr rfl rwDig rfl HK7.out HD32.out rfl ⟨by rw [HSh.out], (hB5.trans (hb6.mono (by omega))).trans (ho7.below (by omega))⟩
set_option maxRecDepth 100000 in
set_option maxHeartbeats 1000000 in
theorem sumf_any (A : Option Addr) (n c : Nat) (ls : List (List UInt8)) (w : World) (hl : Ls w w.heap.size A n c ls) (hn : ls.flatten.length ≤ 524288) :
  Calls Tryz.prog 179 #[.slice A n c] w fun e w' => e = .returned (.agg (cells8 (shaL ls.flatten)).toArray) ∧ Below w.heap.size w w' := by
 have HL : Kp _ := ⟨hl⟩
 clear hl
 go_enter Tryz.func179, Tryz.ntmps179
 go_wp2_with (with_reducible refine wpList_alloc (o := ⟨some 2, _, _, _, _, _⟩) tyDig rfl rfl ?_)
 intro w1 hk1 hb1 hs1
 have HK1 : Kp _ := ⟨hk1⟩
 have HL1 : Kp _ := ⟨HL.out.below hb1⟩
 clear hk1 HL
 go_wp2_with (with_reducible refine wpList_alloc (o := ⟨some 3, _, _, _, _, _⟩) tyHash rfl rfl ?_)
 intro w2 hk2 hb2 hs2
 have HH2 : Kp _ := ⟨hash_zero hk2⟩
 have HL2 : Kp (LsA w2 (w.heap.size + 1) A n c ls) := ⟨LsA.of_ls (HL1.out.below (hb2.mono (by omega))) (by omega) (by omega)⟩
 have HK2 : Kp _ := ⟨HK1.out.below hb2 (by omega)⟩
 have hB2 : Below w.heap.size w w2 := hb1.trans (hb2.mono (by omega))
 clear hk2 HK1 HL1 hb1 hb2
 go_wp2_with fail
 refine (tell_any (w.heap.size + 1) [] A n c ls _ HH2.out HL2.out (by simp only [List.length_nil]; omega)).mono ?_
 rintro e w3 ⟨rfl, hg3, hgr3⟩
 have HH3 : Kp (HashIs w3 (w.heap.size + 1) ls.flatten) := ⟨by
  obtain ⟨buf, hg⟩ := hg3
  simpa using hg.is⟩
 have HK3 : Kp _ := ⟨HK2.out.grown hgr3 (by omega)⟩
 have hB3 : Below w.heap.size w w3 := hB2.trans (below_grown hgr3 (by omega) (by omega))
 have hs3 := hgr3.size
 have HZ32 : Kp (zero32.length = 32) := ⟨rfl⟩
 have HD32 : Kp ((cells8 (shaL ls.flatten)).length = 32) := ⟨by rw [cells8_length]; unfold shaL; rw [digestL_length]⟩
 clear hg3 hgr3 HH2 HL2 HK2 hB2
 go_wp2_with fail
 refine (sum_any (w.heap.size + 1) ls.flatten _ HH3.out hn).mono ?_
 rintro e w4 ⟨rfl, hb4⟩
 have HK4 : Kp _ := ⟨HK3.out.below hb4 (by omega)⟩
 generalize hD : shaL ls.flatten = D at *
 have HD : Kp _ := ⟨hD⟩
 clear hD
 go_wp2_with (with_reducible refine wpList_storeAll (o := ⟨none, _, _, _, _, _⟩) (vs := cells8 D) rwDig rfl (.tmp 2) (.tmp 6) rfl rfl HK4.out HZ32.out HD32.out (cells8_one _) rfl ?_)
 intro w5 hk5 ho5
 have HK5 : Kp _ := ⟨hk5⟩
 clear hk5
 go_wp2
 exact ret_arr rfl rwDig rfl HK5.out HD32.out rfl ⟨by rw [HD.out], (hB3.trans (hb4.mono (by omega))).trans (ho5.below (by omega))⟩
end Go.Proofs.YtcehkafddlfleaaGreatDoor

namespace Go.Proofs.YtcehkafddlfleaaGreatDoor
open Go.RowKit
theorem eqDig : EqB Tryz.prog 173 5 32 := ⟨by kernel_rfl, by kernel_rfl, by kernel_rfl⟩
theorem Ls.next {w0 w1 : World} {B : Nat} {A : Option Addr} {n c : Nat} {ls : List (List UInt8)} (h : Ls w0 B A n c ls) (hb : Below w0.heap.size w0 w1) (hB : B ≤ w0.heap.size) : Ls w1 w1.heap.size A n c ls :=
 (h.below (hb.mono hB)).more (Nat.le_trans hB hb.size)
theorem sumf1 (A : Option Addr) (n c : Nat) (la : List UInt8) (W : World) (t : TypeId) (ha : Bs W W.heap.size A n c la) (hn : la.length ≤ 524288) :
  Calls Tryz.prog 179 #[.slice (some ⟨W.heap.size, 0, none⟩) 1 1] (W.alloc (.cells #[.slice A n c] t)) fun e w' => e = .returned (.agg (cells8 (shaL la)).toArray) ∧ Below W.heap.size W w' := by
 refine (sumf_any _ 1 1 [la] _ ((Ls.one t ha).more (by simp)) (by simpa using hn)).mono ?_
 rintro e w' ⟨rfl, hb⟩
 have e1 : [la].flatten = la := by simp
 rw [e1]
 exact ⟨rfl, ((Below.refl _ _).alloc (Nat.le_refl _) _).trans (hb.mono (by simp))⟩
theorem sumf2 (A : Option Addr) (n c : Nat) (la : List UInt8) (B : Option Addr) (m d : Nat) (lb : List UInt8) (W : World) (t : TypeId) (ha : Bs W W.heap.size A n c la) (hb : Bs W W.heap.size B m d lb) (hn : la.length + lb.length ≤ 524288) :
  Calls Tryz.prog 179 #[.slice (some ⟨W.heap.size, 0, none⟩) 2 2] (W.alloc (.cells #[.slice A n c, .slice B m d] t)) fun e w' => e = .returned (.agg (cells8 (shaL (la ++ lb))).toArray) ∧ Below W.heap.size W w' := by
 refine (sumf_any _ 2 2 [la, lb] _ ((Ls.two t ha hb).more (by simp)) (by simpa using hn)).mono ?_
 rintro e w' ⟨rfl, hb⟩
 have e1 : [la, lb].flatten = la ++ lb := by simp
 rw [e1]
 exact ⟨rfl, ((Below.refl _ _).alloc (Nat.le_refl _) _).trans (hb.mono (by simp))⟩
end Go.Proofs.YtcehkafddlfleaaGreatDoor

namespace Go.Proofs.YtcehkafddlfleaaGreatDoor
open Go.RowKit
theorem padL_one (key : List UInt8) (h : key.length ≤ 64) : (padL key 64).length = 64 := by
 rw [padL_length, show ((64 : Int).toNat) = 64 from rfl]; omega
theorem keyL_le (key : List UInt8) : (keyL key).length ≤ 64 := by
 unfold keyL
 split
 ·rw [shaL_len]; omega
 ·omega
set_option maxRecDepth 100000 in
set_option maxHeartbeats 2000000 in
theorem fill_any (A : Option Addr) (n c : Nat) (key : List UInt8) (w : World) (ha : Bs w w.heap.size A n c key) (hn : n ≤ 524288) :
  Calls Tryz.prog 174 #[.slice A n c] w fun e w' => ∃ A' c', e = .returned (.slice A' 64 c') ∧ Bs w' w'.heap.size A' 64 c' (padL (keyL key) 64) ∧ Below w.heap.size w w' := by
 have HA : Kp _ := ⟨ha⟩
 have HN : Kp _ := ⟨ha.len⟩
 have HLen : Kp _ := ⟨padL_one (keyL key) (keyL_le key)⟩
 clear ha
 go_enter Tryz.func174, Tryz.ntmps174
 by_cases h64 : (64 : Int) < (n : Int)
 ·have HK : Kp (keyL key = shaL key) := ⟨by unfold keyL; rw [if_pos (by rw [HN.out]; omega)]⟩
  go_wp2_with fail
  refine (sumf1 A n c key w _ HA.out (by rw [HN.out]; exact hn)).mono ?_
  rintro e w1 ⟨rfl, hB1⟩
  go_wp2_with (with_reducible refine wpList_alloc (o := ⟨some 3, _, _, _, _, _⟩) tyDig rfl rfl ?_)
  intro w2 hk2 hb2 hs2
  have HK2 : Kp _ := ⟨hk2⟩
  have HZ : Kp (zero32.length = 32) := ⟨rfl⟩
  have HL : Kp ((cells8 (shaL key)).length = 32) := ⟨by rw [cells8_length, shaL_len]⟩
  clear hk2
  go_wp2_with (with_reducible refine wpList_storeAll (o := ⟨none, _, _, _, _, _⟩) (vs := cells8 (shaL key)) rwDig rfl (.tmp 3) (.tmp 9) rfl rfl HK2.out HZ.out HL.out (cells8_one _) rfl ?_)
  intro w3 hk3 ho3
  have hs3 := ho3.size
  have H3 : Kp (Bs w3 w3.heap.size (some ⟨w1.heap.size, 0, none⟩) 32 32 (keyL key)) := ⟨by
   rw [HK.out]
   exact hk3.bytes (by omega) (by rw [List.drop_zero, List.take_of_length_le (by rw [HL.out]; exact Nat.le_refl _)]) (shaL_len _) 32 (Nat.le_refl _) (by decide)⟩
  have hB3 : Below w.heap.size w w3 := (hB1.trans (hb2.mono (hB1.size))).trans (ho3.below hB1.size)
  clear HK2 hk3 ho3 hb2 hB1
  go_wp2_with fail
  refine (pad_any _ 32 32 64 _ _ H3.out (by omega) (by omega)).mono ?_
  rintro e w4 ⟨v4, rfl, hown4, hB4⟩
  rw [HLen.out] at hown4
  obtain ⟨A4, c4, rfl, hbs4⟩ := Bs.of_own hown4
  have H4 : Kp _ := ⟨hbs4⟩
  have hB := hB3.trans (hB4.mono hB3.size)
  clear hown4 hbs4 hB3 hB4
  go_wp2
  go_ret
  exact ⟨_, _, rfl, H4.out, hB⟩
 ·have HK : Kp (keyL key = key) := ⟨by unfold keyL; rw [if_neg (by rw [HN.out]; omega)]⟩
  go_wp2_with fail
  refine (pad_any A n c 64 _ _ HA.out (by omega) (by omega)).mono ?_
  rintro e w4 ⟨v4, rfl, hown4, hB4⟩
  rw [← HK.out, HLen.out] at hown4
  obtain ⟨A4, c4, rfl, hbs4⟩ := Bs.of_own hown4
  have H4 : Kp _ := ⟨hbs4⟩
  clear hown4 hbs4
  go_wp2
  go_ret
  exact ⟨_, _, rfl, H4.out, hB4⟩
end Go.Proofs.YtcehkafddlfleaaGreatDoor

namespace Go.Proofs.YtcehkafddlfleaaGreatDoor
open Go.RowKit
set_option maxHeartbeats 400000 in
theorem new_any (w : World) :
  Calls Tryz.prog 176 #[] w fun e w' => e = .returned (.pointer (some ⟨w.heap.size, 0, none⟩)) ∧ HashIs w' w.heap.size [] ∧ Below w.heap.size w w' := by
 go_enter Tryz.func176, Tryz.ntmps176
 go_wp2_with (with_reducible refine wpList_alloc (o := ⟨some 1, _, _, _, _, _⟩) tyHash rfl rfl ?_)
 intro w1 hk1 hb1 hs1
 have HK1 : Kp _ := ⟨hk1⟩
 clear hk1 hs1
 go_wp2
 go_ret
 exact ⟨rfl, hash_zero HK1.out, hb1⟩
set_option maxHeartbeats 400000 in
theorem write_any (g : Nat) (M : List UInt8) (A : Option Addr) (n c : Nat) (l : List UInt8) (w : World) (hh : HashIs w g M)
  (hl : BsA w g A n c l) (hn : M.length + l.length ≤ 1048576) :
  Calls Tryz.prog 177 #[.pointer (some ⟨g, 0, none⟩), .slice A n c] w fun e w' => e = .returned (.tuple #[]) ∧ HashIs w' g (M ++ l) ∧ w.grownBy w' (some g) := by
 have HH : Kp _ := ⟨hh⟩
 have HL : Kp _ := ⟨hl⟩
 clear hh hl
 go_enter Tryz.func177, Tryz.ntmps177
 go_wp2_with fail
 refine (tell_any g M _ 1 1 [l] _ (HH.out.below ((Below.refl _ _).alloc (Nat.le_refl _) _) HH.out.lt) (LsA.one _ HL.out HH.out.lt) (by simpa using hn)).mono ?_
 rintro e w2 ⟨rfl, hg2, hgr⟩
 have HG2 : Kp _ := ⟨hg2⟩
 have hgr2 : w.grownBy w2 (some g) := grown_trans (grown_below ((Below.refl _ _).alloc (Nat.le_refl _) _) _) hgr
 clear hg2 hgr
 go_wp2
 go_end0
 obtain ⟨buf, hg⟩ := HG2.out
 exact ⟨rfl, by simpa using hg.is, hgr2⟩
end Go.Proofs.YtcehkafddlfleaaGreatDoor

namespace Go.Proofs.YtcehkafddlfleaaGreatDoor
open Go.RowKit
theorem take_flat_next (ls : List (List UInt8)) (k : Nat) (h : k < ls.length) : (ls.take (k + 1)).flatten = (ls.take k).flatten ++ ls[k] := by
 rw [List.take_succ_eq_append_getElem h, List.flatten_append]; simp
theorem take_flat_le' (ls : List (List UInt8)) (k : Nat) : (ls.take k).flatten.length ≤ ls.flatten.length := by
 have h : (ls.take k ++ ls.drop k).flatten.length = ls.flatten.length := by rw [List.take_append_drop]
 rw [List.flatten_append, List.length_append] at h
 omega
set_option maxRecDepth 100000 in
set_option maxHeartbeats 4000000 in
theorem tag_any (A : Option Addr) (n c : Nat) (key : List UInt8) (B : Option Addr) (m d : Nat) (ls : List (List UInt8)) (w : World) (ha : Bs w w.heap.size A n c key) (hb : Ls w w.heap.size B m d ls) (hn : n ≤ 524288) (hm : ls.flatten.length ≤ 524000) :
  Calls Tryz.prog 122 #[.slice A n c, .slice B m d] w fun e w' => e = .returned (.agg (cells8 (hmacL key ls.flatten)).toArray) ∧ Below w.heap.size w w' := by
 have hml := hb.le
 have HA : Kp _ := ⟨ha⟩
 have HB : Kp _ := ⟨hb⟩
 have HM : Kp _ := ⟨hm⟩
 clear ha hb
 go_enter Tryz.func122, Tryz.ntmps122
 go_wp2_with (with_reducible refine wpList_alloc (o := ⟨some 4, _, _, _, _, _⟩) tyDig rfl rfl ?_)
 intro w0 hk0 hB0 hs0
 have HA0 : Kp _ := ⟨HA.out.next hB0 (Nat.le_refl _)⟩
 have HB0 : Kp _ := ⟨HB.out.next hB0 (Nat.le_refl _)⟩
 have HK0 : Kp _ := ⟨hk0⟩
 clear hk0 HA HB
 go_wp2_with fail
 refine (fill_any A n c key w0 HA0.out hn).mono ?_
 rintro e w1 ⟨F, fc, rfl, hF1, hB1⟩
 have HF1 : Kp _ := ⟨hF1⟩
 have HB1 : Kp _ := ⟨HB0.out.next hB1 (Nat.le_refl _)⟩
 have HK1 : Kp _ := ⟨HK0.out.below hB1 HK0.out.lt⟩
 have hs1 := hB1.size
 clear hF1 HA0 HB0 HK0
 go_wp2_with fail
 have HV2 : Kp ((w1.alloc (.cells #[.slice F 64 fc] 29)).cell? ⟨w1.heap.size, 0, none⟩ = some (.slice F 64 fc)) := ⟨by rw [World.cell?_alloc_at _ _ _ _ rfl]; rfl⟩
 have hb12 : Below w1.heap.size w1 (w1.alloc (.cells #[.slice F 64 fc] 29)) := (Below.refl _ _).alloc (Nat.le_refl _) _
 have hs2 : (w1.alloc (.cells #[.slice F 64 fc] 29)).heap.size = w1.heap.size + 1 := by simp
 obtain ⟨w2, hw2⟩ : ∃ x, x = w1.alloc (.cells #[.slice F 64 fc] 29) := ⟨_, rfl⟩
 rw [← hw2] at HV2 hb12 hs2 ⊢
 have hlt2 : w1.heap.size < w2.heap.size := by omega
 clear hs2
 refine (new_any w2).mono ?_
 rintro e w3 ⟨rfl, hh3, hB3⟩
 have hs3 := hB3.size
 have hg3 := hh3.lt
 have HH3 : Kp _ := ⟨hh3⟩
 have hb13 : Below w1.heap.size w1 w3 := hb12.trans (hB3.mono (by omega))
 have HV3 : Kp (w3.cell? ⟨w1.heap.size, 0, none⟩ = some (.slice F 64 fc)) := ⟨(hB3.cell (show w1.heap.size < w2.heap.size by omega)).trans HV2.out⟩
 have HF3 : Kp _ := ⟨HF1.out.below hb13⟩
 clear hw2 hb12 hh3 HV2
 go_wp2_with fail
 refine ((padv_any w1.heap.size F fc (padL (keyL key) 64) 54 w3 HV3.out (by omega) (HF3.out.more (by omega))) : Calls _ _ #[.int .u8 54, _] _ _).mono ?_
 rintro e w4 ⟨v4, rfl, hown4, hB4⟩
 obtain ⟨A4, c4, rfl, hbs4⟩ := BsA.of_own (g := w2.heap.size) hown4 hg3
 have HBs4 : Kp _ := ⟨hbs4⟩
 have HH4 : Kp _ := ⟨HH3.out.below hB4 hg3⟩
 have hs4 := hB4.size
 clear hown4 hbs4 HH3
 go_wp2_with fail
 refine (write_any w2.heap.size [] A4 64 c4 _ w4 HH4.out HBs4.out (by rw [padK_length]; simp)).mono ?_
 rintro e w5 ⟨rfl, hh5, hg5⟩
 rw [List.nil_append, padK_padL] at hh5
 have HH5 : Kp _ := ⟨hh5⟩
 have hs5 := hg5.size
 have hB15 : Below w1.heap.size w1 w5 := (hb13.trans (hB4.mono (by omega))).trans (below_grown hg5 (by omega) (by omega))
 have HV5 : Kp (w5.cell? ⟨w1.heap.size, 0, none⟩ = some (.slice F 64 fc)) := ⟨by
  rw [← HV3.out, ← hB4.cell (show w1.heap.size < w3.heap.size by omega)]
  have hv : w5.heap[w1.heap.size]? = w4.heap[w1.heap.size]? := hg5.block w1.heap.size (by omega) (fun e => by have := Option.some.inj e; omega)
  exact World.cell?_of_block (w := w4) hv⟩
 have HLs5 : Kp (LsA w5 w2.heap.size B m d ls) := ⟨LsA.of_ls (HB1.out.below hB15) (by omega) (by omega)⟩
 have hle5 : w2.heap.size < w5.heap.size := by omega
 clear hh5 hg5 HBs4 HH4 HV3 HF3 hB4 hB3 hb13 hg3
 go_wp2_with fail
 go_loopw [9, 21] (fun _ v wr => ∃ i : Nat, i ≤ m ∧ v = .int .i64 i ∧ Kp (HashIs wr w2.heap.size (padK (keyL key) 54 64 ++ (ls.take i).flatten)) ∧ w5.grownBy wr (some w2.heap.size)) (fun _ v _ => m - (intOf v).toNat)
 case atStart => exact ⟨0, Nat.zero_le _, rfl, by simpa using HH5, grown_refl _ _⟩
 case round =>
  clear HH5
  obtain ⟨i, hi, rfl, HHi, hgi⟩ := hrel
  by_cases hlt : i < m
  ·have hii : (i : Int) < (m : Int) := by omega
   have hli : i < ls.length := by rw [HLs5.out.len]; exact hlt
   obtain ⟨b, o, A', n', c', rfl, _, hcell, hbs⟩ := (HLs5.out.grown hgi).at hlt
   have HP : Kp _ := ⟨hbs⟩
   have HFl : Kp _ := ⟨take_flat_next ls i hli⟩
   have HFL : Kp ((ls.take (i + 1)).flatten.length ≤ 524000) := ⟨by have := take_flat_le' ls (i + 1); have := HM.out; omega⟩
   generalize ls[i] = P at *
   clear hbs
   go_wp2_with fail
   refine (write_any w2.heap.size _ A' n' c' P _ HHi.out HP.out (by have h := HFL.out; rw [HFl.out, List.length_append] at h; rw [List.length_append, padK_length]; omega)).mono ?_
   rintro e w6 ⟨rfl, hh6, hg6⟩
   rw [List.append_assoc, ← HFl.out] at hh6
   have HH6 : Kp _ := ⟨hh6⟩
   have hg56 := grown_trans hgi hg6
   clear hh6 hg6 HHi hgi HP HFl HFL hcell
   go_wp2
   go_roundw
   case rel => exact ⟨i + 1, by omega, by go_num, HH6, hg56⟩
   case measure => simp [intOf]; omega
  ·have HI : Kp (i = m) := ⟨by omega⟩
   have hii : ¬ ((i : Int) < (m : Int)) := by omega
   go_wp2_with fail
   refine (sum_any w2.heap.size _ wr HHi.out (by have h := take_flat_le' ls i; have := HM.out; rw [List.length_append, padK_length]; omega)).mono ?_
   rintro e w6 ⟨rfl, hB6⟩
   have e6 : shaL (padK (keyL key) 54 64 ++ (ls.take i).flatten) = shaL (padK (keyL key) 54 64 ++ ls.flatten) := by
    rw [HI.out, List.take_of_length_le (by rw [HLs5.out.len]; exact Nat.le_refl _)]
   rw [e6]
   have hs6 := hB6.size
   have hsr := hgi.size
   have hBr6 : Below w1.heap.size w1 w6 := (hB15.trans (below_grown hgi (by omega) (by omega))).trans (hB6.mono (by omega))
   have HV6 : Kp (w6.cell? ⟨w1.heap.size, 0, none⟩ = some (.slice F 64 fc)) := ⟨by
    rw [← HV5.out]
    have hv : w6.heap[w1.heap.size]? = w5.heap[w1.heap.size]? := (hB6.block _ (by omega)).trans (hgi.block w1.heap.size (by omega) (fun e => by have := Option.some.inj e; omega))
    exact World.cell?_of_block (w := w5) hv⟩
   have HF6 : Kp (Bs w6 w1.heap.size F 64 fc (padL (keyL key) 64)) := ⟨HF1.out.below hBr6⟩
   have HK6 : Kp _ := ⟨HK1.out.below hBr6 (HK1.out.lt)⟩
   have HDL : Kp ((shaL (padK (keyL key) 54 64 ++ ls.flatten)).length = 32) := ⟨shaL_len _⟩
   have HRes : Kp (hmacL key ls.flatten = shaL (padK (keyL key) 92 64 ++ shaL (padK (keyL key) 54 64 ++ ls.flatten))) := ⟨rfl⟩
   generalize shaL (padK (keyL key) 54 64 ++ ls.flatten) = D at *
   have HD32 : Kp ((cells8 D).length = 32) := ⟨by rw [cells8_length, HDL.out]⟩
   have HZ32 : Kp (zero32.length = 32) := ⟨rfl⟩
   clear e6 HHi hgi hB6 HV5 HLs5 hB15 HF1 HB1 HK1
   go_wp2_with (with_reducible refine wpList_alloc (o := ⟨some 10, _, _, _, _, _⟩) tyDig rfl rfl ?_)
   intro w7 hk7 hb7 hs7
   have HK7 : Kp _ := ⟨hk7⟩
   clear hk7
   go_wp2_with (with_reducible refine wpList_storeAll (o := ⟨none, _, _, _, _, _⟩) (vs := cells8 D) rwDig rfl (.tmp 10) (.tmp 30) rfl rfl HK7.out HZ32.out HD32.out (cells8_one _) rfl ?_)
   intro w8 hk8 ho8
   have hs8 := ho8.size
   have hB68 : Below w6.heap.size w6 w8 := hb7.trans (ho8.below (Nat.le_refl _))
   have hB18 : Below w1.heap.size w1 w8 := hBr6.trans (hB68.mono (by omega))
   have HV8 : Kp (w8.cell? ⟨w1.heap.size, 0, none⟩ = some (.slice F 64 fc)) := ⟨(hB68.cell (show w1.heap.size < w6.heap.size by omega)).trans HV6.out⟩
   have HF8 : Kp (Bs w8 w1.heap.size F 64 fc (padL (keyL key) 64)) := ⟨HF6.out.below' hB68 (by omega)⟩
   have HK8 : Kp _ := ⟨HK6.out.below hB68 (by have := HK6.out.lt; omega)⟩
   have hlt6 : w6.heap.size < w8.heap.size := by omega
   have HBs8 : Kp (Bs w8 w8.heap.size (some ⟨w6.heap.size, 0, none⟩) 32 32 D) := ⟨hk8.bytes hlt6 (by rw [List.drop_zero, List.take_of_length_le (by rw [HD32.out]; exact Nat.le_refl _)]) HDL.out 32 (Nat.le_refl _) (by decide)⟩
   have hlt1 : w1.heap.size < w8.heap.size := by omega
   clear hk8 ho8 HK7 hb7 hs7 hs8 HV6 HF6 HK6 hB68 hBr6
   go_wp2_with fail
   refine wp_region_any (by kernel_rfl) ?_
   change wpAny _ _ _ _ _ _ _ w8.drew
   refine wT 0 31 ?_ rfl ?_
   try simp only [Act.put, sA, sB, sC]
   refine wT 2 33 ?_ rfl ?_
   try simp only [Act.put, sA, sB, sC]
   refine rK [1] ?_
   refine aR 32 rfl fun K hK => ?_
   go_simp
   refine ((padv_any w1.heap.size F fc (padL (keyL key) 64) 92 w8.drew HV8.out hlt1 (HF8.out.drew.more (Nat.le_of_lt hlt1))) : Calls _ _ #[.int .u8 92, _] _ _).mono ?_
   rintro e w9 ⟨v9, rfl, hown9, hB9⟩
   rw [padK_padL] at hown9
   obtain ⟨A9, c9, rfl, hbs9⟩ := Bs.of_own hown9
   have HBs9 : Kp _ := ⟨hbs9⟩
   have hB89 : Below w8.heap.size w8 w9 := (Below.refl _ _).drew.trans hB9
   have hs9 := hB89.size
   have HT9 : Kp _ := ⟨(HBs8.out.below hB89).more hs9⟩
   have HK9 : Kp _ := ⟨HK8.out.below hB89 HK8.out.lt⟩
   clear hown9 hbs9 hB9 HBs8 HV8 HF8
   refine hK _ _ ?_
   clear hK K
   try simp only [Act.put, sA, sB, sC]
   refine rK [3] ?_
   refine aR 34 rfl fun K hK => ?_
   go_simp
   refine hK _ _ ?_
   clear hK K
   try simp only [Act.put, sA, sB, sC]
   refine rK [4] ?_
   refine aR 35 rfl fun K hK => ?_
   go_simp
   refine (sumf2 A9 64 c9 (padK (keyL key) 92 64) (some ⟨w6.heap.size, 0, none⟩) 32 32 D w9 29 HBs9.out HT9.out (by rw [padK_length, HDL.out]; omega)).mono ?_
   rintro e w10 ⟨rfl, hB10⟩
   rw [← HRes.out]
   have HK10 : Kp _ := ⟨HK9.out.below hB10 (by have := HK9.out.lt; omega)⟩
   have hB110 : Below w1.heap.size w1 w10 := (hB18.trans (hB89.mono (by omega))).trans (hB10.mono (by omega))
   have HLen : Kp ((cells8 (hmacL key ls.flatten)).length = 32) := ⟨by rw [cells8_length]; exact shaL_len _⟩
   clear HBs9 HT9 HRes
   generalize hR : hmacL key ls.flatten = R at *
   have HR : Kp _ := ⟨hR⟩
   clear hR
   refine hK _ _ ?_
   clear hK K
   try simp only [Act.put, sA, sB, sC]
   refine rK [5] ?_
   refine AllReady.cons (o := ⟨none, _, _, _, _, _⟩) rfl (fun K hK => ?_) AllReady.nil
   refine step_store rwDig rfl (.tmp 4) (.tmp 35) rfl rfl rfl HK10.out HLen.out (by rw [HZ32.out]; omega) (cells8_one _) ?_
   intro w11 hk11 ho11
   have HK11 : Kp (Blk w11 w.heap.size 173 (cells8 R)) := ⟨by
    have e1 : List.take 0 zero32 ++ cells8 R ++ List.drop (0 + 32) zero32 = cells8 R := by rw [List.drop_of_length_le (by rw [HZ32.out]; omega)]; simp
    rw [e1] at hk11
    exact hk11⟩
   clear hk11
   refine hK _ _ ?_
   clear hK K
   simp only [Act.put]
   refine wpAny_done (by kernel_rfl) ?_ _
   go_wp2
   exact ret_arr rfl rwDig rfl HK11.out HLen.out rfl ⟨by rw [HR.out], ((hB0.trans (hB1.mono (by omega))).trans (hB110.mono (by omega))).trans (ho11.below (Nat.le_refl _))⟩
end Go.Proofs.YtcehkafddlfleaaGreatDoor

namespace Go.Proofs.YtcehkafddlfleaaGreatDoor
open Go.RowKit
theorem hmacL_length (key b : List UInt8) : (hmacL key b).length = 32 := by unfold hmacL; rw [shaL_len]
theorem tag2 (K : Option Addr) (n c : Nat) (key : List UInt8) (A : Option Addr) (m d : Nat) (la : List UInt8) (B : Option Addr) (p q : Nat) (lb : List UInt8) (W : World) (t : TypeId) (hk : Bs W W.heap.size K n c key) (ha : Bs W W.heap.size A m d la) (hb : Bs W W.heap.size B p q lb) (hn : n ≤ 524288) (hm : la.length + lb.length ≤ 524000) :
  Calls Tryz.prog 122 #[.slice K n c, .slice (some ⟨W.heap.size, 0, none⟩) 2 2] (W.alloc (.cells #[.slice A m d, .slice B p q] t)) fun e w' => e = .returned (.agg (cells8 (hmacL key (la ++ lb))).toArray) ∧ Below W.heap.size W w' := by
 refine (tag_any K n c key _ 2 2 [la, lb] _ ((hk.alloc (Nat.le_refl _) _).more (by simp)) ((Ls.two t ha hb).more (by simp)) hn (by simpa using hm)).mono ?_
 rintro e w' ⟨rfl, hb⟩
 have e1 : [la, lb].flatten = la ++ lb := by simp
 rw [e1]
 exact ⟨rfl, ((Below.refl _ _).alloc (Nat.le_refl _) _).trans (hb.mono (by simp))⟩
end Go.Proofs.YtcehkafddlfleaaGreatDoor
