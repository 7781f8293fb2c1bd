/- The contracts of package sha's two Sums.
   Digests told apart, and the sums of nothing, of one piece, of two.
   The contract of codec's Pad.
   The contract of the closure that mac's Tag makes: a block's bytes, each with a byte.
   The contract of mac's fill: a block that begins with a key, or with its digest.
   The contracts of package sha's New and Write.
   The contract of mac's Tag.
   The contracts of Of, the program's and the document's.
   The contracts of package sum's each and of the function that it hands back. -/
import Derived.Test.YthpfiieaanioeaaG07
import Derived.Test.YthpfiieaanioeaaG05
import Derived.Test.YthpfiieaanioeaaG04
import Derived.Test.YthpfiieaanioeaaG02
import Derived.Test.YthpfiieaanioeaaG03
import Derived.RangeFuncNested
import Derived.RangeFuncBound
import Derived.RangeFuncCalls
import Derived.RangeFuncLeaves
import Derived.Shelf.Abstract
import Derived.Shelf.RegionOpen
import Derived.OwnWalkIn
import Derived.TacticsInMore
import Derived.LoopNIn
import Derived.LoopIn
namespace Go.Proofs.Ythpfiieaanioeaa
open Go.RowKit

def StZ : St := ⟨0, 0, 0, 0, 0, 0, 0, 0⟩
def zeroHash : List Value := hashCells StZ (List.replicate 64 0) 0
theorem tyHash : Ty Try.prog 103 zeroHash := ⟨by kernel_rfl⟩
noncomputable def hashDesc : TypeDesc := ((Try.prog).underlying 103).getD (.array 0 0)
theorem rwHash : Rw Try.prog 103 hashDesc 73 := ⟨by kernel_rfl, by kernel_rfl, by kernel_rfl⟩
theorem hash_one (s : St) (buf : List UInt8) (n : Nat) : ∀ v ∈ hashCells s buf n, v.oneCell' = true := by
  intro v hv
  unfold hashCells at hv
  rcases List.mem_append.1 hv with h | h
  · rcases List.mem_append.1 h with h | h
    · exact cells32_one _ _ h
    · exact cells8_one _ _ h
  · simp at h; subst h; rfl
theorem HashIs.grown {w w' : World} {g k : Nat} {M : List UInt8} (h : HashIs w g M) (hg : w.grownBy w' (some k)) (hne : g ≠ k) : HashIs w' g M := by
  obtain ⟨st, buf, hb, hl, hs, ht⟩ := h.is
  exact ⟨st, buf, hb.grown hg hne, hl, hs, ht⟩
theorem HashIs.lt {w : World} {g : Nat} {M : List UInt8} (h : HashIs w g M) : g < w.heap.size := by
  obtain ⟨st, buf, hb, _⟩ := h.is
  exact hb.lt
theorem HashIs.below {w w' : World} {g B : Nat} {M : List UInt8} (h : HashIs w g M) (hb : Below B w w') (hg : g < B) : HashIs w' g M := by
  obtain ⟨st, buf, hk, hl, hs, ht⟩ := h.is
  exact ⟨st, buf, hk.below hb hg, hl, hs, ht⟩
theorem HG.is {w : World} {g : Nat} {M buf : List UInt8} (h : HG w g M buf) : HashIs w g M := ⟨_, buf, h.blk, h.len, fun _ => rfl, h.buf⟩
theorem hash_zero {w : World} {g : Nat} (h : Blk w g 103 zeroHash) : HashIs w g [] := ⟨StZ, List.replicate 64 0, h, rfl, (fun h => absurd h (by simp)), by simp⟩

set_option maxRecDepth 100000 in
set_option maxHeartbeats 4000000 in
theorem sum_any (g : Nat) (M : List UInt8) (w : World) (hh : HashIs w g M) (hn : M.length ≤ 524288) :
    Calls Try.prog 57 #[.pointer (some ⟨g, 0, none⟩)] w fun e w' => e = .returned (.agg (cells8 (shaL M)).toArray) ∧ Below w.heap.size w w' := by
  obtain ⟨st, buf, hb, hl, hs, ht⟩ := hh.is
  have HB : Kp _ := ⟨hb⟩
  have HH : Kp _ := ⟨hh⟩
  have HLen : Kp ((hashCells st buf M.length).length = 73) := ⟨hashCells_length _ _ _ hl⟩
  have HRest : Kp (buf.length = 64 ∧ (0 < M.length → st = foldB M (M.length / 64)) ∧ buf.take (M.length % 64) = M.drop (64 * (M.length / 64))) := ⟨hl, hs, ht⟩
  have HZ : Kp (zeroHash.length = 73) := ⟨rfl⟩
  clear hb hl hs ht hh
  go_enter Try.func57, Try.ntmps57
  go_wp2_with (with_reducible refine wpList_alloc (o := ⟨some 2, _, _, _, _, _⟩) tyDig rfl rfl ?_)
  intro w1 hk1 hb1 hs1
  have HK1 : Kp _ := ⟨hk1⟩
  have HB1 : Kp _ := ⟨HB.out.below hb1 HB.out.lt⟩
  have hgl := HB.out.lt
  clear hk1 HB
  go_wp2_with (first
    | (with_reducible refine wpList_loadAll (o := ⟨some 9, _, _, _, _, _⟩) rwHash rfl (.tmp 8) rfl rfl HB1.out HLen.out ?_)
    | (with_reducible refine wpList_alloc (o := ⟨some 3, _, _, _, _, _⟩) tyHash rfl rfl ?_))
  intro w2 hk2 hb2 hs2
  have HK2 : Kp _ := ⟨hk2⟩
  clear hk2
  go_wp2_with (with_reducible refine wpList_storeAll (o := ⟨none, _, _, _, _, _⟩) (vs := hashCells st buf M.length) rwHash rfl (.tmp 3) (.tmp 9) rfl rfl HK2.out HZ.out HLen.out (hash_one _ _ _) rfl ?_)
  intro w3 hk3 ho3
  have HO3 : Kp (HashIs w3 (w.heap.size + 1) M) := ⟨⟨st, buf, hk3, HRest.out⟩⟩
  have HH3 : Kp _ := ⟨(HB1.out.below hb2 (by omega)).only ho3 (by omega)⟩
  have hc72 : w3.cell? ⟨g, 72, none⟩ = some (.int .u64 (M.length : Int)) := by rw [HH3.out.cell? 72]; exact hash_size_at _ _ _ HRest.out.1
  have HK3 : Kp _ := ⟨(HK1.out.below hb2 (by omega)).only ho3 (by omega)⟩
  have hB3 : Below w.heap.size w w3 := (hb1.trans (hb2.mono (by omega))).trans (ho3.below (by omega))
  have hs3 := ho3.size
  clear hk3 HB1 HK1 HK2 hb1 hb2 ho3 HRest HZ HLen
  go_wp2_with fail
  refine (ending_any M.length _ (by omega)).mono ?_
  rintro e w4 ⟨v4, rfl, hown4, hb4⟩
  obtain ⟨A4, c4, rfl, hbs4⟩ := BsA.of_own (g := w.heap.size + 1) hown4 (by omega)
  have HE4 : Kp _ := ⟨hbs4⟩
  have HO4 : Kp _ := ⟨HO3.out.below hb4 (by omega)⟩
  have hs4 := hb4.size
  have HK4 : Kp _ := ⟨HK3.out.below hb4 (by omega)⟩
  have hB4 : Below w.heap.size w w4 := hB3.trans (hb4.mono (by omega))
  have HEL : Kp (M.length + (ending M.length).length ≤ 1048576) := ⟨by
    have h1 := padded_length M
    rw [padded, List.length_append] at h1
    have := pad_le M.length
    omega⟩
  clear hown4 hbs4 hc72 HO3 HK3 hB3 hb4
  go_wp2_with fail
  refine (tell_any (w.heap.size + 1) M _ 1 1 [ending M.length] _ (HO4.out.below ((Below.refl _ _).alloc (Nat.le_refl _) _) HO4.out.lt) (LsA.one _ HE4.out HO4.out.lt) (by simpa using HEL.out)).mono ?_
  rintro e w5 ⟨rfl, hg5, hgr5⟩
  have hgr45 : w4.grownBy w5 (some (w.heap.size + 1)) := grown_trans (grown_below ((Below.refl _ _).alloc (Nat.le_refl _) _) _) hgr5
  have HG5 : Kp (∃ buf, HG w5 (w.heap.size + 1) (padded M) buf) := ⟨by simpa [padded] using hg5⟩
  have HK5 : Kp _ := ⟨HK4.out.grown hgr45 (by omega)⟩
  have hB5 : Below w.heap.size w w5 := hB4.trans (below_grown hgr45 (by omega) (by omega))
  have hs5 := hgr45.size
  obtain ⟨buf5, hg5'⟩ := HG5.out
  have HB5 : Kp _ := ⟨hg5'.blk⟩
  have H85 : Kp (0 + 8 ≤ (hashCells (foldB (padded M) ((padded M).length / 64)) buf5 (padded M).length).length) := ⟨by rw [hashCells_length _ _ _ hg5'.len]; omega⟩
  have HSh : Kp (shaL M = digestL (foldB (padded M) ((padded M).length / 64))) := ⟨rfl⟩
  have HVS : Kp ((hashCells (foldB (padded M) ((padded M).length / 64)) buf5 (padded M).length).take 8 = cells32 (foldB (padded M) ((padded M).length / 64)).list) := ⟨hash_state_at (foldB (padded M) ((padded M).length / 64)) buf5 (padded M).length⟩
  have HZ32 : Kp (zero32.length = 32) := ⟨rfl⟩
  clear hg5 hgr5 hgr45 HG5 hg5' HK4 HO4 HE4 hB4 HEL
  generalize foldB (padded M) ((padded M).length / 64) = sx at *
  have HD32 : Kp ((cells8 (digestL sx)).length = 32) := ⟨by rw [cells8_length, digestL_length]⟩
  go_wp2_with (with_reducible refine wpList_load (o := ⟨some 18, _, _, _, _, _⟩) rwSt rfl (.tmp 17) rfl rfl HB5.out H85.out ?_)
  rw [HVS.out]
  go_wp2_with fail
  refine (digest_any sx _).mono ?_
  rintro e w6 ⟨rfl, hb6⟩
  have HK6 : Kp _ := ⟨HK5.out.below hb6 (by omega)⟩
  go_wp2_with (with_reducible refine wpList_storeAll (o := ⟨none, _, _, _, _, _⟩) (vs := cells8 (digestL sx)) rwDig rfl (.tmp 2) (.tmp 19) rfl rfl HK6.out HZ32.out HD32.out (cells8_one _) rfl ?_)
  intro w7 hk7 ho7
  have HK7 : Kp _ := ⟨hk7⟩
  clear hk7
  go_wp2
  refine ret_arr rfl rwDig rfl HK7.out HD32.out rfl ⟨by rw [HSh.out], (hB5.trans (hb6.mono (by omega))).trans (ho7.below (by omega))⟩

set_option maxRecDepth 100000 in
set_option maxHeartbeats 1000000 in
theorem sumf_any (A : Option Addr) (n c : Nat) (ls : List (List UInt8)) (w : World) (hl : Ls w w.heap.size A n c ls) (hn : ls.flatten.length ≤ 524288) :
    Calls Try.prog 58 #[.slice A n c] w fun e w' => e = .returned (.agg (cells8 (shaL ls.flatten)).toArray) ∧ Below w.heap.size w w' := by
  have HL : Kp _ := ⟨hl⟩
  clear hl
  go_enter Try.func58, Try.ntmps58
  go_wp2_with (with_reducible refine wpList_alloc (o := ⟨some 2, _, _, _, _, _⟩) tyDig rfl rfl ?_)
  intro w1 hk1 hb1 hs1
  have HK1 : Kp _ := ⟨hk1⟩
  have HL1 : Kp _ := ⟨HL.out.below hb1⟩
  clear hk1 HL
  go_wp2_with (with_reducible refine wpList_alloc (o := ⟨some 3, _, _, _, _, _⟩) tyHash rfl rfl ?_)
  intro w2 hk2 hb2 hs2
  have HH2 : Kp _ := ⟨hash_zero hk2⟩
  have HL2 : Kp (LsA w2 (w.heap.size + 1) A n c ls) := ⟨LsA.of_ls (HL1.out.below (hb2.mono (by omega))) (by omega) (by omega)⟩
  have HK2 : Kp _ := ⟨HK1.out.below hb2 (by omega)⟩
  have hB2 : Below w.heap.size w w2 := hb1.trans (hb2.mono (by omega))
  clear hk2 HK1 HL1 hb1 hb2
  go_wp2_with fail
  refine (tell_any (w.heap.size + 1) [] A n c ls _ HH2.out HL2.out (by simp only [List.length_nil]; omega)).mono ?_
  rintro e w3 ⟨rfl, hg3, hgr3⟩
  have HH3 : Kp (HashIs w3 (w.heap.size + 1) ls.flatten) := ⟨by
    obtain ⟨buf, hg⟩ := hg3
    simpa using hg.is⟩
  have HK3 : Kp _ := ⟨HK2.out.grown hgr3 (by omega)⟩
  have hB3 : Below w.heap.size w w3 := hB2.trans (below_grown hgr3 (by omega) (by omega))
  have hs3 := hgr3.size
  have HZ32 : Kp (zero32.length = 32) := ⟨rfl⟩
  have HD32 : Kp ((cells8 (shaL ls.flatten)).length = 32) := ⟨by rw [cells8_length]; unfold shaL; rw [digestL_length]⟩
  clear hg3 hgr3 HH2 HL2 HK2 hB2
  go_wp2_with fail
  refine (sum_any (w.heap.size + 1) ls.flatten _ HH3.out hn).mono ?_
  rintro e w4 ⟨rfl, hb4⟩
  have HK4 : Kp _ := ⟨HK3.out.below hb4 (by omega)⟩
  generalize hD : shaL ls.flatten = D at *
  have HD : Kp _ := ⟨hD⟩
  clear hD
  go_wp2_with (with_reducible refine wpList_storeAll (o := ⟨none, _, _, _, _, _⟩) (vs := cells8 D) rwDig rfl (.tmp 2) (.tmp 6) rfl rfl HK4.out HZ32.out HD32.out (cells8_one _) rfl ?_)
  intro w5 hk5 ho5
  have HK5 : Kp _ := ⟨hk5⟩
  clear hk5
  go_wp2
  exact ret_arr rfl rwDig rfl HK5.out HD32.out rfl ⟨by rw [HD.out], (hB3.trans (hb4.mono (by omega))).trans (ho5.below (by omega))⟩

/-- of no Hash: noughts -/
theorem sum_nil (w : World) :
    Calls Try.prog 57 #[.pointer none] w fun e w' => e = .returned (.agg (cells8 (List.replicate 32 0)).toArray) ∧ Below w.heap.size w w' := by
  go_enter Try.func57, Try.ntmps57
  go_wp2_with (with_reducible refine wpList_alloc (o := ⟨some 2, _, _, _, _, _⟩) tyDig rfl rfl ?_)
  intro w1 hk1 hb1 hs1
  have HK1 : Kp _ := ⟨hk1⟩
  have HZ32 : Kp (zero32.length = 32) := ⟨rfl⟩
  clear hk1
  go_wp2_with (with_reducible refine wpList_storeAll (o := ⟨none, _, _, _, _, _⟩) (vs := zero32) rwDig rfl (.tmp 2) (.tmp 6) rfl rfl HK1.out HZ32.out HZ32.out ?_ ?_ ?_)
  · exact cells8_one _
  · rfl
  intro w2 hk2 ho2
  have HK2 : Kp _ := ⟨hk2⟩
  clear hk2
  go_wp2
  exact ret_arr rfl rwDig rfl HK2.out HZ32.out rfl ⟨rfl, hb1.trans (ho2.below (Nat.le_refl _))⟩
end Go.Proofs.Ythpfiieaanioeaa

namespace Go.Proofs.Ythpfiieaanioeaa
open Go.RowKit

theorem eqDig : EqB Try.prog 43 5 32 := ⟨by kernel_rfl, by kernel_rfl, by kernel_rfl⟩
theorem shaL_length (l : List UInt8) : (shaL l).length = 32 := by unfold shaL; rw [digestL_length]
/-- a digest is the same as itself -/
theorem eql_self (D : List UInt8) (hD : D.length = 32) (W : World) : (Op.equalIn 10000 43 (.agg (cells8 D).toArray) (.agg (cells8 D).toArray)).run Try.prog W = .ok true W :=
  (run_equalIn_bytes eqDig W D D hD hD).trans (by rw [beq_self_eq_true])
theorem Ls.next {w0 w1 : World} {B : Nat} {A : Option Addr} {n c : Nat} {ls : List (List UInt8)} (h : Ls w0 B A n c ls) (hb : Below w0.heap.size w0 w1) (hB : B ≤ w0.heap.size) : Ls w1 w1.heap.size A n c ls :=
  (h.below (hb.mono hB)).more (Nat.le_trans hB hb.size)

theorem sumf0 (W : World) :
    Calls Try.prog 58 #[.slice none 0 0] W fun e w' => e = .returned (.agg (cells8 (shaL [])).toArray) ∧ Below W.heap.size W w' :=
  sumf_any none 0 0 [] W (Ls.zero W _) (by simp)
theorem sumf1 (A : Option Addr) (n c : Nat) (la : List UInt8) (W : World) (t : TypeId) (ha : Bs W W.heap.size A n c la) (hn : la.length ≤ 524288) :
    Calls Try.prog 58 #[.slice (some ⟨W.heap.size, 0, none⟩) 1 1] (W.alloc (.cells #[.slice A n c] t)) fun e w' => e = .returned (.agg (cells8 (shaL la)).toArray) ∧ Below W.heap.size W w' := by
  refine (sumf_any _ 1 1 [la] _ ((Ls.one t ha).more (by simp)) (by simpa using hn)).mono ?_
  rintro e w' ⟨rfl, hb⟩
  have e1 : [la].flatten = la := by simp
  rw [e1]
  exact ⟨rfl, ((Below.refl _ _).alloc (Nat.le_refl _) _).trans (hb.mono (by simp))⟩
theorem Ls.one' {W : World} {A : Option Addr} {n c : Nat} {l : List UInt8} (t : TypeId) (h : Bs (W.alloc (.cells #[.slice A n c] t)) (W.alloc (.cells #[.slice A n c] t)).heap.size A n c l) : Ls (W.alloc (.cells #[.slice A n c] t)) (W.alloc (.cells #[.slice A n c] t)).heap.size (some ⟨W.heap.size, 0, none⟩) 1 1 [l] := by
  refine ⟨rfl, Nat.le_refl _, by simp [maxLen], (fun h => by cases h), fun _ => ⟨W.heap.size, 0, rfl, by simp, fun j hj => ?_⟩⟩
  obtain rfl : j = 0 := by simp at hj; omega
  refine ⟨A, n, c, ?_, h⟩
  rw [World.cell?_alloc_at _ _ _ _ rfl]; rfl
theorem sumf1' (A : Option Addr) (n c : Nat) (la : List UInt8) (W : World) (t : TypeId) (ha : Bs (W.alloc (.cells #[.slice A n c] t)) (W.alloc (.cells #[.slice A n c] t)).heap.size A n c la) (hn : la.length ≤ 524288) :
    Calls Try.prog 58 #[.slice (some ⟨W.heap.size, 0, none⟩) 1 1] (W.alloc (.cells #[.slice A n c] t)) fun e w' => e = .returned (.agg (cells8 (shaL la)).toArray) ∧ Below (W.alloc (.cells #[.slice A n c] t)).heap.size (W.alloc (.cells #[.slice A n c] t)) w' := by
  have h := sumf_any _ 1 1 [la] _ (Ls.one' t ha) (by simpa using hn)
  have e1 : [la].flatten = la := by simp
  rw [e1] at h
  exact h
theorem sumf2 (A : Option Addr) (n c : Nat) (la : List UInt8) (B : Option Addr) (m d : Nat) (lb : List UInt8) (W : World) (t : TypeId) (ha : Bs W W.heap.size A n c la) (hb : Bs W W.heap.size B m d lb) (hn : la.length + lb.length ≤ 524288) :
    Calls Try.prog 58 #[.slice (some ⟨W.heap.size, 0, none⟩) 2 2] (W.alloc (.cells #[.slice A n c, .slice B m d] t)) fun e w' => e = .returned (.agg (cells8 (shaL (la ++ lb))).toArray) ∧ Below W.heap.size W w' := by
  refine (sumf_any _ 2 2 [la, lb] _ ((Ls.two t ha hb).more (by simp)) (by simpa using hn)).mono ?_
  rintro e w' ⟨rfl, hb⟩
  have e1 : [la, lb].flatten = la ++ lb := by simp
  rw [e1]
  exact ⟨rfl, ((Below.refl _ _).alloc (Nat.le_refl _) _).trans (hb.mono (by simp))⟩
end Go.Proofs.Ythpfiieaanioeaa

namespace Go.Proofs.Ythpfiieaanioeaa
open Go.RowKit

def padL (xs : List UInt8) (wide : Int) : List UInt8 := xs ++ List.replicate (wide.toNat - xs.length) 0
theorem padL_length (xs : List UInt8) (wide : Int) : (padL xs wide).length = max xs.length wide.toNat := by simp [padL]; omega

set_option maxHeartbeats 400000 in
theorem pad_any (A : Option Addr) (n c : Nat) (wide : Int) (xs : List UInt8) (w : World) (ha : Bs w w.heap.size A n c xs) (hn : n ≤ 4294967296) (hw : wide ≤ 4294967296) :
    Calls Try.prog 40 #[.slice A n c, .int .i64 wide] w fun e w' => ∃ v, e = .returned v ∧ w'.ownsRow w.heap.size 5 1 v (padL xs wide).length (cells8 (padL xs wide)) ∧ Below w.heap.size w w' := by
  obtain ⟨N, hN⟩ : ∃ N : Nat, N = max n wide.toNat := ⟨_, rfl⟩
  have HNN := Lib.hid hN
  have HL := Lib.hid ha.len
  have hN1 : N ≤ 4294967296 := by omega
  clear hN
  go_enter Try.func40, Try.ntmps40
  rcases (by omega : (n : Int) < wide ∨ wide ≤ (n : Int)) with h | h
  all_goals
    go_wp2_with (with_reducible refine wpList_mk (o := ⟨some 10, _, _, _, _, _⟩) el8 rfl _ _ rfl w.heap.size _ _ _ _ N rfl rfl (by have := HNN.out; omega) (by have := HNN.out; omega) (by omega) (by simp only [maxLen]; omega) (Nat.le_refl _) ?_)
    intro w1 hown hg
    have hb1 : Below w.heap.size w w1 := (Below.refl _ _).grown hg (Nat.le_refl _) (by simp)
    have H1 := Lib.hid hown
    have ha1 := ha.below hb1
    clear hg hown
    go_wp2_with (with_reducible refine wpList_copyBs (o := ⟨some 13, _, _, _, _, _⟩) el8 rfl _ _ rfl w.heap.size _ _ _ rfl H1.out rfl ha1 ?_)
    intro w2 H2 hb2 _
    have H3 : Hid (w2.ownsRow w.heap.size 5 1 (.slice (some ⟨w.heap.size, 0, none⟩) N N) (padL xs wide).length (cells8 (padL xs wide))) := by
      have h2 := H2.out
      have e1 : (padL xs wide).length = N := by rw [padL_length, HL.out, HNN.out]
      have e2 : cells8 (xs.take N) ++ List.replicate (N - n) (Value.int .u8 0) = cells8 (padL xs wide) := by
        rw [List.take_of_length_le (by rw [HL.out, HNN.out]; omega), padL, cells8_append, HL.out]
        simp [cells8]
        have := HNN.out
        omega
      rw [e2] at h2
      rw [e1]
      exact h2
    clear H1 H2
    go_wp2
    go_ret
    exact ⟨_, rfl, H3.out, hb1.trans hb2⟩

end Go.Proofs.Ythpfiieaanioeaa

namespace Go.Proofs.Ythpfiieaanioeaa
open Go.RowKit

theorem padK_row (fl : List UInt8) (c : UInt8) (k : Nat) (hk : k < 64) :
    (cells8 (padK fl c k ++ List.replicate (64 - k) 0)).set k (.int .u8 ((fl.getD k 0 ^^^ c).toNat : Int)) = cells8 (padK fl c (k + 1) ++ List.replicate (64 - (k + 1)) 0) := by
  have h1 : (padK fl c k).length = k := padK_length _ _ _
  rw [padK_succ, List.append_assoc, cells8_append, cells8_append, List.set_append_right _ _ (by rw [cells8_length]; omega), cells8_length, h1, Nat.sub_self]
  rw [show 64 - k = (64 - (k + 1)) + 1 by omega, List.replicate_succ]
  rfl
/-- the bytes that pad lays behind a key make no difference to it -/
theorem padK_padL (key : List UInt8) (c : UInt8) (n : Nat) : padK (padL key 64) c n = padK key c n := by
  unfold padK
  refine List.map_congr_left fun i _ => ?_
  congr 1
  unfold padL
  simp only [List.getD_eq_getElem?_getD]
  by_cases h : i < key.length
  · rw [List.getElem?_append_left h]
  · rw [List.getElem?_append_right (by omega), List.getElem?_eq_none (show key.length ≤ i by omega), List.getElem?_replicate]
    split <;> rfl

section
attribute [local go_sem] u8_xor
set_option maxHeartbeats 1000000 in
theorem padv_any (g : Nat) (F : Option Addr) (d : Nat) (fl : List UInt8) (c : UInt8) (w : World) (hc : w.cell? ⟨g, 0, none⟩ = some (.slice F 64 d)) (hg : g < w.heap.size) (ha : Bs w w.heap.size F 64 d fl) :
    Calls Try.prog 54 #[.int .u8 c.toNat, .pointer (some ⟨g, 0, none⟩)] w fun e w' => ∃ v, e = .returned v ∧ w'.ownsRow w.heap.size 5 1 v 64 (cells8 (padK fl c 64)) ∧ Below w.heap.size w w' := by
  have HA : Kp _ := ⟨ha⟩
  have HN : Kp _ := ⟨ha.len⟩
  have HC : Kp _ := ⟨hc⟩
  clear ha hc
  go_enter Try.func54, Try.ntmps54
  go_wp2_with (with_reducible refine wpList_mk (o := ⟨some 6, _, _, _, _, _⟩) el8 rfl _ _ rfl w.heap.size _ _ _ _ 64 rfl rfl (by omega) (by omega) (by omega) (by simp only [maxLen]; omega) (Nat.le_refl _) ?_)
  intro w1 hown hg1
  have hb1 : Below w.heap.size w w1 := (Below.refl _ _).grown hg1 (Nat.le_refl _) (by simp)
  have H1 := Lib.hid hown
  clear hg1 hown
  go_wp2
  go_loopw [9] (fun i wr => ∃ k : Nat, k ≤ 64 ∧ i = .int .i64 k ∧ Hid (wr.ownsRow w.heap.size 5 1 (.slice (some ⟨w.heap.size, 0, none⟩) 64 64) 64 (cells8 (padK fl c k ++ List.replicate (64 - k) 0))) ∧ Below w.heap.size w wr) (fun i _ => 64 - (intOf i).toNat)
  case atStart => exact ⟨0, Nat.zero_le _, rfl, by simpa [cells8, padK] using H1, hb1⟩
  case round =>
    obtain ⟨k, hk, rfl, H, hb⟩ := hrel
    by_cases hlt : k < 64
    · have hkl : k < fl.length := by rw [HN.out]; exact hlt
      have hcv : wr.cell? ⟨g, 0, none⟩ = some (.slice F 64 d) := (hb.cell hg).trans HC.out
      obtain ⟨b, o, rfl, _, hcx⟩ := (HA.out.below hb).cell hlt
      have HX : Kp (fl.getD k 0 = fl[k]) := ⟨by simp [List.getD, List.getElem?_eq_getElem hkl]⟩
      have HR := Lib.hid (padK_row fl c k hlt)
      rw [← HX.out] at hcx
      generalize fl.getD k 0 = x at *
      have hcz : (wr.cell? ⟨w.heap.size, k, none⟩).isSome = true := by
        rw [H.out.cellAt k (by omega)]
        simp [cells8, padK]; omega
      have hf := H.out.frozenAt k
      obtain ⟨z, hz⟩ := Option.isSome_iff_exists.1 hcz
      clear hcz
      go_wp2
      go_roundw
      case rel =>
        have hst := H.out.stored k (.int .u8 ((x ^^^ c).toNat : Int))
        refine ⟨k + 1, by omega, by go_num, ?_, hb.setCell (Nat.le_refl _) _⟩
        show World.ownsRow _ _ _ _ _ _ _
        rw [← HR.out]
        exact hst.1
      case measure => simp [intOf]; omega
    · obtain rfl : k = 64 := by omega
      have H2 := H.out
      rw [Nat.sub_self] at H2
      simp only [List.replicate_zero, List.append_nil] at H2
      have H3 := Lib.hid H2
      clear H2
      go_wp2
      go_ret
      exact ⟨_, rfl, H3.out, hb⟩
end
end Go.Proofs.Ythpfiieaanioeaa

namespace Go.Proofs.Ythpfiieaanioeaa
open Go.RowKit

theorem padL_one (key : List UInt8) (h : key.length ≤ 64) : (padL key 64).length = 64 := by
  rw [padL_length, show ((64 : Int).toNat) = 64 from rfl]; omega
theorem keyL_le (key : List UInt8) : (keyL key).length ≤ 64 := by
  unfold keyL
  split
  · rw [shaL_len]; omega
  · omega

set_option maxRecDepth 100000 in
set_option maxHeartbeats 2000000 in
theorem fill_any (A : Option Addr) (n c : Nat) (key : List UInt8) (w : World) (ha : Bs w w.heap.size A n c key) (hn : n ≤ 524288) :
    Calls Try.prog 53 #[.slice A n c] w fun e w' => ∃ A' c', e = .returned (.slice A' 64 c') ∧ Bs w' w'.heap.size A' 64 c' (padL (keyL key) 64) ∧ Below w.heap.size w w' := by
  have HA : Kp _ := ⟨ha⟩
  have HN : Kp _ := ⟨ha.len⟩
  have HLen : Kp _ := ⟨padL_one (keyL key) (keyL_le key)⟩
  clear ha
  go_enter Try.func53, Try.ntmps53
  by_cases h64 : (64 : Int) < (n : Int)
  · have HK : Kp (keyL key = shaL key) := ⟨by unfold keyL; rw [if_pos (by rw [HN.out]; omega)]⟩
    go_wp2_with fail
    refine (sumf1 A n c key w _ HA.out (by rw [HN.out]; exact hn)).mono ?_
    rintro e w1 ⟨rfl, hB1⟩
    go_wp2_with (with_reducible refine wpList_alloc (o := ⟨some 3, _, _, _, _, _⟩) tyDig rfl rfl ?_)
    intro w2 hk2 hb2 hs2
    have HK2 : Kp _ := ⟨hk2⟩
    have HZ : Kp (zero32.length = 32) := ⟨rfl⟩
    have HL : Kp ((cells8 (shaL key)).length = 32) := ⟨by rw [cells8_length, shaL_len]⟩
    clear hk2
    go_wp2_with (with_reducible refine wpList_storeAll (o := ⟨none, _, _, _, _, _⟩) (vs := cells8 (shaL key)) rwDig rfl (.tmp 3) (.tmp 9) rfl rfl HK2.out HZ.out HL.out (cells8_one _) rfl ?_)
    intro w3 hk3 ho3
    have hs3 := ho3.size
    have H3 : Kp (Bs w3 w3.heap.size (some ⟨w1.heap.size, 0, none⟩) 32 32 (keyL key)) := ⟨by
      rw [HK.out]
      exact hk3.bytes (by omega) (by rw [List.drop_zero, List.take_of_length_le (by rw [HL.out]; exact Nat.le_refl _)]) (shaL_len _) 32 (Nat.le_refl _) (by decide)⟩
    have hB3 : Below w.heap.size w w3 := (hB1.trans (hb2.mono (hB1.size))).trans (ho3.below hB1.size)
    clear HK2 hk3 ho3 hb2 hB1
    go_wp2_with fail
    refine (pad_any _ 32 32 64 _ _ H3.out (by omega) (by omega)).mono ?_
    rintro e w4 ⟨v4, rfl, hown4, hB4⟩
    rw [HLen.out] at hown4
    obtain ⟨A4, c4, rfl, hbs4⟩ := Bs.of_own hown4
    have H4 : Kp _ := ⟨hbs4⟩
    have hB := hB3.trans (hB4.mono hB3.size)
    clear hown4 hbs4 hB3 hB4
    go_wp2
    go_ret
    exact ⟨_, _, rfl, H4.out, hB⟩
  · have HK : Kp (keyL key = key) := ⟨by unfold keyL; rw [if_neg (by rw [HN.out]; omega)]⟩
    go_wp2_with fail
    refine (pad_any A n c 64 _ _ HA.out (by omega) (by omega)).mono ?_
    rintro e w4 ⟨v4, rfl, hown4, hB4⟩
    rw [← HK.out, HLen.out] at hown4
    obtain ⟨A4, c4, rfl, hbs4⟩ := Bs.of_own hown4
    have H4 : Kp _ := ⟨hbs4⟩
    clear hown4 hbs4
    go_wp2
    go_ret
    exact ⟨_, _, rfl, H4.out, hB4⟩
end Go.Proofs.Ythpfiieaanioeaa

namespace Go.Proofs.Ythpfiieaanioeaa
open Go.RowKit

set_option maxHeartbeats 400000 in
theorem new_any (w : World) :
    Calls Try.prog 55 #[] w fun e w' => e = .returned (.pointer (some ⟨w.heap.size, 0, none⟩)) ∧ HashIs w' w.heap.size [] ∧ Below w.heap.size w w' := by
  go_enter Try.func55, Try.ntmps55
  go_wp2_with (with_reducible refine wpList_alloc (o := ⟨some 1, _, _, _, _, _⟩) tyHash rfl rfl ?_)
  intro w1 hk1 hb1 hs1
  have HK1 : Kp _ := ⟨hk1⟩
  clear hk1 hs1
  go_wp2
  go_ret
  exact ⟨rfl, hash_zero HK1.out, hb1⟩

set_option maxHeartbeats 400000 in
theorem write_any (g : Nat) (M : List UInt8) (A : Option Addr) (n c : Nat) (l : List UInt8) (w : World) (hh : HashIs w g M)
    (hl : BsA w g A n c l) (hn : M.length + l.length ≤ 1048576) :
    Calls Try.prog 56 #[.pointer (some ⟨g, 0, none⟩), .slice A n c] w fun e w' => e = .returned (.tuple #[]) ∧ HashIs w' g (M ++ l) ∧ w.grownBy w' (some g) := by
  have HH : Kp _ := ⟨hh⟩
  have HL : Kp _ := ⟨hl⟩
  clear hh hl
  go_enter Try.func56, Try.ntmps56
  go_wp2_with fail
  refine (tell_any g M _ 1 1 [l] _ (HH.out.below ((Below.refl _ _).alloc (Nat.le_refl _) _) HH.out.lt) (LsA.one _ HL.out HH.out.lt) (by simpa using hn)).mono ?_
  rintro e w2 ⟨rfl, hg2, hgr⟩
  have HG2 : Kp _ := ⟨hg2⟩
  have hgr2 : w.grownBy w2 (some g) := grown_trans (grown_below ((Below.refl _ _).alloc (Nat.le_refl _) _) _) hgr
  clear hg2 hgr
  go_wp2
  go_end0
  obtain ⟨buf, hg⟩ := HG2.out
  exact ⟨rfl, by simpa using hg.is, hgr2⟩

end Go.Proofs.Ythpfiieaanioeaa

namespace Go.Proofs.Ythpfiieaanioeaa
open Go.RowKit

theorem hmac_inner (key b : List UInt8) : padK (padL (keyL key) 64) 54 64 ++ b = padK (keyL key) 54 64 ++ b := by rw [padK_padL]
theorem take_flat_next (ls : List (List UInt8)) (k : Nat) (h : k < ls.length) : (ls.take (k + 1)).flatten = (ls.take k).flatten ++ ls[k] := by
  rw [List.take_succ_eq_append_getElem h, List.flatten_append]; simp
theorem take_flat_le' (ls : List (List UInt8)) (k : Nat) : (ls.take k).flatten.length ≤ ls.flatten.length := by
  have h : (ls.take k ++ ls.drop k).flatten.length = ls.flatten.length := by rw [List.take_append_drop]
  rw [List.flatten_append, List.length_append] at h
  omega

set_option maxRecDepth 100000 in
set_option maxHeartbeats 4000000 in
theorem tag_any (A : Option Addr) (n c : Nat) (key : List UInt8) (B : Option Addr) (m d : Nat) (ls : List (List UInt8)) (w : World) (ha : Bs w w.heap.size A n c key) (hb : Ls w w.heap.size B m d ls) (hn : n ≤ 524288) (hm : ls.flatten.length ≤ 524000) :
    Calls Try.prog 50 #[.slice A n c, .slice B m d] w fun e w' => e = .returned (.agg (cells8 (hmacL key ls.flatten)).toArray) ∧ Below w.heap.size w w' := by
  have hml := hb.le
  have HA : Kp _ := ⟨ha⟩
  have HB : Kp _ := ⟨hb⟩
  have HM : Kp _ := ⟨hm⟩
  clear ha hb
  go_enter Try.func50, Try.ntmps50
  go_wp2_with (with_reducible refine wpList_alloc (o := ⟨some 4, _, _, _, _, _⟩) tyDig rfl rfl ?_)
  intro w0 hk0 hB0 hs0
  have HA0 : Kp _ := ⟨HA.out.next hB0 (Nat.le_refl _)⟩
  have HB0 : Kp _ := ⟨HB.out.next hB0 (Nat.le_refl _)⟩
  have HK0 : Kp _ := ⟨hk0⟩
  clear hk0 HA HB
  go_wp2_with fail
  refine (fill_any A n c key w0 HA0.out hn).mono ?_
  rintro e w1 ⟨F, fc, rfl, hF1, hB1⟩
  have HF1 : Kp _ := ⟨hF1⟩
  have HB1 : Kp _ := ⟨HB0.out.next hB1 (Nat.le_refl _)⟩
  have HK1 : Kp _ := ⟨HK0.out.below hB1 HK0.out.lt⟩
  have hs1 := hB1.size
  clear hF1 HA0 HB0 HK0
  go_wp2_with fail
  have HV2 : Kp ((w1.alloc (.cells #[.slice F 64 fc] 22)).cell? ⟨w1.heap.size, 0, none⟩ = some (.slice F 64 fc)) := ⟨by rw [World.cell?_alloc_at _ _ _ _ rfl]; rfl⟩
  have hb12 : Below w1.heap.size w1 (w1.alloc (.cells #[.slice F 64 fc] 22)) := (Below.refl _ _).alloc (Nat.le_refl _) _
  have hs2 : (w1.alloc (.cells #[.slice F 64 fc] 22)).heap.size = w1.heap.size + 1 := by simp
  obtain ⟨w2, hw2⟩ : ∃ x, x = w1.alloc (.cells #[.slice F 64 fc] 22) := ⟨_, rfl⟩
  rw [← hw2] at HV2 hb12 hs2 ⊢
  have hlt2 : w1.heap.size < w2.heap.size := by omega
  clear hs2
  refine (new_any w2).mono ?_
  rintro e w3 ⟨rfl, hh3, hB3⟩
  have hs3 := hB3.size
  have hg3 := hh3.lt
  have HH3 : Kp _ := ⟨hh3⟩
  have hb13 : Below w1.heap.size w1 w3 := hb12.trans (hB3.mono (by omega))
  have HV3 : Kp (w3.cell? ⟨w1.heap.size, 0, none⟩ = some (.slice F 64 fc)) := ⟨(hB3.cell (show w1.heap.size < w2.heap.size by omega)).trans HV2.out⟩
  have HF3 : Kp _ := ⟨HF1.out.below hb13⟩
  clear hw2 hb12 hh3 HV2
  go_wp2_with fail
  refine ((padv_any w1.heap.size F fc (padL (keyL key) 64) 54 w3 HV3.out (by omega) (HF3.out.more (by omega))) : Calls _ _ #[.int .u8 54, _] _ _).mono ?_
  rintro e w4 ⟨v4, rfl, hown4, hB4⟩
  obtain ⟨A4, c4, rfl, hbs4⟩ := BsA.of_own (g := w2.heap.size) hown4 hg3
  have HBs4 : Kp _ := ⟨hbs4⟩
  have HH4 : Kp _ := ⟨HH3.out.below hB4 hg3⟩
  have hs4 := hB4.size
  clear hown4 hbs4 HH3
  go_wp2_with fail
  refine (write_any w2.heap.size [] A4 64 c4 _ w4 HH4.out HBs4.out (by rw [padK_length]; simp)).mono ?_
  rintro e w5 ⟨rfl, hh5, hg5⟩
  rw [List.nil_append, padK_padL] at hh5
  have HH5 : Kp _ := ⟨hh5⟩
  have hs5 := hg5.size
  have hB15 : Below w1.heap.size w1 w5 := (hb13.trans (hB4.mono (by omega))).trans (below_grown hg5 (by omega) (by omega))
  have HV5 : Kp (w5.cell? ⟨w1.heap.size, 0, none⟩ = some (.slice F 64 fc)) := ⟨by
    rw [← HV3.out, ← hB4.cell (show w1.heap.size < w3.heap.size by omega)]
    have hv : w5.heap[w1.heap.size]? = w4.heap[w1.heap.size]? := hg5.block w1.heap.size (by omega) (fun e => by have := Option.some.inj e; omega)
    exact World.cell?_of_block (w := w4) hv⟩
  have HLs5 : Kp (LsA w5 w2.heap.size B m d ls) := ⟨LsA.of_ls (HB1.out.below hB15) (by omega) (by omega)⟩
  have hle5 : w2.heap.size < w5.heap.size := by omega
  clear hh5 hg5 HBs4 HH4 HV3 HF3 hB4 hB3 hb13 hg3
  go_wp2_with fail
  go_loopw [9, 21] (fun _ v wr => ∃ i : Nat, i ≤ m ∧ v = .int .i64 i ∧ Kp (HashIs wr w2.heap.size (padK (keyL key) 54 64 ++ (ls.take i).flatten)) ∧ w5.grownBy wr (some w2.heap.size)) (fun _ v _ => m - (intOf v).toNat)
  case atStart => exact ⟨0, Nat.zero_le _, rfl, by simpa using HH5, grown_refl _ _⟩
  case round =>
    clear HH5
    obtain ⟨i, hi, rfl, HHi, hgi⟩ := hrel
    by_cases hlt : i < m
    · have hii : (i : Int) < (m : Int) := by omega
      have hli : i < ls.length := by rw [HLs5.out.len]; exact hlt
      obtain ⟨b, o, A', n', c', rfl, _, hcell, hbs⟩ := (HLs5.out.grown hgi).at hlt
      have HP : Kp _ := ⟨hbs⟩
      have HFl : Kp _ := ⟨take_flat_next ls i hli⟩
      have HFL : Kp ((ls.take (i + 1)).flatten.length ≤ 524000) := ⟨by have := take_flat_le' ls (i + 1); have := HM.out; omega⟩
      generalize ls[i] = P at *
      clear hbs
      go_wp2_with fail
      refine (write_any w2.heap.size _ A' n' c' P _ HHi.out HP.out (by have h := HFL.out; rw [HFl.out, List.length_append] at h; rw [List.length_append, padK_length]; omega)).mono ?_
      rintro e w6 ⟨rfl, hh6, hg6⟩
      rw [List.append_assoc, ← HFl.out] at hh6
      have HH6 : Kp _ := ⟨hh6⟩
      have hg56 := grown_trans hgi hg6
      clear hh6 hg6 HHi hgi HP HFl HFL hcell
      go_wp2
      go_roundw
      case rel => exact ⟨i + 1, by omega, by go_num, HH6, hg56⟩
      case measure => simp [intOf]; omega
    · have HI : Kp (i = m) := ⟨by omega⟩
      have hii : ¬ ((i : Int) < (m : Int)) := by omega
      go_wp2_with fail
      refine (sum_any w2.heap.size _ wr HHi.out (by have h := take_flat_le' ls i; have := HM.out; rw [List.length_append, padK_length]; omega)).mono ?_
      rintro e w6 ⟨rfl, hB6⟩
      have e6 : shaL (padK (keyL key) 54 64 ++ (ls.take i).flatten) = shaL (padK (keyL key) 54 64 ++ ls.flatten) := by
        rw [HI.out, List.take_of_length_le (by rw [HLs5.out.len]; exact Nat.le_refl _)]
      rw [e6]
      have hs6 := hB6.size
      have hsr := hgi.size
      have hBr6 : Below w1.heap.size w1 w6 := (hB15.trans (below_grown hgi (by omega) (by omega))).trans (hB6.mono (by omega))
      have HV6 : Kp (w6.cell? ⟨w1.heap.size, 0, none⟩ = some (.slice F 64 fc)) := ⟨by
        rw [← HV5.out]
        have hv : w6.heap[w1.heap.size]? = w5.heap[w1.heap.size]? := (hB6.block _ (by omega)).trans (hgi.block w1.heap.size (by omega) (fun e => by have := Option.some.inj e; omega))
        exact World.cell?_of_block (w := w5) hv⟩
      have HF6 : Kp (Bs w6 w1.heap.size F 64 fc (padL (keyL key) 64)) := ⟨HF1.out.below hBr6⟩
      have HK6 : Kp _ := ⟨HK1.out.below hBr6 (HK1.out.lt)⟩
      have HDL : Kp ((shaL (padK (keyL key) 54 64 ++ ls.flatten)).length = 32) := ⟨shaL_len _⟩
      have HRes : Kp (hmacL key ls.flatten = shaL (padK (keyL key) 92 64 ++ shaL (padK (keyL key) 54 64 ++ ls.flatten))) := ⟨rfl⟩
      generalize shaL (padK (keyL key) 54 64 ++ ls.flatten) = D at *
      have HD32 : Kp ((cells8 D).length = 32) := ⟨by rw [cells8_length, HDL.out]⟩
      have HZ32 : Kp (zero32.length = 32) := ⟨rfl⟩
      clear e6 HHi hgi hB6 HV5 HLs5 hB15 HF1 HB1 HK1
      go_wp2_with (with_reducible refine wpList_alloc (o := ⟨some 10, _, _, _, _, _⟩) tyDig rfl rfl ?_)
      intro w7 hk7 hb7 hs7
      have HK7 : Kp _ := ⟨hk7⟩
      clear hk7
      go_wp2_with (with_reducible refine wpList_storeAll (o := ⟨none, _, _, _, _, _⟩) (vs := cells8 D) rwDig rfl (.tmp 10) (.tmp 30) rfl rfl HK7.out HZ32.out HD32.out (cells8_one _) rfl ?_)
      intro w8 hk8 ho8
      have hs8 := ho8.size
      have hB68 : Below w6.heap.size w6 w8 := hb7.trans (ho8.below (Nat.le_refl _))
      have hB18 : Below w1.heap.size w1 w8 := hBr6.trans (hB68.mono (by omega))
      have HV8 : Kp (w8.cell? ⟨w1.heap.size, 0, none⟩ = some (.slice F 64 fc)) := ⟨(hB68.cell (show w1.heap.size < w6.heap.size by omega)).trans HV6.out⟩
      have HF8 : Kp (Bs w8 w1.heap.size F 64 fc (padL (keyL key) 64)) := ⟨HF6.out.below' hB68 (by omega)⟩
      have HK8 : Kp _ := ⟨HK6.out.below hB68 (by have := HK6.out.lt; omega)⟩
      have hlt6 : w6.heap.size < w8.heap.size := by omega
      have HBs8 : Kp (Bs w8 w8.heap.size (some ⟨w6.heap.size, 0, none⟩) 32 32 D) := ⟨hk8.bytes hlt6 (by rw [List.drop_zero, List.take_of_length_le (by rw [HD32.out]; exact Nat.le_refl _)]) HDL.out 32 (Nat.le_refl _) (by decide)⟩
      have hlt1 : w1.heap.size < w8.heap.size := by omega
      clear hk8 ho8 HK7 hb7 hs7 hs8 HV6 HF6 HK6 hB68 hBr6
      go_wp2_with fail
      refine wp_region_any (by kernel_rfl) ?_
      change wpAny _ _ _ _ _ _ _ w8.drew
      refine wpAny_take (i := 0) (oi := ⟨some 31, _, _, _, _, _⟩) (v := ?_) rfl (by kernel_rfl) (by kernel_rfl) (by kernel_rfl) (fun _ _ _ h => h) (Or.inl ⟨by rfl, by intro w; go_simp; rfl⟩) ?_
      try simp only [Act.put, List.setIfInBounds_toArray, List.set_cons_zero, List.set_cons_succ]
      refine wpAny_take (i := 2) (oi := ⟨some 33, _, _, _, _, _⟩) (v := ?_) rfl (by kernel_rfl) (by kernel_rfl) (by kernel_rfl) (fun _ _ _ h => h) (Or.inl ⟨by rfl, by intro w; go_simp; rfl⟩) ?_
      try simp only [Act.put, List.setIfInBounds_toArray, List.set_cons_zero, List.set_cons_succ]
      refine wpAny_ready (rs := [1]) (by kernel_rfl) (by simp) ?_
      refine AllReady.cons (o := ⟨some 32, _, _, _, _, _⟩) rfl (fun K hK => ?_) AllReady.nil
      go_simp
      refine ((padv_any w1.heap.size F fc (padL (keyL key) 64) 92 w8.drew HV8.out hlt1 (HF8.out.drew.more (Nat.le_of_lt hlt1))) : Calls _ _ #[.int .u8 92, _] _ _).mono ?_
      rintro e w9 ⟨v9, rfl, hown9, hB9⟩
      rw [padK_padL] at hown9
      obtain ⟨A9, c9, rfl, hbs9⟩ := Bs.of_own hown9
      have HBs9 : Kp _ := ⟨hbs9⟩
      have hB89 : Below w8.heap.size w8 w9 := (Below.refl _ _).drew.trans hB9
      have hs9 := hB89.size
      have HT9 : Kp _ := ⟨(HBs8.out.below hB89).more hs9⟩
      have HK9 : Kp _ := ⟨HK8.out.below hB89 HK8.out.lt⟩
      clear hown9 hbs9 hB9 HBs8 HV8 HF8
      refine hK _ _ ?_
      clear hK K
      try simp only [Act.put, List.setIfInBounds_toArray, List.set_cons_zero, List.set_cons_succ]
      refine wpAny_ready (rs := [3]) (by kernel_rfl) (by simp) ?_
      refine AllReady.cons (o := ⟨some 34, _, _, _, _, _⟩) rfl (fun K hK => ?_) AllReady.nil
      go_simp
      refine hK _ _ ?_
      clear hK K
      try simp only [Act.put, List.setIfInBounds_toArray, List.set_cons_zero, List.set_cons_succ]
      refine wpAny_ready (rs := [4]) (by kernel_rfl) (by simp) ?_
      refine AllReady.cons (o := ⟨some 35, _, _, _, _, _⟩) rfl (fun K hK => ?_) AllReady.nil
      go_simp
      refine (sumf2 A9 64 c9 (padK (keyL key) 92 64) (some ⟨w6.heap.size, 0, none⟩) 32 32 D w9 22 HBs9.out HT9.out (by rw [padK_length, HDL.out]; omega)).mono ?_
      rintro e w10 ⟨rfl, hB10⟩
      rw [← HRes.out]
      have HK10 : Kp _ := ⟨HK9.out.below hB10 (by have := HK9.out.lt; omega)⟩
      have hB110 : Below w1.heap.size w1 w10 := (hB18.trans (hB89.mono (by omega))).trans (hB10.mono (by omega))
      have HLen : Kp ((cells8 (hmacL key ls.flatten)).length = 32) := ⟨by rw [cells8_length]; exact shaL_len _⟩
      clear HBs9 HT9 HRes
      generalize hR : hmacL key ls.flatten = R at *
      have HR : Kp _ := ⟨hR⟩
      clear hR
      refine hK _ _ ?_
      clear hK K
      try simp only [Act.put, List.setIfInBounds_toArray, List.set_cons_zero, List.set_cons_succ]
      refine wpAny_ready (rs := [5]) (by kernel_rfl) (by simp) ?_
      refine AllReady.cons (o := ⟨none, _, _, _, _, _⟩) rfl (fun K hK => ?_) AllReady.nil
      refine step_store rwDig rfl (.tmp 4) (.tmp 35) rfl rfl rfl HK10.out HLen.out (by rw [HZ32.out]; omega) (cells8_one _) ?_
      intro w11 hk11 ho11
      have HK11 : Kp (Blk w11 w.heap.size 43 (cells8 R)) := ⟨by
        have e1 : List.take 0 zero32 ++ cells8 R ++ List.drop (0 + 32) zero32 = cells8 R := by rw [List.drop_of_length_le (by rw [HZ32.out]; omega)]; simp
        rw [e1] at hk11
        exact hk11⟩
      clear hk11
      refine hK _ _ ?_
      clear hK K
      simp only [Act.put]
      refine wpAny_done (by kernel_rfl) ?_ _
      go_wp2
      exact ret_arr rfl rwDig rfl HK11.out HLen.out rfl ⟨by rw [HR.out], ((hB0.trans (hB1.mono (by omega))).trans (hB110.mono (by omega))).trans (ho11.below (Nat.le_refl _))⟩
end Go.Proofs.Ythpfiieaanioeaa

namespace Go.Proofs.Ythpfiieaanioeaa
open Go.RowKit

/-- an int as a word of 64 bits -/
def atU (z : Int) : Nat := (z % 18446744073709551616).toNat
theorem atU_lt (z : Int) : atU z < 18446744073709551616 := by unfold atU; omega
theorem atU_wrap (z : Int) : IntKind.u64.wrap z = ((atU z : Nat) : Int) := by rw [IntKind.wrap_u64]; unfold atU; omega
/-- what a thing at a place comes to -/
def ofL (key : List UInt8) (z : Int) (b : List UInt8) : List UInt8 := hmacL key (putN (atU z) 8 ++ b)
theorem ofL_length (key : List UInt8) (z : Int) (b : List UInt8) : (ofL key z b).length = 32 := by unfold ofL hmacL; rw [shaL_len]
theorem put8 (k : Nat) (w : World) (hk : k < 18446744073709551616) :
    Calls Try.prog 47 #[.int .u64 k, .int .i64 8] w fun e w' => ∃ A c, e = .returned (.slice A 8 c) ∧ Bs w' w'.heap.size A 8 c (putN k 8) ∧ Below w.heap.size w w' := by
  have h := put_any k 8 w hk
  have e4 : (min (max (8 : Int) 0) 8).toNat = 8 := by decide
  rw [e4] at h
  refine h.mono ?_
  rintro e w' ⟨v, rfl, hown, hb⟩
  obtain ⟨A, c, rfl, hbs⟩ := Bs.of_own hown
  exact ⟨A, c, rfl, hbs, hb⟩
theorem refput8 (k : Nat) (w : World) (hk : k < 18446744073709551616) :
    Calls Try.prog 51 #[.int .u64 k, .int .i64 8] w fun e w' => ∃ v, e = .returned v ∧ w'.ownsRow w.heap.size 5 1 v 8 (cells8 (putN k 8)) ∧ Below w.heap.size w w' := by
  have h := refput_any k 8 w hk
  have e4 : (min (max (8 : Int) 0) 8).toNat = 8 := by decide
  rw [e4] at h
  exact h
set_option maxHeartbeats 1000000 in
theorem of_any (K : Option Addr) (n c : Nat) (key : List UInt8) (z : Int) (B : Option Addr) (m d : Nat) (b : List UInt8) (w : World) (hk : Bs w w.heap.size K n c key) (hb : Bs w w.heap.size B m d b) (hn : n ≤ 524288) (hm : m ≤ 523000) :
    Calls Try.prog 43 #[.slice K n c, .int .i64 z, .slice B m d] w fun e w' => e = .returned (.agg (cells8 (ofL key z b)).toArray) ∧ Below w.heap.size w w' := by
  obtain ⟨L, hL⟩ : ∃ L, L = ofL key z b := ⟨_, rfl⟩
  have HL : Kp (L = ofL key z b) := ⟨hL⟩
  have HLl : Kp ((cells8 L).length = 32) := ⟨by rw [hL, cells8_length, ofL_length]⟩
  have HK : Kp _ := ⟨hk⟩
  have HB : Kp _ := ⟨hb⟩
  have hz := atU_wrap z
  have hzl := atU_lt z
  have HMl : Kp (b.length = m) := ⟨hb.len⟩
  have HT : Kp (∀ W Z e f, Bs W W.heap.size K n c key → Ls W W.heap.size Z e f [putN (atU z) 8, b] → Calls Try.prog 50 #[.slice K n c, .slice Z e f] W fun e w' => e = .returned (.agg (cells8 L).toArray) ∧ Below W.heap.size W w') := ⟨fun W Z e f h1 h2 => by
    have h := tag_any K n c key Z e f [putN (atU z) 8, b] W h1 h2 hn (by have := hb.len; simp [putN_length]; omega)
    rw [show hmacL key [putN (atU z) 8, b].flatten = L by rw [hL]; unfold ofL; simp] at h
    exact h⟩
  rw [← hL]
  generalize atU z = u at *
  clear hL hk hb HL
  go_enter Try.func43, Try.ntmps43
  go_wp2_with (with_reducible refine wpList_alloc (o := ⟨some 6, _, _, _, _, _⟩) tyDig rfl rfl ?_)
  intro w0 hk0 hb0 hs0
  have HR : Kp _ := ⟨hk0⟩
  have HK0 : Kp _ := ⟨HK.out.next hb0 (Nat.le_refl _)⟩
  have HB0 : Kp _ := ⟨HB.out.next hb0 (Nat.le_refl _)⟩
  clear hk0 HK HB hs0
  go_wp2_with fail
  refine (put8 u w0 hzl).mono ?_
  rintro e w1 ⟨P, cp, rfl, hp, hb1⟩
  have HP : Kp _ := ⟨hp⟩
  have HR1 : Kp _ := ⟨HR.out.below hb1 HR.out.lt⟩
  have HK1 : Kp _ := ⟨HK0.out.next hb1 (Nat.le_refl _)⟩
  have HB1 : Kp _ := ⟨HB0.out.next hb1 (Nat.le_refl _)⟩
  have hB1 := hb0.trans (hb1.mono hb0.size)
  clear hp hb0 hb1 HR HK0 HB0
  go_wp2_with fail
  refine (HT.out _ _ _ _ ((HK1.out.alloc (Nat.le_refl _) _).more (by simp)) (ls_two w1 _ HP.out HB1.out)).mono ?_
  rintro e w2 ⟨rfl, hb2⟩
  have hb2' : Below w1.heap.size w1 w2 := ((Below.refl _ w1).alloc (Nat.le_refl _) _).trans (hb2.mono (by simp))
  have HR2 : Kp _ := ⟨HR1.out.below hb2' HR1.out.lt⟩
  have hB2 := hB1.trans (hb2'.mono hB1.size)
  have HZ : Kp (zero32.length = 32) := ⟨rfl⟩
  clear hb2 hb2' HR1 hB1
  go_wp2_with (refine wpList_storeAll (o := ⟨none, _, _, _, _, _⟩) (vs := cells8 L) rwDig rfl (.tmp 6) (.tmp 13) rfl rfl HR2.out HZ.out HLl.out (cells8_one _) rfl ?_)
  intro w3 hk3 ho3
  have HK3 : Kp _ := ⟨hk3⟩
  clear hk3
  go_wp2
  exact ret_arr rfl rwDig rfl HK3.out HLl.out rfl ⟨rfl, hB2.trans (ho3.below (Nat.le_refl _))⟩
set_option maxHeartbeats 1000000 in
theorem refof_any (K : Option Addr) (n c : Nat) (key : List UInt8) (z : Int) (B : Option Addr) (m d : Nat) (b : List UInt8) (w : World) (hk : Bs w w.heap.size K n c key) (hb : Bs w w.heap.size B m d b) (hn : n ≤ 524288) (hm : m ≤ 523000) :
    Calls Try.prog 49 #[.slice K n c, .int .i64 z, .slice B m d] w fun e w' => e = .returned (.agg (cells8 (ofL key z b)).toArray) ∧ Below w.heap.size w w' := by
  obtain ⟨L, hL⟩ : ∃ L, L = ofL key z b := ⟨_, rfl⟩
  have HLl : Kp ((cells8 L).length = 32) := ⟨by rw [hL, cells8_length, ofL_length]⟩
  have HK : Kp _ := ⟨hk⟩
  have HB : Kp _ := ⟨hb⟩
  have hz := atU_wrap z
  have hzl := atU_lt z
  have HT : Kp (∀ W Z f, Bs W W.heap.size K n c key → Bs W W.heap.size Z (8 + m) f (putN (atU z) 8 ++ b) → Calls Try.prog 52 #[.slice K n c, .slice Z (8 + m) f] W fun e w' => e = .returned (.agg (cells8 L).toArray) ∧ Below W.heap.size W w') := ⟨fun W Z f h1 h2 => by
    have h := reftag_any K n c key Z (8 + m) f (putN (atU z) 8 ++ b) W h1 h2 (by omega) (by omega)
    rw [show hmacL key (putN (atU z) 8 ++ b) = L from hL.symm] at h
    exact h⟩
  rw [← hL]
  generalize atU z = u at *
  clear hL hk hb
  go_enter Try.func49, Try.ntmps49
  go_wp2_with (with_reducible refine wpList_alloc (o := ⟨some 6, _, _, _, _, _⟩) tyDig rfl rfl ?_)
  intro w0 hk0 hb0 hs0
  have HR : Kp _ := ⟨hk0⟩
  have HK0 : Kp _ := ⟨HK.out.next hb0 (Nat.le_refl _)⟩
  have HB0 : Kp _ := ⟨HB.out.next hb0 (Nat.le_refl _)⟩
  clear hk0 HK HB hs0
  go_wp2_with fail
  refine (refput8 u w0 hzl).mono ?_
  rintro e w1 ⟨v, rfl, hown, hb1⟩
  have HR1 : Kp _ := ⟨HR.out.below hb1 HR.out.lt⟩
  have HK1 : Kp _ := ⟨HK0.out.below hb1⟩
  have HB1 : Kp _ := ⟨HB0.out.below hb1⟩
  have hB1 := hb0.trans (hb1.mono hb0.size)
  have HOwn := Lib.hid hown
  have hle1 : w0.heap.size ≤ w1.heap.size := hb1.size
  have HS := HB1.out.news
  have HC1 := HB1.out.nil
  have hcell : Kp (∀ ad, B = some ad → ∀ j u, (cells8 b)[j]? = some u → w1.cell? (ad.add j) = some u) := ⟨HS⟩
  have hnil : Kp (B = none → m = 0 ∧ d = 0) := ⟨fun h => by have h1 := HC1 h; have h2 := HB1.out.cap; omega⟩
  have hbl : Kp ((cells8 b).length = m) := ⟨by rw [cells8_length]; exact HB1.out.len⟩
  have hR0 : Kp (w.heap.size < w0.heap.size) := ⟨HR.out.lt⟩
  clear hown hb0 hb1 HR HK0 HB0 HS HC1
  go_wp2_with (at_builtin; refine wpList_app el8 rfl _ _ rfl w0.heap.size v 8 (cells8 (putN u 8)) rfl HOwn.out B m d (cells8 b) rfl hbl.out hnil.out hcell.out (cells8_one _) (by simp only [maxLen]; omega) (by omega) hle1 ?_)
  intro v' w2 hown2 hg2 hblk
  have hB12 : Below w0.heap.size w1 w2 := below_of_grown HOwn.out hle1 hg2
  rw [← cells8_append] at hown2
  obtain ⟨A2, c2, rfl, hbs⟩ := Bs.of_own hown2
  have HA2 : Kp _ := ⟨hbs⟩
  have HR2 : Kp _ := ⟨HR1.out.below hB12 hR0.out⟩
  have HK2 : Kp (Bs w2 w2.heap.size K n c key) := ⟨(HK1.out.below hB12).more (Nat.le_trans hle1 hB12.size)⟩
  have hB2 := hB1.trans (hB12.mono (Nat.le_of_lt hR0.out))
  clear hown2 hg2 hblk hB12 hbs HR1 hB1 HOwn
  go_wp2_with fail
  refine (HT.out _ _ _ HK2.out HA2.out).mono ?_
  rintro e w3 ⟨rfl, hb3⟩
  have HR3 : Kp _ := ⟨HR2.out.below hb3 HR2.out.lt⟩
  have hB3 := hB2.trans (hb3.mono hB2.size)
  have HZ : Kp (zero32.length = 32) := ⟨rfl⟩
  clear hb3 HR2 hB2
  go_wp2_with (refine wpList_storeAll (o := ⟨none, _, _, _, _, _⟩) (vs := cells8 L) rwDig rfl (.tmp 6) (.tmp 16) rfl rfl HR3.out HZ.out HLl.out (cells8_one _) rfl ?_)
  intro w4 hk4 ho4
  have HK4 : Kp _ := ⟨hk4⟩
  clear hk4
  go_wp2
  exact ret_arr rfl rwDig rfl HK4.out HLl.out rfl ⟨rfl, hB3.trans (ho4.below (Nat.le_refl _))⟩
end Go.Proofs.Ythpfiieaanioeaa

namespace Go.Proofs.Ythpfiieaanioeaa
open Go.RowKit Go.Shelf

/-- 32 bytes -/
abbrev D32 := { l : List UInt8 // l.length = 32 }
def encD (x : D32) : Array Value := #[.agg (cells8 x.1).toArray]
/-- what each thing comes to -/
def comeL (key : List UInt8) (its : List (Int × List UInt8)) : List D32 := its.map fun x => ⟨ofL key x.1 x.2, ofL_length _ _ _⟩
theorem comeL_length (key : List UInt8) (its : List (Int × List UInt8)) : (comeL key its).length = its.length := by simp [comeL]
theorem comeL_next (key : List UInt8) (its : List (Int × List UInt8)) (k : Nat) (h : k < its.length) : (comeL key its).take (k + 1) = (comeL key its).take k ++ [⟨ofL key its[k].1 its[k].2, ofL_length _ _ _⟩] := by
  rw [List.take_succ_eq_append_getElem (by rw [comeL_length]; exact h)]
  simp [comeL]
/-- what a round keeps: all below B, and two blocks -/
structure KpE (B Bl Bk : Nat) (X Y : World) : Prop where
  below : Below B X Y
  l : Y.heap[Bl]? = X.heap[Bl]?
  k : Y.heap[Bk]? = X.heap[Bk]?
section
variable {B Bl Bk : Nat} {X Y Z : World}
theorem KpE.refl (X : World) : KpE B Bl Bk X X := ⟨Below.refl _ _, rfl, rfl⟩
theorem KpE.trans (h : KpE B Bl Bk X Y) (k : KpE B Bl Bk Y Z) : KpE B Bl Bk X Z := ⟨h.below.trans k.below, k.l.trans h.l, k.k.trans h.k⟩
theorem KpE.of_below (h : Below X.heap.size X Y) (hB : B ≤ X.heap.size) (hl : Bl < X.heap.size) (hk : Bk < X.heap.size) : KpE B Bl Bk X Y := ⟨h.mono hB, h.block _ hl, h.block _ hk⟩
theorem KpE.cell_l (h : KpE B Bl Bk X Y) {v : Value} (hc : X.cell? ⟨Bl, 0, none⟩ = some v) : Y.cell? ⟨Bl, 0, none⟩ = some v := (World.cell?_of_block (w := X) h.l).trans hc
theorem KpE.cell_k (h : KpE B Bl Bk X Y) {v : Value} (hc : X.cell? ⟨Bk, 0, none⟩ = some v) : Y.cell? ⟨Bk, 0, none⟩ = some v := (World.cell?_of_block (w := X) h.k).trans hc
theorem KpE.grown {row : Option Nat} (h : X.grownBy Y row) (hr : ∀ g, row = some g → B ≤ g ∧ g ≠ Bl ∧ g ≠ Bk) (hB : B ≤ X.heap.size) (hl : Bl < X.heap.size) (hk : Bk < X.heap.size) : KpE B Bl Bk X Y :=
  ⟨⟨h.os, h.tape, h.output, h.size, fun k hk => h.block k (by omega) (fun e => by have := (hr k e.symm).1; omega)⟩, h.block _ hl (fun e => (hr _ e.symm).2.1 rfl), h.block _ hk (fun e => (hr _ e.symm).2.2 rfl)⟩
end
section
attribute [local go_sem] Oper.semAt_some
set_option maxRecDepth 100000 in
set_option maxHeartbeats 4000000 in
theorem each1_in (n : Nat) (l Bl Bk n₀ : Nat) (A : Option Addr) (m c : Nat) (its : List (Int × List UInt8)) (K : Option Addr) (kn kc : Nat) (key : List UInt8) (J Jx : List D32 → World → Prop) (W : World)
    (hJ : ∀ pre X Y, J pre X → Below X.heap.size X Y → W.heap.size ≤ X.heap.size → J pre Y) (hW : n₀ ≤ W.heap.size)
    (hY : ∀ pre x X, J pre X → pre.length < m → YieldAt Fence.wide (n - 1) Try.prog l (encD x) X fun e X' => (e = .returned (.bool true) ∧ J (pre ++ [x]) X' ∧ KpE n₀ Bl Bk X X') ∨ (e = .returned (.bool false) ∧ Jx (pre ++ [x]) X'))
    (hBl : W.cell? ⟨Bl, 0, none⟩ = some (.slice A m c)) (hBk : W.cell? ⟨Bk, 0, none⟩ = some (.slice K kn kc)) (hl : Bl < W.heap.size) (hk : Bk < W.heap.size) (hI : Its W n₀ A m c its) (hK : Bs W n₀ K kn kc key)
    (hm : m ≤ 4294967296) (hkn : kn ≤ 524288) (hb : ∀ x ∈ its, x.2.length ≤ 523000) (h0 : J [] W) :
    CallsIn Fence.wide n Try.prog 42 #[.func (.yield l) #[] #[], .pointer (some ⟨Bl, 0, none⟩), .pointer (some ⟨Bk, 0, none⟩)] W fun e W' => (∃ v, e = .returned v) ∧ ((∃ ys, ys = comeL key its ∧ J ys W') ∨ (∃ pre, pre <+: comeL key its ∧ Jx pre W')) := by
  have HI : Kp _ := ⟨hI⟩
  have HK : Kp _ := ⟨hK⟩
  have HJ : Kp _ := ⟨hJ⟩
  have HY : Kp _ := ⟨hY⟩
  have HB : Kp _ := ⟨hb⟩
  have HL : Kp _ := ⟨hI.len⟩
  have H0 : Kp _ := ⟨h0⟩
  have HBl : Kp _ := ⟨hBl⟩
  have HBk : Kp _ := ⟨hBk⟩
  clear hI hK hJ hY hb h0 hBk
  refine callsIn_of_wp Try.func42 rfl trivial ?_ rfl
  simp only [Try.ntmps42, List.size_toArray, List.length_cons, List.length_nil, Nat.reduceAdd, Nat.reduceSub, Array.replicate_succ, Array.replicate_zero, List.push_toArray, List.append_toArray, List.nil_append, List.cons_append]
  gi_wp2
  gi_loopw [8] (fun i wr => ∃ k : Nat, k ≤ m ∧ i = .int .i64 k ∧ Kp (J ((comeL key its).take k) wr) ∧ Kp (KpE n₀ Bl Bk W wr)) (fun i _ => m - (intOf i).toNat)
  case atStart => exact ⟨0, Nat.zero_le _, rfl, ⟨H0.out⟩, ⟨KpE.refl _⟩⟩
  case round =>
    obtain ⟨k, hkm, rfl, HJs, HE⟩ := hrel
    have hB := HE.out.below
    by_cases hlt : k < m
    · have hki : k < its.length := by rw [HL.out]; exact hlt
      obtain ⟨b, o, A', n', c', rfl, hbl, hc1, hc2, hbs⟩ := (HI.out.below hB).at hlt
      obtain ⟨z, hz⟩ : ∃ z, z = (its[k]'hki).1 := ⟨_, rfl⟩
      obtain ⟨bb, hbb⟩ : ∃ z, z = (its[k]'hki).2 := ⟨_, rfl⟩
      have HZ : Kp _ := ⟨hz⟩
      have HBB : Kp _ := ⟨hbb⟩
      rw [← hz] at hc1
      have hck : wr.cell? ⟨Bk, 0, none⟩ = some (.slice K kn kc) := HE.out.cell_k HBk.out
      have HKr : Kp _ := ⟨HK.out.below hB⟩
      have hnr : n₀ ≤ wr.heap.size := Nat.le_trans hW hB.size
      have hn523 : n' ≤ 523000 := by
        have h := HB.out _ (List.getElem_mem hki)
        rw [hbs.len] at h
        exact h
      rw [← hbb] at hbs
      have HBs : Kp _ := ⟨hbs⟩
      have HOf : Kp (CallsIn Fence.wide (n - 1) Try.prog 43 #[.slice K kn kc, .int .i64 z, .slice A' n' c'] (wr.alloc (.cells #[.int .i64 z, .slice A' n' c'] 30)) fun e w' => e = .returned (.agg (cells8 (ofL key z bb)).toArray) ∧ Below (wr.heap.size + 1) (wr.alloc (.cells #[.int .i64 z, .slice A' n' c'] 30)) w') := ⟨callsIn_wide.2 (by
        have h := of_any K kn kc key z A' n' c' bb (wr.alloc (.cells #[.int .i64 z, .slice A' n' c'] 30)) ((HKr.out.alloc hnr _).more (by simp; omega)) ((HBs.out.alloc hnr _).more (by simp; omega)) hkn hn523
        simpa using h)⟩
      have hbk : Bk < wr.heap.size := Nat.lt_of_lt_of_le hk hB.size
      have hbl2 : Bl < wr.heap.size := Nat.lt_of_lt_of_le hl hB.size
      have hck2 : (wr.alloc (.cells #[.int .i64 z, .slice A' n' c'] 30)).cell? ⟨Bk, 0, none⟩ = some (.slice K kn kc) := (Below.cell ((Below.refl wr.heap.size wr).alloc (Nat.le_refl _) _) (p := ⟨Bk, 0, none⟩) hbk).trans hck
      clear hz hbb hbs
      gi_wp2_with fail
      refine ⟨trivial, (fun h => by cases h), HOf.out.mono ?_⟩
      rintro e w2 ⟨rfl, hb2⟩
      have hb3 : Below wr.heap.size wr w2 := ((Below.refl _ wr).alloc (Nat.le_refl _) _).trans (hb2.mono (by omega))
      have hJ2 : J ((comeL key its).take k) w2 := HJ.out _ _ _ HJs.out hb3 hB.size
      have HNx := comeL_next key its k hki
      have hof : ofL key (its[k]'hki).1 (its[k]'hki).2 = ofL key z bb := by rw [← HZ.out, ← HBB.out]
      have HNx2 : Kp ((comeL key its).take (k + 1) = (comeL key its).take k ++ [(⟨ofL key z bb, ofL_length _ _ _⟩ : D32)]) := ⟨by rw [HNx]; simp only [hof]⟩
      obtain ⟨fn, tmps, assign, body, hy, hR⟩ := HY.out _ (⟨ofL key z bb, ofL_length _ _ _⟩ : D32) w2 hJ2 (by rw [List.length_take, comeL_length]; omega)
      dsimp only [encD] at hy
      have hB2 : KpE n₀ Bl Bk W w2 := HE.out.trans (KpE.of_below hb3 hnr hbl2 hbk)
      have HR : Kp _ := ⟨hR⟩
      clear HNx hof hb2 hb3 hck2 hck hc1 hc2 hR hJ2
      gi_wp2
      refine ⟨(fun h => by cases h), HR.out.mono ?_⟩
      rintro e W3 (⟨rfl, hJ3, hk3⟩ | ⟨rfl, hJx3⟩)
      · gi_wp2
        go_roundw
        case rel => exact ⟨k + 1, by omega, by go_num, ⟨by rw [HNx2.out]; exact hJ3⟩, ⟨hB2.trans hk3⟩⟩
        case measure => simp [intOf]; omega
      · gi_wp2
        refine bodyPost_ret (results_none rfl _ _ _) rfl ?_
        exact ⟨⟨_, rfl⟩, .inr ⟨_, (by rw [← HNx2.out]; exact List.take_prefix _ _), hJx3⟩⟩
    · obtain rfl : k = m := by omega
      gi_wp2
      go_end0
      exact ⟨⟨_, rfl⟩, .inl ⟨_, rfl, by have h := HJs.out; rwa [List.take_of_length_le (by rw [comeL_length, HL.out]; exact Nat.le_refl _)] at h⟩⟩
end
theorem grown_none {w w' : World} (h : Below w.heap.size w w') : w.grownBy w' none := ⟨h.os, h.tape, h.output, h.size, fun k hk _ => h.block k hk⟩
/-- what each hands back tells what the things come to, one by one -/
theorem each_stops (n : Nat) (Bl Bk n₀ : Nat) (A : Option Addr) (m c : Nat) (its : List (Int × List UInt8)) (K : Option Addr) (kn kc : Nat) (key : List UInt8) (w : World) (hn : n₀ ≤ w.heap.size)
    (hBl : w.cell? ⟨Bl, 0, none⟩ = some (.slice A m c)) (hBk : w.cell? ⟨Bk, 0, none⟩ = some (.slice K kn kc)) (hl : Bl < w.heap.size) (hk : Bk < w.heap.size) (hI : Its w n₀ A m c its) (hK : Bs w n₀ K kn kc key)
    (hm : m ≤ 4294967296) (hkn : kn ≤ 524288) (hb : ∀ x ∈ its, x.2.length ≤ 523000) :
    SeqStopsK Fence.wide n Try.prog 42 #[.pointer (some ⟨Bl, 0, none⟩), .pointer (some ⟨Bk, 0, none⟩)] encD (KpE n₀ Bl Bk) (fun ys => ys = comeL key its) (fun pre => pre <+: comeL key its) m w := fun l J Jx W hW hJ _ hY h0 =>
  each1_in n l Bl Bk n₀ A m c its K kn kc key J Jx W (fun pre X Y hx hb hs => hJ pre X Y none hx (grown_none hb) (fun r e => by cases e)) (Nat.le_trans hn hW.size) hY
    ((hW.cell (p := ⟨Bl, 0, none⟩) hl).trans hBl) ((hW.cell (p := ⟨Bk, 0, none⟩) hk).trans hBk) (Nat.lt_of_lt_of_le hl hW.size) (Nat.lt_of_lt_of_le hk hW.size) (hI.below (hW.mono hn)) (hK.below (hW.mono hn)) hm hkn hb h0
set_option maxHeartbeats 1000000 in
/-- each boxes the key and the list; what it hands back has captured both boxes -/
theorem each_any (K : Option Addr) (kn kc : Nat) (A : Option Addr) (m c : Nat) (w : World) :
    Calls Try.prog 34 #[.slice K kn kc, .slice A m c] w fun e w' => e = .returned (.func (.func 42) #[] #[.pointer (some ⟨w.heap.size + 1, 0, none⟩), .pointer (some ⟨w.heap.size, 0, none⟩)]) ∧ w' = (w.alloc (.cells #[.slice K kn kc] 22)).alloc (.cells #[.slice A m c] 23) := by
  go_enter Try.func34, Try.ntmps34
  go_wp2
  go_ret
  exact ⟨by simp, rfl⟩
end Go.Proofs.Ythpfiieaanioeaa
