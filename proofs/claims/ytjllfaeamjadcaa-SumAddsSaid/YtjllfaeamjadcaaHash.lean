/- The contracts of package sha's two Sums. -/
import Derived.Test.YtjllfaeamjadcaaTell
import Derived.Test.YtjllfaeamjadcaaPadded
namespace Go.Proofs.Ytjllfaeamjadcaa
open Go.RowKit

def StZ : St := ⟨0, 0, 0, 0, 0, 0, 0, 0⟩
def zeroHash : List Value := hashCells StZ (List.replicate 64 0) 0
theorem tyHash : Ty Try.prog 76 zeroHash := ⟨by kernel_rfl⟩
noncomputable def hashDesc : TypeDesc := ((Try.prog).underlying 76).getD (.array 0 0)
theorem rwHash : Rw Try.prog 76 hashDesc 73 := ⟨by kernel_rfl, by kernel_rfl, by kernel_rfl⟩
theorem hash_one (s : St) (buf : List UInt8) (n : Nat) : ∀ v ∈ hashCells s buf n, v.oneCell' = true := by
  intro v hv
  unfold hashCells at hv
  rcases List.mem_append.1 hv with h | h
  · rcases List.mem_append.1 h with h | h
    · exact cells32_one _ _ h
    · exact cells8_one _ _ h
  · simp at h; subst h; rfl
theorem HashIs.grown {w w' : World} {g k : Nat} {M : List UInt8} (h : HashIs w g M) (hg : w.grownBy w' (some k)) (hne : g ≠ k) : HashIs w' g M := by
  obtain ⟨st, buf, hb, hl, hs, ht⟩ := h.is
  exact ⟨st, buf, hb.grown hg hne, hl, hs, ht⟩
theorem HashIs.lt {w : World} {g : Nat} {M : List UInt8} (h : HashIs w g M) : g < w.heap.size := by
  obtain ⟨st, buf, hb, _⟩ := h.is
  exact hb.lt
theorem HashIs.below {w w' : World} {g B : Nat} {M : List UInt8} (h : HashIs w g M) (hb : Below B w w') (hg : g < B) : HashIs w' g M := by
  obtain ⟨st, buf, hk, hl, hs, ht⟩ := h.is
  exact ⟨st, buf, hk.below hb hg, hl, hs, ht⟩
theorem HG.is {w : World} {g : Nat} {M buf : List UInt8} (h : HG w g M buf) : HashIs w g M := ⟨_, buf, h.blk, h.len, fun _ => rfl, h.buf⟩
theorem hash_zero {w : World} {g : Nat} (h : Blk w g 76 zeroHash) : HashIs w g [] := ⟨StZ, List.replicate 64 0, h, rfl, (fun h => absurd h (by simp)), by simp⟩

set_option maxRecDepth 100000 in
set_option maxHeartbeats 4000000 in
theorem sum_any (g : Nat) (M : List UInt8) (w : World) (hh : HashIs w g M) (hn : M.length ≤ 524288) :
    Calls Try.prog 39 #[.pointer (some ⟨g, 0, none⟩)] w fun e w' => e = .returned (.agg (cells8 (shaL M)).toArray) ∧ Below w.heap.size w w' := by
  obtain ⟨st, buf, hb, hl, hs, ht⟩ := hh.is
  have HB : Kp _ := ⟨hb⟩
  have HH : Kp _ := ⟨hh⟩
  have HLen : Kp ((hashCells st buf M.length).length = 73) := ⟨hashCells_length _ _ _ hl⟩
  have HRest : Kp (buf.length = 64 ∧ (0 < M.length → st = foldB M (M.length / 64)) ∧ buf.take (M.length % 64) = M.drop (64 * (M.length / 64))) := ⟨hl, hs, ht⟩
  have HZ : Kp (zeroHash.length = 73) := ⟨rfl⟩
  clear hb hl hs ht hh
  go_enter Try.func39, Try.ntmps39
  go_wp2_with (with_reducible refine wpList_alloc (o := ⟨some 2, _, _, _, _, _⟩) tyDig rfl rfl ?_)
  intro w1 hk1 hb1 hs1
  have HK1 : Kp _ := ⟨hk1⟩
  have HB1 : Kp _ := ⟨HB.out.below hb1 HB.out.lt⟩
  have hgl := HB.out.lt
  clear hk1 HB
  go_wp2_with (first
    | (with_reducible refine wpList_loadAll (o := ⟨some 9, _, _, _, _, _⟩) rwHash rfl (.tmp 8) rfl rfl HB1.out HLen.out ?_)
    | (with_reducible refine wpList_alloc (o := ⟨some 3, _, _, _, _, _⟩) tyHash rfl rfl ?_))
  intro w2 hk2 hb2 hs2
  have HK2 : Kp _ := ⟨hk2⟩
  clear hk2
  go_wp2_with (with_reducible refine wpList_storeAll (o := ⟨none, _, _, _, _, _⟩) (vs := hashCells st buf M.length) rwHash rfl (.tmp 3) (.tmp 9) rfl rfl HK2.out HZ.out HLen.out (hash_one _ _ _) rfl ?_)
  intro w3 hk3 ho3
  have HO3 : Kp (HashIs w3 (w.heap.size + 1) M) := ⟨⟨st, buf, hk3, HRest.out⟩⟩
  have HH3 : Kp _ := ⟨(HB1.out.below hb2 (by omega)).only ho3 (by omega)⟩
  have hc72 : w3.cell? ⟨g, 72, none⟩ = some (.int .u64 (M.length : Int)) := by rw [HH3.out.cell? 72]; exact hash_size_at _ _ _ HRest.out.1
  have HK3 : Kp _ := ⟨(HK1.out.below hb2 (by omega)).only ho3 (by omega)⟩
  have hB3 : Below w.heap.size w w3 := (hb1.trans (hb2.mono (by omega))).trans (ho3.below (by omega))
  have hs3 := ho3.size
  clear hk3 HB1 HK1 HK2 hb1 hb2 ho3 HRest HZ HLen
  go_wp2_with fail
  refine (ending_any M.length _ (by omega)).mono ?_
  rintro e w4 ⟨v4, rfl, hown4, hb4⟩
  obtain ⟨A4, c4, rfl, hbs4⟩ := BsA.of_own (g := w.heap.size + 1) hown4 (by omega)
  have HE4 : Kp _ := ⟨hbs4⟩
  have HO4 : Kp _ := ⟨HO3.out.below hb4 (by omega)⟩
  have hs4 := hb4.size
  have HK4 : Kp _ := ⟨HK3.out.below hb4 (by omega)⟩
  have hB4 : Below w.heap.size w w4 := hB3.trans (hb4.mono (by omega))
  have HEL : Kp (M.length + (ending M.length).length ≤ 1048576) := ⟨by
    have h1 := padded_length M
    rw [padded, List.length_append] at h1
    have := pad_le M.length
    omega⟩
  clear hown4 hbs4 hc72 HO3 HK3 hB3 hb4
  go_wp2_with fail
  refine (tell_any (w.heap.size + 1) M _ 1 1 [ending M.length] _ (HO4.out.below ((Below.refl _ _).alloc (Nat.le_refl _) _) HO4.out.lt) (LsA.one _ HE4.out HO4.out.lt) (by simpa using HEL.out)).mono ?_
  rintro e w5 ⟨rfl, hg5, hgr5⟩
  have hgr45 : w4.grownBy w5 (some (w.heap.size + 1)) := grown_trans (grown_below ((Below.refl _ _).alloc (Nat.le_refl _) _) _) hgr5
  have HG5 : Kp (∃ buf, HG w5 (w.heap.size + 1) (padded M) buf) := ⟨by simpa [padded] using hg5⟩
  have HK5 : Kp _ := ⟨HK4.out.grown hgr45 (by omega)⟩
  have hB5 : Below w.heap.size w w5 := hB4.trans (below_grown hgr45 (by omega) (by omega))
  have hs5 := hgr45.size
  obtain ⟨buf5, hg5'⟩ := HG5.out
  have HB5 : Kp _ := ⟨hg5'.blk⟩
  have H85 : Kp (0 + 8 ≤ (hashCells (foldB (padded M) ((padded M).length / 64)) buf5 (padded M).length).length) := ⟨by rw [hashCells_length _ _ _ hg5'.len]; omega⟩
  have HSh : Kp (shaL M = digestL (foldB (padded M) ((padded M).length / 64))) := ⟨rfl⟩
  have HVS : Kp ((hashCells (foldB (padded M) ((padded M).length / 64)) buf5 (padded M).length).take 8 = cells32 (foldB (padded M) ((padded M).length / 64)).list) := ⟨hash_state_at (foldB (padded M) ((padded M).length / 64)) buf5 (padded M).length⟩
  have HZ32 : Kp (zero32.length = 32) := ⟨rfl⟩
  clear hg5 hgr5 hgr45 HG5 hg5' HK4 HO4 HE4 hB4 HEL
  generalize foldB (padded M) ((padded M).length / 64) = sx at *
  have HD32 : Kp ((cells8 (digestL sx)).length = 32) := ⟨by rw [cells8_length, digestL_length]⟩
  go_wp2_with (with_reducible refine wpList_load (o := ⟨some 18, _, _, _, _, _⟩) rwSt rfl (.tmp 17) rfl rfl HB5.out H85.out ?_)
  rw [HVS.out]
  go_wp2_with fail
  refine (digest_any sx _).mono ?_
  rintro e w6 ⟨rfl, hb6⟩
  have HK6 : Kp _ := ⟨HK5.out.below hb6 (by omega)⟩
  go_wp2_with (with_reducible refine wpList_storeAll (o := ⟨none, _, _, _, _, _⟩) (vs := cells8 (digestL sx)) rwDig rfl (.tmp 2) (.tmp 19) rfl rfl HK6.out HZ32.out HD32.out (cells8_one _) rfl ?_)
  intro w7 hk7 ho7
  have HK7 : Kp _ := ⟨hk7⟩
  clear hk7
  go_wp2
  refine ret_arr rfl rwDig rfl HK7.out HD32.out rfl ⟨by rw [HSh.out], (hB5.trans (hb6.mono (by omega))).trans (ho7.below (by omega))⟩

set_option maxRecDepth 100000 in
set_option maxHeartbeats 1000000 in
theorem sumf_any (A : Option Addr) (n c : Nat) (ls : List (List UInt8)) (w : World) (hl : Ls w w.heap.size A n c ls) (hn : ls.flatten.length ≤ 524288) :
    Calls Try.prog 40 #[.slice A n c] w fun e w' => e = .returned (.agg (cells8 (shaL ls.flatten)).toArray) ∧ Below w.heap.size w w' := by
  have HL : Kp _ := ⟨hl⟩
  clear hl
  go_enter Try.func40, Try.ntmps40
  go_wp2_with (with_reducible refine wpList_alloc (o := ⟨some 2, _, _, _, _, _⟩) tyDig rfl rfl ?_)
  intro w1 hk1 hb1 hs1
  have HK1 : Kp _ := ⟨hk1⟩
  have HL1 : Kp _ := ⟨HL.out.below hb1⟩
  clear hk1 HL
  go_wp2_with (with_reducible refine wpList_alloc (o := ⟨some 3, _, _, _, _, _⟩) tyHash rfl rfl ?_)
  intro w2 hk2 hb2 hs2
  have HH2 : Kp _ := ⟨hash_zero hk2⟩
  have HL2 : Kp (LsA w2 (w.heap.size + 1) A n c ls) := ⟨LsA.of_ls (HL1.out.below (hb2.mono (by omega))) (by omega) (by omega)⟩
  have HK2 : Kp _ := ⟨HK1.out.below hb2 (by omega)⟩
  have hB2 : Below w.heap.size w w2 := hb1.trans (hb2.mono (by omega))
  clear hk2 HK1 HL1 hb1 hb2
  go_wp2_with fail
  refine (tell_any (w.heap.size + 1) [] A n c ls _ HH2.out HL2.out (by simp only [List.length_nil]; omega)).mono ?_
  rintro e w3 ⟨rfl, hg3, hgr3⟩
  have HH3 : Kp (HashIs w3 (w.heap.size + 1) ls.flatten) := ⟨by
    obtain ⟨buf, hg⟩ := hg3
    simpa using hg.is⟩
  have HK3 : Kp _ := ⟨HK2.out.grown hgr3 (by omega)⟩
  have hB3 : Below w.heap.size w w3 := hB2.trans (below_grown hgr3 (by omega) (by omega))
  have hs3 := hgr3.size
  have HZ32 : Kp (zero32.length = 32) := ⟨rfl⟩
  have HD32 : Kp ((cells8 (shaL ls.flatten)).length = 32) := ⟨by rw [cells8_length]; unfold shaL; rw [digestL_length]⟩
  clear hg3 hgr3 HH2 HL2 HK2 hB2
  go_wp2_with fail
  refine (sum_any (w.heap.size + 1) ls.flatten _ HH3.out hn).mono ?_
  rintro e w4 ⟨rfl, hb4⟩
  have HK4 : Kp _ := ⟨HK3.out.below hb4 (by omega)⟩
  generalize hD : shaL ls.flatten = D at *
  have HD : Kp _ := ⟨hD⟩
  clear hD
  go_wp2_with (with_reducible refine wpList_storeAll (o := ⟨none, _, _, _, _, _⟩) (vs := cells8 D) rwDig rfl (.tmp 2) (.tmp 6) rfl rfl HK4.out HZ32.out HD32.out (cells8_one _) rfl ?_)
  intro w5 hk5 ho5
  have HK5 : Kp _ := ⟨hk5⟩
  clear hk5
  go_wp2
  exact ret_arr rfl rwDig rfl HK5.out HD32.out rfl ⟨by rw [HD.out], (hB3.trans (hb4.mono (by omega))).trans (ho5.below (by omega))⟩

/-- of no Hash: noughts -/
theorem sum_nil (w : World) :
    Calls Try.prog 39 #[.pointer none] w fun e w' => e = .returned (.agg (cells8 (List.replicate 32 0)).toArray) ∧ Below w.heap.size w w' := by
  go_enter Try.func39, Try.ntmps39
  go_wp2_with (with_reducible refine wpList_alloc (o := ⟨some 2, _, _, _, _, _⟩) tyDig rfl rfl ?_)
  intro w1 hk1 hb1 hs1
  have HK1 : Kp _ := ⟨hk1⟩
  have HZ32 : Kp (zero32.length = 32) := ⟨rfl⟩
  clear hk1
  go_wp2_with (with_reducible refine wpList_storeAll (o := ⟨none, _, _, _, _, _⟩) (vs := zero32) rwDig rfl (.tmp 2) (.tmp 6) rfl rfl HK1.out HZ32.out HZ32.out ?_ ?_ ?_)
  · exact cells8_one _
  · rfl
  intro w2 hk2 ho2
  have HK2 : Kp _ := ⟨hk2⟩
  clear hk2
  go_wp2
  exact ret_arr rfl rwDig rfl HK2.out HZ32.out rfl ⟨rfl, hb1.trans (ho2.below (Nat.le_refl _))⟩
end Go.Proofs.Ytjllfaeamjadcaa
