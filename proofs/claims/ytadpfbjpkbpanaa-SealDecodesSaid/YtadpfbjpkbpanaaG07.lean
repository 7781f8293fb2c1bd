/- The contracts of package sha's two Sums.
   Digests told apart, and the sums of nothing, of one piece, of two.
   The contracts of slices.Equal over bytes and over digests.
   The contracts of Same, of the program and of the document. -/
import Derived.Test.YtadpfbjpkbpanaaG06
import Derived.Test.YtadpfbjpkbpanaaG02
import Derived.Test.YtadpfbjpkbpanaaG03
import Derived.Test.YtadpfbjpkbpanaaG04
namespace Go.Proofs.Ytadpfbjpkbpanaa
open Go.RowKit

def StZ : St := ⟨0, 0, 0, 0, 0, 0, 0, 0⟩
def zeroHash : List Value := hashCells StZ (List.replicate 64 0) 0
theorem tyHash : Ty Try.prog 90 zeroHash := ⟨by kernel_rfl⟩
noncomputable def hashDesc : TypeDesc := ((Try.prog).underlying 90).getD (.array 0 0)
theorem rwHash : Rw Try.prog 90 hashDesc 73 := ⟨by kernel_rfl, by kernel_rfl, by kernel_rfl⟩
theorem hash_one (s : St) (buf : List UInt8) (n : Nat) : ∀ v ∈ hashCells s buf n, v.oneCell' = true := by
  intro v hv
  unfold hashCells at hv
  rcases List.mem_append.1 hv with h | h
  · rcases List.mem_append.1 h with h | h
    · exact cells32_one _ _ h
    · exact cells8_one _ _ h
  · simp at h; subst h; rfl
theorem HashIs.grown {w w' : World} {g k : Nat} {M : List UInt8} (h : HashIs w g M) (hg : w.grownBy w' (some k)) (hne : g ≠ k) : HashIs w' g M := by
  obtain ⟨st, buf, hb, hl, hs, ht⟩ := h.is
  exact ⟨st, buf, hb.grown hg hne, hl, hs, ht⟩
theorem HashIs.lt {w : World} {g : Nat} {M : List UInt8} (h : HashIs w g M) : g < w.heap.size := by
  obtain ⟨st, buf, hb, _⟩ := h.is
  exact hb.lt
theorem HashIs.below {w w' : World} {g B : Nat} {M : List UInt8} (h : HashIs w g M) (hb : Below B w w') (hg : g < B) : HashIs w' g M := by
  obtain ⟨st, buf, hk, hl, hs, ht⟩ := h.is
  exact ⟨st, buf, hk.below hb hg, hl, hs, ht⟩
theorem HG.is {w : World} {g : Nat} {M buf : List UInt8} (h : HG w g M buf) : HashIs w g M := ⟨_, buf, h.blk, h.len, fun _ => rfl, h.buf⟩
theorem hash_zero {w : World} {g : Nat} (h : Blk w g 90 zeroHash) : HashIs w g [] := ⟨StZ, List.replicate 64 0, h, rfl, (fun h => absurd h (by simp)), by simp⟩

set_option maxRecDepth 100000 in
set_option maxHeartbeats 4000000 in
theorem sum_any (g : Nat) (M : List UInt8) (w : World) (hh : HashIs w g M) (hn : M.length ≤ 524288) :
    Calls Try.prog 55 #[.pointer (some ⟨g, 0, none⟩)] w fun e w' => e = .returned (.agg (cells8 (shaL M)).toArray) ∧ Below w.heap.size w w' := by
  obtain ⟨st, buf, hb, hl, hs, ht⟩ := hh.is
  have HB : Kp _ := ⟨hb⟩
  have HH : Kp _ := ⟨hh⟩
  have HLen : Kp ((hashCells st buf M.length).length = 73) := ⟨hashCells_length _ _ _ hl⟩
  have HRest : Kp (buf.length = 64 ∧ (0 < M.length → st = foldB M (M.length / 64)) ∧ buf.take (M.length % 64) = M.drop (64 * (M.length / 64))) := ⟨hl, hs, ht⟩
  have HZ : Kp (zeroHash.length = 73) := ⟨rfl⟩
  clear hb hl hs ht hh
  go_enter Try.func55, Try.ntmps55
  go_wp2_with (with_reducible refine wpList_alloc (o := ⟨some 2, _, _, _, _, _⟩) tyDig rfl rfl ?_)
  intro w1 hk1 hb1 hs1
  have HK1 : Kp _ := ⟨hk1⟩
  have HB1 : Kp _ := ⟨HB.out.below hb1 HB.out.lt⟩
  have hgl := HB.out.lt
  clear hk1 HB
  go_wp2_with (first
    | (with_reducible refine wpList_loadAll (o := ⟨some 9, _, _, _, _, _⟩) rwHash rfl (.tmp 8) rfl rfl HB1.out HLen.out ?_)
    | (with_reducible refine wpList_alloc (o := ⟨some 3, _, _, _, _, _⟩) tyHash rfl rfl ?_))
  intro w2 hk2 hb2 hs2
  have HK2 : Kp _ := ⟨hk2⟩
  clear hk2
  go_wp2_with (with_reducible refine wpList_storeAll (o := ⟨none, _, _, _, _, _⟩) (vs := hashCells st buf M.length) rwHash rfl (.tmp 3) (.tmp 9) rfl rfl HK2.out HZ.out HLen.out (hash_one _ _ _) rfl ?_)
  intro w3 hk3 ho3
  have HO3 : Kp (HashIs w3 (w.heap.size + 1) M) := ⟨⟨st, buf, hk3, HRest.out⟩⟩
  have HH3 : Kp _ := ⟨(HB1.out.below hb2 (by omega)).only ho3 (by omega)⟩
  have hc72 : w3.cell? ⟨g, 72, none⟩ = some (.int .u64 (M.length : Int)) := by rw [HH3.out.cell? 72]; exact hash_size_at _ _ _ HRest.out.1
  have HK3 : Kp _ := ⟨(HK1.out.below hb2 (by omega)).only ho3 (by omega)⟩
  have hB3 : Below w.heap.size w w3 := (hb1.trans (hb2.mono (by omega))).trans (ho3.below (by omega))
  have hs3 := ho3.size
  clear hk3 HB1 HK1 HK2 hb1 hb2 ho3 HRest HZ HLen
  go_wp2_with fail
  refine (ending_any M.length _ (by omega)).mono ?_
  rintro e w4 ⟨v4, rfl, hown4, hb4⟩
  obtain ⟨A4, c4, rfl, hbs4⟩ := BsA.of_own (g := w.heap.size + 1) hown4 (by omega)
  have HE4 : Kp _ := ⟨hbs4⟩
  have HO4 : Kp _ := ⟨HO3.out.below hb4 (by omega)⟩
  have hs4 := hb4.size
  have HK4 : Kp _ := ⟨HK3.out.below hb4 (by omega)⟩
  have hB4 : Below w.heap.size w w4 := hB3.trans (hb4.mono (by omega))
  have HEL : Kp (M.length + (ending M.length).length ≤ 1048576) := ⟨by
    have h1 := padded_length M
    rw [padded, List.length_append] at h1
    have := pad_le M.length
    omega⟩
  clear hown4 hbs4 hc72 HO3 HK3 hB3 hb4
  go_wp2_with fail
  refine (tell_any (w.heap.size + 1) M _ 1 1 [ending M.length] _ (HO4.out.below ((Below.refl _ _).alloc (Nat.le_refl _) _) HO4.out.lt) (LsA.one _ HE4.out HO4.out.lt) (by simpa using HEL.out)).mono ?_
  rintro e w5 ⟨rfl, hg5, hgr5⟩
  have hgr45 : w4.grownBy w5 (some (w.heap.size + 1)) := grown_trans (grown_below ((Below.refl _ _).alloc (Nat.le_refl _) _) _) hgr5
  have HG5 : Kp (∃ buf, HG w5 (w.heap.size + 1) (padded M) buf) := ⟨by simpa [padded] using hg5⟩
  have HK5 : Kp _ := ⟨HK4.out.grown hgr45 (by omega)⟩
  have hB5 : Below w.heap.size w w5 := hB4.trans (below_grown hgr45 (by omega) (by omega))
  have hs5 := hgr45.size
  obtain ⟨buf5, hg5'⟩ := HG5.out
  have HB5 : Kp _ := ⟨hg5'.blk⟩
  have H85 : Kp (0 + 8 ≤ (hashCells (foldB (padded M) ((padded M).length / 64)) buf5 (padded M).length).length) := ⟨by rw [hashCells_length _ _ _ hg5'.len]; omega⟩
  have HSh : Kp (shaL M = digestL (foldB (padded M) ((padded M).length / 64))) := ⟨rfl⟩
  have HVS : Kp ((hashCells (foldB (padded M) ((padded M).length / 64)) buf5 (padded M).length).take 8 = cells32 (foldB (padded M) ((padded M).length / 64)).list) := ⟨hash_state_at (foldB (padded M) ((padded M).length / 64)) buf5 (padded M).length⟩
  have HZ32 : Kp (zero32.length = 32) := ⟨rfl⟩
  clear hg5 hgr5 hgr45 HG5 hg5' HK4 HO4 HE4 hB4 HEL
  generalize foldB (padded M) ((padded M).length / 64) = sx at *
  have HD32 : Kp ((cells8 (digestL sx)).length = 32) := ⟨by rw [cells8_length, digestL_length]⟩
  go_wp2_with (with_reducible refine wpList_load (o := ⟨some 18, _, _, _, _, _⟩) rwSt rfl (.tmp 17) rfl rfl HB5.out H85.out ?_)
  rw [HVS.out]
  go_wp2_with fail
  refine (digest_any sx _).mono ?_
  rintro e w6 ⟨rfl, hb6⟩
  have HK6 : Kp _ := ⟨HK5.out.below hb6 (by omega)⟩
  go_wp2_with (with_reducible refine wpList_storeAll (o := ⟨none, _, _, _, _, _⟩) (vs := cells8 (digestL sx)) rwDig rfl (.tmp 2) (.tmp 19) rfl rfl HK6.out HZ32.out HD32.out (cells8_one _) rfl ?_)
  intro w7 hk7 ho7
  have HK7 : Kp _ := ⟨hk7⟩
  clear hk7
  go_wp2
  refine ret_arr rfl rwDig rfl HK7.out HD32.out rfl ⟨by rw [HSh.out], (hB5.trans (hb6.mono (by omega))).trans (ho7.below (by omega))⟩

set_option maxRecDepth 100000 in
set_option maxHeartbeats 1000000 in
theorem sumf_any (A : Option Addr) (n c : Nat) (ls : List (List UInt8)) (w : World) (hl : Ls w w.heap.size A n c ls) (hn : ls.flatten.length ≤ 524288) :
    Calls Try.prog 56 #[.slice A n c] w fun e w' => e = .returned (.agg (cells8 (shaL ls.flatten)).toArray) ∧ Below w.heap.size w w' := by
  have HL : Kp _ := ⟨hl⟩
  clear hl
  go_enter Try.func56, Try.ntmps56
  go_wp2_with (with_reducible refine wpList_alloc (o := ⟨some 2, _, _, _, _, _⟩) tyDig rfl rfl ?_)
  intro w1 hk1 hb1 hs1
  have HK1 : Kp _ := ⟨hk1⟩
  have HL1 : Kp _ := ⟨HL.out.below hb1⟩
  clear hk1 HL
  go_wp2_with (with_reducible refine wpList_alloc (o := ⟨some 3, _, _, _, _, _⟩) tyHash rfl rfl ?_)
  intro w2 hk2 hb2 hs2
  have HH2 : Kp _ := ⟨hash_zero hk2⟩
  have HL2 : Kp (LsA w2 (w.heap.size + 1) A n c ls) := ⟨LsA.of_ls (HL1.out.below (hb2.mono (by omega))) (by omega) (by omega)⟩
  have HK2 : Kp _ := ⟨HK1.out.below hb2 (by omega)⟩
  have hB2 : Below w.heap.size w w2 := hb1.trans (hb2.mono (by omega))
  clear hk2 HK1 HL1 hb1 hb2
  go_wp2_with fail
  refine (tell_any (w.heap.size + 1) [] A n c ls _ HH2.out HL2.out (by simp only [List.length_nil]; omega)).mono ?_
  rintro e w3 ⟨rfl, hg3, hgr3⟩
  have HH3 : Kp (HashIs w3 (w.heap.size + 1) ls.flatten) := ⟨by
    obtain ⟨buf, hg⟩ := hg3
    simpa using hg.is⟩
  have HK3 : Kp _ := ⟨HK2.out.grown hgr3 (by omega)⟩
  have hB3 : Below w.heap.size w w3 := hB2.trans (below_grown hgr3 (by omega) (by omega))
  have hs3 := hgr3.size
  have HZ32 : Kp (zero32.length = 32) := ⟨rfl⟩
  have HD32 : Kp ((cells8 (shaL ls.flatten)).length = 32) := ⟨by rw [cells8_length]; unfold shaL; rw [digestL_length]⟩
  clear hg3 hgr3 HH2 HL2 HK2 hB2
  go_wp2_with fail
  refine (sum_any (w.heap.size + 1) ls.flatten _ HH3.out hn).mono ?_
  rintro e w4 ⟨rfl, hb4⟩
  have HK4 : Kp _ := ⟨HK3.out.below hb4 (by omega)⟩
  generalize hD : shaL ls.flatten = D at *
  have HD : Kp _ := ⟨hD⟩
  clear hD
  go_wp2_with (with_reducible refine wpList_storeAll (o := ⟨none, _, _, _, _, _⟩) (vs := cells8 D) rwDig rfl (.tmp 2) (.tmp 6) rfl rfl HK4.out HZ32.out HD32.out (cells8_one _) rfl ?_)
  intro w5 hk5 ho5
  have HK5 : Kp _ := ⟨hk5⟩
  clear hk5
  go_wp2
  exact ret_arr rfl rwDig rfl HK5.out HD32.out rfl ⟨by rw [HD.out], (hB3.trans (hb4.mono (by omega))).trans (ho5.below (by omega))⟩

/-- of no Hash: noughts -/
theorem sum_nil (w : World) :
    Calls Try.prog 55 #[.pointer none] w fun e w' => e = .returned (.agg (cells8 (List.replicate 32 0)).toArray) ∧ Below w.heap.size w w' := by
  go_enter Try.func55, Try.ntmps55
  go_wp2_with (with_reducible refine wpList_alloc (o := ⟨some 2, _, _, _, _, _⟩) tyDig rfl rfl ?_)
  intro w1 hk1 hb1 hs1
  have HK1 : Kp _ := ⟨hk1⟩
  have HZ32 : Kp (zero32.length = 32) := ⟨rfl⟩
  clear hk1
  go_wp2_with (with_reducible refine wpList_storeAll (o := ⟨none, _, _, _, _, _⟩) (vs := zero32) rwDig rfl (.tmp 2) (.tmp 6) rfl rfl HK1.out HZ32.out HZ32.out ?_ ?_ ?_)
  · exact cells8_one _
  · rfl
  intro w2 hk2 ho2
  have HK2 : Kp _ := ⟨hk2⟩
  clear hk2
  go_wp2
  exact ret_arr rfl rwDig rfl HK2.out HZ32.out rfl ⟨rfl, hb1.trans (ho2.below (Nat.le_refl _))⟩
end Go.Proofs.Ytadpfbjpkbpanaa

namespace Go.Proofs.Ytadpfbjpkbpanaa
open Go.RowKit

theorem eqDig : EqB Try.prog 57 5 32 := ⟨by kernel_rfl, by kernel_rfl, by kernel_rfl⟩
theorem shaL_length (l : List UInt8) : (shaL l).length = 32 := by unfold shaL; rw [digestL_length]
/-- a digest is the same as itself -/
theorem eql_self (D : List UInt8) (hD : D.length = 32) (W : World) : (Op.equalIn 10000 57 (.agg (cells8 D).toArray) (.agg (cells8 D).toArray)).run Try.prog W = .ok true W :=
  (run_equalIn_bytes eqDig W D D hD hD).trans (by rw [beq_self_eq_true])
theorem Ls.next {w0 w1 : World} {B : Nat} {A : Option Addr} {n c : Nat} {ls : List (List UInt8)} (h : Ls w0 B A n c ls) (hb : Below w0.heap.size w0 w1) (hB : B ≤ w0.heap.size) : Ls w1 w1.heap.size A n c ls :=
  (h.below (hb.mono hB)).more (Nat.le_trans hB hb.size)

theorem sumf0 (W : World) :
    Calls Try.prog 56 #[.slice none 0 0] W fun e w' => e = .returned (.agg (cells8 (shaL [])).toArray) ∧ Below W.heap.size W w' :=
  sumf_any none 0 0 [] W (Ls.zero W _) (by simp)
theorem sumf1 (A : Option Addr) (n c : Nat) (la : List UInt8) (W : World) (t : TypeId) (ha : Bs W W.heap.size A n c la) (hn : la.length ≤ 524288) :
    Calls Try.prog 56 #[.slice (some ⟨W.heap.size, 0, none⟩) 1 1] (W.alloc (.cells #[.slice A n c] t)) fun e w' => e = .returned (.agg (cells8 (shaL la)).toArray) ∧ Below W.heap.size W w' := by
  refine (sumf_any _ 1 1 [la] _ ((Ls.one t ha).more (by simp)) (by simpa using hn)).mono ?_
  rintro e w' ⟨rfl, hb⟩
  have e1 : [la].flatten = la := by simp
  rw [e1]
  exact ⟨rfl, ((Below.refl _ _).alloc (Nat.le_refl _) _).trans (hb.mono (by simp))⟩
theorem Ls.one' {W : World} {A : Option Addr} {n c : Nat} {l : List UInt8} (t : TypeId) (h : Bs (W.alloc (.cells #[.slice A n c] t)) (W.alloc (.cells #[.slice A n c] t)).heap.size A n c l) : Ls (W.alloc (.cells #[.slice A n c] t)) (W.alloc (.cells #[.slice A n c] t)).heap.size (some ⟨W.heap.size, 0, none⟩) 1 1 [l] := by
  refine ⟨rfl, Nat.le_refl _, by simp [maxLen], (fun h => by cases h), fun _ => ⟨W.heap.size, 0, rfl, by simp, fun j hj => ?_⟩⟩
  obtain rfl : j = 0 := by simp at hj; omega
  refine ⟨A, n, c, ?_, h⟩
  rw [World.cell?_alloc_at _ _ _ _ rfl]; rfl
theorem sumf1' (A : Option Addr) (n c : Nat) (la : List UInt8) (W : World) (t : TypeId) (ha : Bs (W.alloc (.cells #[.slice A n c] t)) (W.alloc (.cells #[.slice A n c] t)).heap.size A n c la) (hn : la.length ≤ 524288) :
    Calls Try.prog 56 #[.slice (some ⟨W.heap.size, 0, none⟩) 1 1] (W.alloc (.cells #[.slice A n c] t)) fun e w' => e = .returned (.agg (cells8 (shaL la)).toArray) ∧ Below (W.alloc (.cells #[.slice A n c] t)).heap.size (W.alloc (.cells #[.slice A n c] t)) w' := by
  have h := sumf_any _ 1 1 [la] _ (Ls.one' t ha) (by simpa using hn)
  have e1 : [la].flatten = la := by simp
  rw [e1] at h
  exact h
theorem sumf2 (A : Option Addr) (n c : Nat) (la : List UInt8) (B : Option Addr) (m d : Nat) (lb : List UInt8) (W : World) (t : TypeId) (ha : Bs W W.heap.size A n c la) (hb : Bs W W.heap.size B m d lb) (hn : la.length + lb.length ≤ 524288) :
    Calls Try.prog 56 #[.slice (some ⟨W.heap.size, 0, none⟩) 2 2] (W.alloc (.cells #[.slice A n c, .slice B m d] t)) fun e w' => e = .returned (.agg (cells8 (shaL (la ++ lb))).toArray) ∧ Below W.heap.size W w' := by
  refine (sumf_any _ 2 2 [la, lb] _ ((Ls.two t ha hb).more (by simp)) (by simpa using hn)).mono ?_
  rintro e w' ⟨rfl, hb⟩
  have e1 : [la, lb].flatten = la ++ lb := by simp
  rw [e1]
  exact ⟨rfl, ((Below.refl _ _).alloc (Nat.le_refl _) _).trans (hb.mono (by simp))⟩
end Go.Proofs.Ytadpfbjpkbpanaa

namespace Go.Proofs.Ytadpfbjpkbpanaa
open Go.RowKit

theorem take_snoc_eq {α : Type} {xs ys : List α} {k : Nat} (h : xs.take k = ys.take k) (hx : k < xs.length) (hy : k < ys.length) (he : xs[k] = ys[k]) : xs.take (k + 1) = ys.take (k + 1) := by
  rw [List.take_succ_eq_append_getElem hx, List.take_succ_eq_append_getElem hy, h, he]
theorem beq_take {α : Type} [BEq α] [LawfulBEq α] {xs ys : List α} {k : Nat} (h : xs.take k = ys.take k) (hx : xs.length = k) (hy : ys.length = k) : (xs == ys) = true := by
  rw [List.take_of_length_le (by omega), List.take_of_length_le (by omega)] at h
  subst h; simp
theorem beq_at {α : Type} [BEq α] [LawfulBEq α] {xs ys : List α} {k : Nat} (hx : k < xs.length) (hy : k < ys.length) (he : ¬ xs[k] = ys[k]) : (xs == ys) = false := by
  rw [Bool.eq_false_iff]; intro h; have := eq_of_beq h; subst this; exact he rfl
theorem beq_len {α : Type} [BEq α] [LawfulBEq α] {xs ys : List α} (h : xs.length ≠ ys.length) : (xs == ys) = false := by
  rw [Bool.eq_false_iff]; intro h2; have := eq_of_beq h2; subst this; exact h rfl

set_option maxRecDepth 100000 in
set_option maxHeartbeats 1000000 in
theorem equal8_any (A B : Option Addr) (n c m d : Nat) (xs ys : List UInt8) (w : World) (ha : Bs w w.heap.size A n c xs) (hb : Bs w w.heap.size B m d ys) :
    Calls Try.prog 37 #[.slice A n c, .slice B m d] w fun e w' => e = .returned (.bool (xs == ys)) ∧ Below w.heap.size w w' := by
  have hn := ha.le
  have hm := hb.le
  have HA : Kp _ := ⟨ha⟩
  have HB : Kp _ := ⟨hb⟩
  have HX : Kp (xs.length = n) := ⟨ha.len⟩
  have HY : Kp (ys.length = m) := ⟨hb.len⟩
  clear ha hb
  by_cases h : n = m
  · subst h
    go_enter Try.func37, Try.ntmps37
    go_wp2
    go_loopw [5, 13] (fun _ i wr => ∃ k : Nat, k ≤ n ∧ i = .int .i64 k ∧ Kp (xs.take k = ys.take k) ∧ Kp (Below w.heap.size w wr)) (fun _ i _ => n - (intOf i).toNat)
    case atStart => exact ⟨0, Nat.zero_le _, rfl, ⟨by simp⟩, ⟨Below.refl _ _⟩⟩
    case round =>
      obtain ⟨k, hk, rfl, HT, HW⟩ := hrel
      by_cases hlt : k < n
      · have hkx : k < xs.length := by rw [HX.out]; exact hlt
        have hky : k < ys.length := by rw [HY.out]; exact hlt
        obtain ⟨b1, o1, rfl, hl1, hc1⟩ := (HA.out.below HW.out).cell hlt
        obtain ⟨b2, o2, rfl, hl2, hc2⟩ := (HB.out.below HW.out).cell hlt
        clear hl1 hl2
        by_cases he : xs[k] = ys[k]
        · have HT2 : Kp _ := ⟨take_snoc_eq HT.out hkx hky he⟩
          rw [← he] at hc2
          generalize xs[k].toNat = x at *
          clear he HT
          go_wp2_with fail
          refine wp_region_still_lit (by kernel_rfl) (by kernel_rfl) ?_
          repeat still_step
          with_reducible refine wpStill_nil ?_
          change Exit.then _ _ _ _ wr.drew
          go_wp2
          go_roundw
          case rel => exact ⟨k + 1, by omega, by go_num, HT2, ⟨HW.out.drew⟩⟩
          case measure => simp [intOf]; omega
        · have HG : Kp ((xs == ys) = false) := ⟨beq_at hkx hky he⟩
          have hne : ¬ xs[k].toNat = ys[k].toNat := fun h => he (UInt8.toNat_inj.1 h)
          generalize xs[k].toNat = x at *
          generalize ys[k].toNat = y at *
          clear he HT
          go_wp2_with fail
          refine wp_region_still_lit (by kernel_rfl) (by kernel_rfl) ?_
          repeat still_step
          with_reducible refine wpStill_nil ?_
          change Exit.then _ _ _ _ wr.drew
          go_wp2
          go_ret
          exact ⟨ret_eq (by rw [HG.out]; rfl), HW.out.drew⟩
      · obtain rfl : k = n := by omega
        have HG : Kp ((xs == ys) = true) := ⟨beq_take HT.out HX.out HY.out⟩
        go_wp2
        go_ret
        exact ⟨ret_eq (by rw [HG.out]; rfl), HW.out⟩
  · have HG : Kp ((xs == ys) = false) := ⟨beq_len (by rw [HX.out, HY.out]; exact h)⟩
    have hne : ((n : Int) != (m : Int)) = true := by simp; omega
    go_enter Try.func37, Try.ntmps37
    go_wp2
    go_ret
    exact ⟨ret_eq (by rw [HG.out]; rfl), Below.refl _ _⟩

theorem huDig : Try.prog.underlying 57 = some (.array 32 5) := by kernel_rfl
theorem hiDig (l : List UInt8) (h : l.length = 32) : (Try.prog.info? 57).map (·.size) = some (cells8 l).length := by rw [cells8_length, h]; kernel_rfl
theorem cells8_ne {l m : List UInt8} (h : ¬ l = m) : (!(l == m)) = true := by
  rw [Bool.not_eq_true', Bool.eq_false_iff]; intro h2; exact h (eq_of_beq h2)
set_option maxRecDepth 100000 in
set_option maxHeartbeats 2000000 in
theorem equal32_any (A B : Option Addr) (n c m d : Nat) (xs ys : List (List UInt8)) (w : World) (ha : Ds w w.heap.size A n c xs) (hb : Ds w w.heap.size B m d ys) :
    Calls Try.prog 38 #[.slice A n c, .slice B m d] w fun e w' => e = .returned (.bool (xs == ys)) ∧ Below w.heap.size w w' := by
  have hn := ha.le
  have hm := hb.le
  have HA : Kp _ := ⟨ha⟩
  have HB : Kp _ := ⟨hb⟩
  have HX : Kp (xs.length = n) := ⟨ha.len⟩
  have HY : Kp (ys.length = m) := ⟨hb.len⟩
  clear ha hb
  by_cases h : n = m
  · subst h
    go_enter Try.func38, Try.ntmps38
    go_wp2
    go_loopw [5, 13] (fun _ i wr => ∃ k : Nat, k ≤ n ∧ i = .int .i64 k ∧ Kp (xs.take k = ys.take k) ∧ Kp (Below w.heap.size w wr)) (fun _ i _ => n - (intOf i).toNat)
    case atStart => exact ⟨0, Nat.zero_le _, rfl, ⟨by simp⟩, ⟨Below.refl _ _⟩⟩
    case round =>
      obtain ⟨k, hk, rfl, HT, HW⟩ := hrel
      by_cases hlt : k < n
      · have hkx : k < xs.length := by rw [HX.out]; exact hlt
        have hky : k < ys.length := by rw [HY.out]; exact hlt
        obtain ⟨b1, o1, rfl, hl1, hc1, hd1⟩ := (HA.out.below HW.out).at hlt
        obtain ⟨b2, o2, rfl, hl2, hc2, hd2⟩ := (HB.out.below HW.out).at hlt
        have HR1 : Kp _ := ⟨hc1⟩
        have HR2 : Kp _ := ⟨hc2⟩
        have HD1 : Kp _ := ⟨hd1⟩
        have HD2 : Kp _ := ⟨hd2⟩
        have HWs : Kp (w.heap.size ≤ wr.heap.size) := ⟨HW.out.size⟩
        have HL1 : Kp (b1 < w.heap.size) := ⟨hl1⟩
        have HL2 : Kp (b2 < w.heap.size) := ⟨hl2⟩
        clear hl1 hl2 hc1 hc2 hd1 hd2
        by_cases he : xs[k] = ys[k]
        · have HT2 : Kp _ := ⟨take_snoc_eq HT.out hkx hky he⟩
          have HNe : Kp ((!(xs[k] == ys[k])) = false) := ⟨by rw [he]; simp⟩
          generalize xs[k] = x at *
          generalize ys[k] = y at *
          clear he HT
          go_wp2_with fail
          refine wp_region_held_drew (S := fun W => Below wr.heap.size wr W) (by kernel_rfl) ((Below.refl _ _).drew) (fun hHeld => ?_)
          generalize wr.drew = wS at *
          refine wpAnyH_take (i := 0) (oi := ⟨some 16, _, _, _, _, _⟩) (v := ?_) rfl (by kernel_rfl) (by kernel_rfl) (by kernel_rfl) (fun _ _ _ h => h) (Or.inl ⟨by rfl, by intro w hSw; go_simp; try rfl⟩) (by assumption) ?_
          try simp only [Act.put, List.setIfInBounds_toArray, List.set_cons_zero, List.set_cons_succ]
          refine wpAnyH_take (i := 1) (oi := ⟨some 17, _, _, _, _, _⟩) (v := ?_) rfl (by kernel_rfl) (by kernel_rfl) (by kernel_rfl) (fun _ _ _ h => h) (Or.inl ⟨by rfl, by intro w hSw; go_simp; try rfl⟩) (by assumption) ?_
          try simp only [Act.put, List.setIfInBounds_toArray, List.set_cons_zero, List.set_cons_succ]
          refine wpAnyH_take (i := 2) (oi := ⟨some 18, _, _, _, _, _⟩) (v := ?_) rfl (by kernel_rfl) (by kernel_rfl) (by kernel_rfl) (fun _ _ _ h => h) (Or.inl ⟨by rfl, by intro w hSw; go_simp; try rfl⟩) (by assumption) ?_
          try simp only [Act.put, List.setIfInBounds_toArray, List.set_cons_zero, List.set_cons_succ]
          refine wpAnyH_take (i := 3) (oi := ⟨some 19, _, _, _, _, _⟩) (v := _) rfl (by kernel_rfl) (by kernel_rfl) (by kernel_rfl) (fun _ _ _ h => h) (yieldsIf_load_mid (by rfl) _ (.tmp 18) rfl _ _ rfl (cells8 x) _ (fun W hW => range_below HR1.out hW (Nat.lt_of_lt_of_le HL1.out HWs.out)) huDig rfl (hiDig _ HD1.out)) (by assumption) ?_
          try simp only [Act.put, List.setIfInBounds_toArray, List.set_cons_zero, List.set_cons_succ]
          refine wpAnyH_take (i := 4) (oi := ⟨some 20, _, _, _, _, _⟩) (v := ?_) rfl (by kernel_rfl) (by kernel_rfl) (by kernel_rfl) (fun _ _ _ h => h) (Or.inl ⟨by rfl, by intro w hSw; go_simp; try rfl⟩) (by assumption) ?_
          try simp only [Act.put, List.setIfInBounds_toArray, List.set_cons_zero, List.set_cons_succ]
          refine wpAnyH_take (i := 5) (oi := ⟨some 21, _, _, _, _, _⟩) (v := ?_) rfl (by kernel_rfl) (by kernel_rfl) (by kernel_rfl) (fun _ _ _ h => h) (Or.inl ⟨by rfl, by intro w hSw; go_simp; try rfl⟩) (by assumption) ?_
          try simp only [Act.put, List.setIfInBounds_toArray, List.set_cons_zero, List.set_cons_succ]
          refine wpAnyH_take (i := 6) (oi := ⟨some 22, _, _, _, _, _⟩) (v := ?_) rfl (by kernel_rfl) (by kernel_rfl) (by kernel_rfl) (fun _ _ _ h => h) (Or.inl ⟨by rfl, by intro w hSw; go_simp; try rfl⟩) (by assumption) ?_
          try simp only [Act.put, List.setIfInBounds_toArray, List.set_cons_zero, List.set_cons_succ]
          refine wpAnyH_take (i := 7) (oi := ⟨some 23, _, _, _, _, _⟩) (v := _) rfl (by kernel_rfl) (by kernel_rfl) (by kernel_rfl) (fun _ _ _ h => h) (yieldsIf_load_mid (by rfl) _ (.tmp 22) rfl _ _ rfl (cells8 y) _ (fun W hW => range_below HR2.out hW (Nat.lt_of_lt_of_le HL2.out HWs.out)) huDig rfl (hiDig _ HD2.out)) (by assumption) ?_
          try simp only [Act.put, List.setIfInBounds_toArray, List.set_cons_zero, List.set_cons_succ]
          refine wpAnyH_take (i := 8) (oi := ⟨some 24, _, _, _, _, _⟩) (v := _) rfl (by kernel_rfl) (by kernel_rfl) (by kernel_rfl) (fun _ _ _ h => h) (yieldsIf_neq (by rfl) eqDig Try.eqGuardType57 (.tmp 19) (.tmp 23) rfl x y rfl rfl HD1.out HD2.out HNe.out) (by assumption) ?_
          try simp only [Act.put, List.setIfInBounds_toArray, List.set_cons_zero, List.set_cons_succ]
          refine wpAnyH_done (by kernel_rfl) ?_ _
          have HW2 : Kp (Below w.heap.size w wS) := ⟨HW.out.trans (hHeld.mono HW.out.size)⟩
          clear hHeld HW
          go_wp2
          go_roundw
          case rel => exact ⟨k + 1, by omega, by go_num, HT2, HW2⟩
          case measure => simp [intOf]; omega
        · have HG : Kp ((xs == ys) = false) := ⟨beq_at hkx hky he⟩
          have HNe : Kp ((!(xs[k] == ys[k])) = true) := ⟨cells8_ne he⟩
          generalize xs[k] = x at *
          generalize ys[k] = y at *
          clear he HT
          go_wp2_with fail
          refine wp_region_held_drew (S := fun W => Below wr.heap.size wr W) (by kernel_rfl) ((Below.refl _ _).drew) (fun hHeld => ?_)
          generalize wr.drew = wS at *
          refine wpAnyH_take (i := 0) (oi := ⟨some 16, _, _, _, _, _⟩) (v := ?_) rfl (by kernel_rfl) (by kernel_rfl) (by kernel_rfl) (fun _ _ _ h => h) (Or.inl ⟨by rfl, by intro w hSw; go_simp; try rfl⟩) (by assumption) ?_
          try simp only [Act.put, List.setIfInBounds_toArray, List.set_cons_zero, List.set_cons_succ]
          refine wpAnyH_take (i := 1) (oi := ⟨some 17, _, _, _, _, _⟩) (v := ?_) rfl (by kernel_rfl) (by kernel_rfl) (by kernel_rfl) (fun _ _ _ h => h) (Or.inl ⟨by rfl, by intro w hSw; go_simp; try rfl⟩) (by assumption) ?_
          try simp only [Act.put, List.setIfInBounds_toArray, List.set_cons_zero, List.set_cons_succ]
          refine wpAnyH_take (i := 2) (oi := ⟨some 18, _, _, _, _, _⟩) (v := ?_) rfl (by kernel_rfl) (by kernel_rfl) (by kernel_rfl) (fun _ _ _ h => h) (Or.inl ⟨by rfl, by intro w hSw; go_simp; try rfl⟩) (by assumption) ?_
          try simp only [Act.put, List.setIfInBounds_toArray, List.set_cons_zero, List.set_cons_succ]
          refine wpAnyH_take (i := 3) (oi := ⟨some 19, _, _, _, _, _⟩) (v := _) rfl (by kernel_rfl) (by kernel_rfl) (by kernel_rfl) (fun _ _ _ h => h) (yieldsIf_load_mid (by rfl) _ (.tmp 18) rfl _ _ rfl (cells8 x) _ (fun W hW => range_below HR1.out hW (Nat.lt_of_lt_of_le HL1.out HWs.out)) huDig rfl (hiDig _ HD1.out)) (by assumption) ?_
          try simp only [Act.put, List.setIfInBounds_toArray, List.set_cons_zero, List.set_cons_succ]
          refine wpAnyH_take (i := 4) (oi := ⟨some 20, _, _, _, _, _⟩) (v := ?_) rfl (by kernel_rfl) (by kernel_rfl) (by kernel_rfl) (fun _ _ _ h => h) (Or.inl ⟨by rfl, by intro w hSw; go_simp; try rfl⟩) (by assumption) ?_
          try simp only [Act.put, List.setIfInBounds_toArray, List.set_cons_zero, List.set_cons_succ]
          refine wpAnyH_take (i := 5) (oi := ⟨some 21, _, _, _, _, _⟩) (v := ?_) rfl (by kernel_rfl) (by kernel_rfl) (by kernel_rfl) (fun _ _ _ h => h) (Or.inl ⟨by rfl, by intro w hSw; go_simp; try rfl⟩) (by assumption) ?_
          try simp only [Act.put, List.setIfInBounds_toArray, List.set_cons_zero, List.set_cons_succ]
          refine wpAnyH_take (i := 6) (oi := ⟨some 22, _, _, _, _, _⟩) (v := ?_) rfl (by kernel_rfl) (by kernel_rfl) (by kernel_rfl) (fun _ _ _ h => h) (Or.inl ⟨by rfl, by intro w hSw; go_simp; try rfl⟩) (by assumption) ?_
          try simp only [Act.put, List.setIfInBounds_toArray, List.set_cons_zero, List.set_cons_succ]
          refine wpAnyH_take (i := 7) (oi := ⟨some 23, _, _, _, _, _⟩) (v := _) rfl (by kernel_rfl) (by kernel_rfl) (by kernel_rfl) (fun _ _ _ h => h) (yieldsIf_load_mid (by rfl) _ (.tmp 22) rfl _ _ rfl (cells8 y) _ (fun W hW => range_below HR2.out hW (Nat.lt_of_lt_of_le HL2.out HWs.out)) huDig rfl (hiDig _ HD2.out)) (by assumption) ?_
          try simp only [Act.put, List.setIfInBounds_toArray, List.set_cons_zero, List.set_cons_succ]
          refine wpAnyH_take (i := 8) (oi := ⟨some 24, _, _, _, _, _⟩) (v := _) rfl (by kernel_rfl) (by kernel_rfl) (by kernel_rfl) (fun _ _ _ h => h) (yieldsIf_neq (by rfl) eqDig Try.eqGuardType57 (.tmp 19) (.tmp 23) rfl x y rfl rfl HD1.out HD2.out HNe.out) (by assumption) ?_
          try simp only [Act.put, List.setIfInBounds_toArray, List.set_cons_zero, List.set_cons_succ]
          refine wpAnyH_done (by kernel_rfl) ?_ _
          have HW2 : Kp (Below w.heap.size w wS) := ⟨HW.out.trans (hHeld.mono HW.out.size)⟩
          clear hHeld HW
          go_wp2
          go_ret
          exact ⟨ret_eq (by rw [HG.out]; rfl), HW2.out⟩
      · obtain rfl : k = n := by omega
        have HG : Kp ((xs == ys) = true) := ⟨beq_take HT.out HX.out HY.out⟩
        go_wp2
        go_ret
        exact ⟨ret_eq (by rw [HG.out]; rfl), HW.out⟩
  · have HG : Kp ((xs == ys) = false) := ⟨beq_len (by rw [HX.out, HY.out]; exact h)⟩
    have hne : ((n : Int) != (m : Int)) = true := by simp; omega
    go_enter Try.func38, Try.ntmps38
    go_wp2
    go_ret
    exact ⟨ret_eq (by rw [HG.out]; rfl), Below.refl _ _⟩
end Go.Proofs.Ytadpfbjpkbpanaa

namespace Go.Proofs.Ytadpfbjpkbpanaa
open Go.RowKit

def sameB (r q : Rc) : Bool := r.num == q.num && r.blk == q.blk && r.sl == q.sl && r.su == q.su
theorem sameB_iff {r q : Rc} : sameB r q = true ↔ r = q := by
  obtain ⟨a, b, c, d⟩ := r
  obtain ⟨a', b', c', d'⟩ := q
  simp [sameB, and_assoc]
theorem sameB_rfl (r : Rc) : sameB r r = true := sameB_iff.2 rfl
theorem sameB_ne {r q : Rc} (h : r ≠ q) : sameB r q = false := by rw [Bool.eq_false_iff]; exact fun h2 => h (sameB_iff.1 h2)

set_option maxRecDepth 100000 in
set_option maxHeartbeats 2000000 in
theorem samev_any (r q : Rc) (A : Option Addr) (n c : Nat) (D : Option Addr) (m e : Nat) (A' : Option Addr) (n' c' : Nat) (D' : Option Addr) (m' e' : Nat) (w : World) (hR : Rs w w.heap.size A n c D m e r) (hQ : Rs w w.heap.size A' n' c' D' m' e' q) :
    Calls Try.prog 22 #[rcV r A n c D m e, rcV q A' n' c' D' m' e'] w fun x w' => x = .returned (.bool (sameB r q)) ∧ Below w.heap.size w w' := by
  obtain ⟨num, blk, sl, su⟩ := r
  obtain ⟨num', blk', sl', su'⟩ := q
  have HR : Kp _ := ⟨hR⟩
  have HQ : Kp _ := ⟨hQ⟩
  clear hR hQ
  by_cases h0 : num = num'
  · subst h0
    by_cases h1 : blk = blk'
    · subst h1
      go_enter Try.func22, Try.ntmps22
      go_wp2_with (with_reducible refine wpList_box (o := ⟨some 2, _, _, _, _, _⟩) (cs := rcL num blk A n c D m e) rfl (.tmp 0) rfl rfl ?_)
      intro w1 hk1 hb1 hs1
      have HK1 : Kp _ := ⟨hk1⟩
      have HB1 : Kp _ := ⟨hb1⟩
      have HS1 : Kp _ := ⟨hs1⟩
      clear hk1 hb1 hs1
      go_wp2_with (with_reducible refine wpList_box (o := ⟨some 3, _, _, _, _, _⟩) (cs := rcL num blk A' n' c' D' m' e') rfl (.tmp 1) rfl rfl ?_)
      intro w2 hk2 hb2 hs2
      have HK2 : Kp _ := ⟨hk2⟩
      have HB2 : Kp (Below w.heap.size w w2) := ⟨HB1.out.trans (hb2.mono HB1.out.size)⟩
      have HKa : Kp (Blk w2 w.heap.size 26 (rcL num blk A n c D m e)) := ⟨HK1.out.below hb2 HK1.out.lt⟩
      have HZa : Kp (w.heap.size < w2.heap.size ∧ w1.heap.size < w2.heap.size) := ⟨Nat.lt_of_lt_of_le HK1.out.lt hb2.size, HK2.out.lt⟩
      clear hk2 hb2 hs2 HK1
      have a0 : w2.cell? ⟨w.heap.size, 0, none⟩ = some (.int .u64 num) := HKa.out.cell? 0
      have b0 : w2.cell? ⟨w1.heap.size, 0, none⟩ = some (.int .u64 num) := HK2.out.cell? 0
      have a1 : w2.cell? ⟨w.heap.size, 1, none⟩ = some (.int .i64 blk) := HKa.out.cell? 1
      have b1 : w2.cell? ⟨w1.heap.size, 1, none⟩ = some (.int .i64 blk) := HK2.out.cell? 1
      have a2 : w2.cell? ⟨w.heap.size, 2, none⟩ = some (.slice A n c) := HKa.out.cell? 2
      have b2 : w2.cell? ⟨w1.heap.size, 2, none⟩ = some (.slice A' n' c') := HK2.out.cell? 2
      have HA2 : Kp (Bs w2 w2.heap.size A n c sl) := ⟨(HR.out.sl.below HB2.out).more HB2.out.size⟩
      have HA2' : Kp (Bs w2 w2.heap.size A' n' c' sl') := ⟨(HQ.out.sl.below HB2.out).more HB2.out.size⟩
      go_wp2_with fail
      refine (equal8_any A A' n c n' c' sl sl' w2 HA2.out HA2'.out).mono ?_
      rintro x w3 ⟨rfl, hb3⟩
      have HB3 : Kp (Below w.heap.size w w3) := ⟨HB2.out.trans (hb3.mono HB2.out.size)⟩
      have HK3 : Kp _ := ⟨HKa.out.below hb3 HZa.out.1⟩
      have HK3' : Kp _ := ⟨HK2.out.below hb3 HZa.out.2⟩
      have HES : Kp (sameB ⟨num, blk, sl, su⟩ ⟨num, blk, sl', su'⟩ = (sl == sl' && su == su')) := ⟨by simp [sameB]⟩
      clear hb3 a0 b0 a1 b1 a2 b2
      generalize (sl == sl') = s8 at *
      cases s8
      · go_wp2
        go_ret
        exact ⟨ret_eq (by rw [HES.out]; rfl), HB3.out⟩
      · have a3 : w3.cell? ⟨w.heap.size, 3, none⟩ = some (.slice D m e) := HK3.out.cell? 3
        have b3 : w3.cell? ⟨w1.heap.size, 3, none⟩ = some (.slice D' m' e') := HK3'.out.cell? 3
        have HD3 : Kp (Ds w3 w3.heap.size D m e su) := ⟨(HR.out.su.below HB3.out).more HB3.out.size⟩
        have HD3' : Kp (Ds w3 w3.heap.size D' m' e' su') := ⟨(HQ.out.su.below HB3.out).more HB3.out.size⟩
        go_wp2_with fail
        refine (equal32_any D D' m e m' e' su su' w3 HD3.out HD3'.out).mono ?_
        rintro x w4 ⟨rfl, hb4⟩
        have HB4 : Kp (Below w.heap.size w w4) := ⟨HB3.out.trans (hb4.mono HB3.out.size)⟩
        clear hb4
        generalize (su == su') = s32 at *
        go_wp2
        go_ret
        exact ⟨ret_eq (by rw [HES.out]; rfl), HB4.out⟩
    · have HG : Kp (sameB ⟨num, blk, sl, su⟩ ⟨num, blk', sl', su'⟩ = false) := ⟨sameB_ne (by intro h; injection h; contradiction)⟩
      have h1' : (blk == blk') = false := by simp [h1]
      go_enter Try.func22, Try.ntmps22
      go_wp2_with (with_reducible refine wpList_box (o := ⟨some 2, _, _, _, _, _⟩) (cs := rcL num blk A n c D m e) rfl (.tmp 0) rfl rfl ?_)
      intro w1 hk1 hb1 hs1
      have HK1 : Kp _ := ⟨hk1⟩
      have HB1 : Kp _ := ⟨hb1⟩
      have HS1 : Kp _ := ⟨hs1⟩
      clear hk1 hb1 hs1
      go_wp2_with (with_reducible refine wpList_box (o := ⟨some 3, _, _, _, _, _⟩) (cs := rcL num blk' A' n' c' D' m' e') rfl (.tmp 1) rfl rfl ?_)
      intro w2 hk2 hb2 hs2
      have HK2 : Kp _ := ⟨hk2⟩
      have HB2 : Kp (Below w.heap.size w w2) := ⟨HB1.out.trans (hb2.mono HB1.out.size)⟩
      have HKa : Kp (Blk w2 w.heap.size 26 (rcL num blk A n c D m e)) := ⟨HK1.out.below hb2 HK1.out.lt⟩
      have HZa : Kp (w.heap.size < w2.heap.size ∧ w1.heap.size < w2.heap.size) := ⟨Nat.lt_of_lt_of_le HK1.out.lt hb2.size, HK2.out.lt⟩
      clear hk2 hb2 hs2 HK1
      have a0 : w2.cell? ⟨w.heap.size, 0, none⟩ = some (.int .u64 num) := HKa.out.cell? 0
      have b0 : w2.cell? ⟨w1.heap.size, 0, none⟩ = some (.int .u64 num) := HK2.out.cell? 0
      have a1 : w2.cell? ⟨w.heap.size, 1, none⟩ = some (.int .i64 blk) := HKa.out.cell? 1
      have b1 : w2.cell? ⟨w1.heap.size, 1, none⟩ = some (.int .i64 blk') := HK2.out.cell? 1
      go_wp2
      go_ret
      exact ⟨ret_eq (by rw [HG.out]; rfl), HB2.out⟩
  · have HG : Kp (sameB ⟨num, blk, sl, su⟩ ⟨num', blk', sl', su'⟩ = false) := ⟨sameB_ne (by intro h; injection h; contradiction)⟩
    have h0' : ((num : Int) == (num' : Int)) = false := by simp; omega
    go_enter Try.func22, Try.ntmps22
    go_wp2_with (with_reducible refine wpList_box (o := ⟨some 2, _, _, _, _, _⟩) (cs := rcL num blk A n c D m e) rfl (.tmp 0) rfl rfl ?_)
    intro w1 hk1 hb1 hs1
    have HK1 : Kp _ := ⟨hk1⟩
    have HB1 : Kp _ := ⟨hb1⟩
    have HS1 : Kp _ := ⟨hs1⟩
    clear hk1 hb1 hs1
    go_wp2_with (with_reducible refine wpList_box (o := ⟨some 3, _, _, _, _, _⟩) (cs := rcL num' blk' A' n' c' D' m' e') rfl (.tmp 1) rfl rfl ?_)
    intro w2 hk2 hb2 hs2
    have HK2 : Kp _ := ⟨hk2⟩
    have HB2 : Kp (Below w.heap.size w w2) := ⟨HB1.out.trans (hb2.mono HB1.out.size)⟩
    have HKa : Kp (Blk w2 w.heap.size 26 (rcL num blk A n c D m e)) := ⟨HK1.out.below hb2 HK1.out.lt⟩
    have HZa : Kp (w.heap.size < w2.heap.size ∧ w1.heap.size < w2.heap.size) := ⟨Nat.lt_of_lt_of_le HK1.out.lt hb2.size, HK2.out.lt⟩
    clear hk2 hb2 hs2 HK1
    have a0 : w2.cell? ⟨w.heap.size, 0, none⟩ = some (.int .u64 num) := HKa.out.cell? 0
    have b0 : w2.cell? ⟨w1.heap.size, 0, none⟩ = some (.int .u64 num') := HK2.out.cell? 0
    go_wp2
    go_ret
    exact ⟨ret_eq (by rw [HG.out]; rfl), HB2.out⟩

set_option maxRecDepth 100000 in
set_option maxHeartbeats 2000000 in
theorem refsamev_any (r q : Rc) (A : Option Addr) (n c : Nat) (D : Option Addr) (m e : Nat) (A' : Option Addr) (n' c' : Nat) (D' : Option Addr) (m' e' : Nat) (w : World) (hR : Rs w w.heap.size A n c D m e r) (hQ : Rs w w.heap.size A' n' c' D' m' e' q) :
    Calls Try.prog 19 #[rcV r A n c D m e, rcV q A' n' c' D' m' e'] w fun x w' => x = .returned (.bool (sameB r q)) ∧ Below w.heap.size w w' := by
  obtain ⟨num, blk, sl, su⟩ := r
  obtain ⟨num', blk', sl', su'⟩ := q
  have HR : Kp _ := ⟨hR⟩
  have HQ : Kp _ := ⟨hQ⟩
  clear hR hQ
  by_cases h0 : num = num'
  · subst h0
    by_cases h1 : blk = blk'
    · subst h1
      by_cases h2 : sl = sl'
      · subst h2
        by_cases h3 : m = m'
        · subst h3
          go_enter Try.func19, Try.ntmps19
          go_wp2_with (with_reducible refine wpList_box (o := ⟨some 2, _, _, _, _, _⟩) (cs := rcL num blk A n c D m e) rfl (.tmp 0) rfl rfl ?_)
          intro w1 hk1 hb1 hs1
          have HK1 : Kp _ := ⟨hk1⟩
          have HB1 : Kp _ := ⟨hb1⟩
          have HS1 : Kp _ := ⟨hs1⟩
          clear hk1 hb1 hs1
          go_wp2_with (with_reducible refine wpList_box (o := ⟨some 3, _, _, _, _, _⟩) (cs := rcL num blk A' n' c' D' m e') rfl (.tmp 1) rfl rfl ?_)
          intro w2 hk2 hb2 hs2
          have HK2 : Kp _ := ⟨hk2⟩
          have HB2 : Kp (Below w.heap.size w w2) := ⟨HB1.out.trans (hb2.mono HB1.out.size)⟩
          have HKa : Kp (Blk w2 w.heap.size 26 (rcL num blk A n c D m e)) := ⟨HK1.out.below hb2 HK1.out.lt⟩
          have HZa : Kp (w.heap.size < w2.heap.size ∧ w1.heap.size < w2.heap.size) := ⟨Nat.lt_of_lt_of_le HK1.out.lt hb2.size, HK2.out.lt⟩
          clear hk2 hb2 hs2 HK1
          have a0 : w2.cell? ⟨w.heap.size, 0, none⟩ = some (.int .u64 num) := HKa.out.cell? 0
          have b0 : w2.cell? ⟨w1.heap.size, 0, none⟩ = some (.int .u64 num) := HK2.out.cell? 0
          have a1 : w2.cell? ⟨w.heap.size, 1, none⟩ = some (.int .i64 blk) := HKa.out.cell? 1
          have b1 : w2.cell? ⟨w1.heap.size, 1, none⟩ = some (.int .i64 blk) := HK2.out.cell? 1
          have a2 : w2.cell? ⟨w.heap.size, 2, none⟩ = some (.slice A n c) := HKa.out.cell? 2
          have b2 : w2.cell? ⟨w1.heap.size, 2, none⟩ = some (.slice A' n' c') := HK2.out.cell? 2
          have a3 : w2.cell? ⟨w.heap.size, 3, none⟩ = some (.slice D m e) := HKa.out.cell? 3
          have b3 : w2.cell? ⟨w1.heap.size, 3, none⟩ = some (.slice D' m e') := HK2.out.cell? 3
          have t1 := ((HR.out.sl).below HB2.out).text Try.underlying22 Try.underlying5 Try.underlying9
          have t2 := ((HQ.out.sl).below HB2.out).text Try.underlying22 Try.underlying5 Try.underlying9
          have HA : Kp (Ds w2 w.heap.size D m e su) := ⟨HR.out.su.below HB2.out⟩
          have HB : Kp (Ds w2 w.heap.size D' m e' su') := ⟨HQ.out.su.below HB2.out⟩
          have hm := HR.out.su.le
          have HX : Kp (su.length = m) := ⟨HR.out.su.len⟩
          have HY : Kp (su'.length = m) := ⟨HQ.out.su.len⟩
          have HES : Kp (sameB ⟨num, blk, sl, su⟩ ⟨num, blk, sl, su'⟩ = (su == su')) := ⟨by simp [sameB]⟩
          go_wp2
          clear a0 b0 a1 b1 a2 b2 t1 t2
          go_loopw [5] (fun i wr => ∃ k : Nat, k ≤ m ∧ i = .int .i64 k ∧ Kp (su.take k = su'.take k) ∧ Kp (Below w2.heap.size w2 wr)) (fun i _ => m - (intOf i).toNat)
          case atStart => exact ⟨0, Nat.zero_le _, rfl, ⟨by simp⟩, ⟨Below.refl _ _⟩⟩
          case round =>
            obtain ⟨k, hk, rfl, HT, HW⟩ := hrel
            have HKr : Kp _ := ⟨HKa.out.below HW.out HZa.out.1⟩
            have HKr' : Kp _ := ⟨HK2.out.below HW.out HZa.out.2⟩
            have a3 : wr.cell? ⟨w.heap.size, 3, none⟩ = some (.slice D m e) := HKr.out.cell? 3
            have b3 : wr.cell? ⟨w1.heap.size, 3, none⟩ = some (.slice D' m e') := HKr'.out.cell? 3
            have HBr : Kp (Below w.heap.size w wr) := ⟨HB2.out.trans (HW.out.mono HB2.out.size)⟩
            by_cases hlt : k < m
            · have hkx : k < su.length := by rw [HX.out]; exact hlt
              have hky : k < su'.length := by rw [HY.out]; exact hlt
              obtain ⟨b1, o1, rfl, hl1, hc1, hd1⟩ := (HA.out.below (HW.out.mono HB2.out.size)).at hlt
              obtain ⟨b2, o2, rfl, hl2, hc2, hd2⟩ := (HB.out.below (HW.out.mono HB2.out.size)).at hlt
              have HR1 : Kp _ := ⟨hc1⟩
              have HR2 : Kp _ := ⟨hc2⟩
              have HD1 : Kp _ := ⟨hd1⟩
              have HD2 : Kp _ := ⟨hd2⟩
              have HWs : Kp (w.heap.size ≤ wr.heap.size) := ⟨HBr.out.size⟩
              have HL1 : Kp (b1 < w.heap.size) := ⟨hl1⟩
              have HL2 : Kp (b2 < w.heap.size) := ⟨hl2⟩
              have HZr : Kp (w.heap.size < wr.heap.size ∧ w1.heap.size < wr.heap.size) := ⟨HKr.out.lt, HKr'.out.lt⟩
              clear hl1 hl2 hc1 hc2 hd1 hd2
              by_cases he : su[k] = su'[k]
              · have HT2 : Kp _ := ⟨take_snoc_eq HT.out hkx hky he⟩
                have HNe : Kp ((!(su[k] == su'[k])) = false) := ⟨by rw [he]; simp⟩
                generalize su[k] = x at *
                generalize su'[k] = y at *
                clear he HT
                go_wp2_with fail
                refine wp_region_held_drew (S := fun W => Below wr.heap.size wr W) (by kernel_rfl) ((Below.refl _ _).drew) (fun hHeld => ?_)
                generalize wr.drew = wS at *
                refine wpAnyH_take (i := 0) (oi := ⟨some 43, _, _, _, _, _⟩) (v := ?_) rfl (by kernel_rfl) (by kernel_rfl) (by kernel_rfl) (fun _ _ _ h => h) (Or.inl ⟨by rfl, by intro w hSw; go_simp; try rfl⟩) (by assumption) ?_
                try simp only [Act.put, List.setIfInBounds_toArray, List.set_cons_zero, List.set_cons_succ]
                refine wpAnyH_take (i := 1) (oi := ⟨some 44, _, _, _, _, _⟩) (v := _) rfl (by kernel_rfl) (by kernel_rfl) (by kernel_rfl) (fun _ _ _ h => h) (Or.inl ⟨by rfl, fun W hW => by have ce := (hW.cell (p := ⟨w.heap.size, 3, none⟩) HZr.out.1).trans a3; go_simp; rfl⟩) (by assumption) ?_
                try simp only [Act.put, List.setIfInBounds_toArray, List.set_cons_zero, List.set_cons_succ]
                refine wpAnyH_take (i := 2) (oi := ⟨some 45, _, _, _, _, _⟩) (v := ?_) rfl (by kernel_rfl) (by kernel_rfl) (by kernel_rfl) (fun _ _ _ h => h) (Or.inl ⟨by rfl, by intro w hSw; go_simp; try rfl⟩) (by assumption) ?_
                try simp only [Act.put, List.setIfInBounds_toArray, List.set_cons_zero, List.set_cons_succ]
                refine wpAnyH_take (i := 3) (oi := ⟨some 46, _, _, _, _, _⟩) (v := ?_) rfl (by kernel_rfl) (by kernel_rfl) (by kernel_rfl) (fun _ _ _ h => h) (Or.inl ⟨by rfl, by intro w hSw; go_simp; try rfl⟩) (by assumption) ?_
                try simp only [Act.put, List.setIfInBounds_toArray, List.set_cons_zero, List.set_cons_succ]
                refine wpAnyH_take (i := 4) (oi := ⟨some 47, _, _, _, _, _⟩) (v := _) rfl (by kernel_rfl) (by kernel_rfl) (by kernel_rfl) (fun _ _ _ h => h) (yieldsIf_load_mid (by rfl) _ (.tmp 46) rfl _ _ rfl (cells8 x) _ (fun W hW => range_below HR1.out hW (Nat.lt_of_lt_of_le HL1.out HWs.out)) huDig rfl (hiDig _ HD1.out)) (by assumption) ?_
                try simp only [Act.put, List.setIfInBounds_toArray, List.set_cons_zero, List.set_cons_succ]
                refine wpAnyH_take (i := 5) (oi := ⟨some 48, _, _, _, _, _⟩) (v := ?_) rfl (by kernel_rfl) (by kernel_rfl) (by kernel_rfl) (fun _ _ _ h => h) (Or.inl ⟨by rfl, by intro w hSw; go_simp; try rfl⟩) (by assumption) ?_
                try simp only [Act.put, List.setIfInBounds_toArray, List.set_cons_zero, List.set_cons_succ]
                refine wpAnyH_take (i := 6) (oi := ⟨some 49, _, _, _, _, _⟩) (v := _) rfl (by kernel_rfl) (by kernel_rfl) (by kernel_rfl) (fun _ _ _ h => h) (Or.inl ⟨by rfl, fun W hW => by have ce := (hW.cell (p := ⟨w1.heap.size, 3, none⟩) HZr.out.2).trans b3; go_simp; rfl⟩) (by assumption) ?_
                try simp only [Act.put, List.setIfInBounds_toArray, List.set_cons_zero, List.set_cons_succ]
                refine wpAnyH_take (i := 7) (oi := ⟨some 50, _, _, _, _, _⟩) (v := ?_) rfl (by kernel_rfl) (by kernel_rfl) (by kernel_rfl) (fun _ _ _ h => h) (Or.inl ⟨by rfl, by intro w hSw; go_simp; try rfl⟩) (by assumption) ?_
                try simp only [Act.put, List.setIfInBounds_toArray, List.set_cons_zero, List.set_cons_succ]
                refine wpAnyH_take (i := 8) (oi := ⟨some 51, _, _, _, _, _⟩) (v := ?_) rfl (by kernel_rfl) (by kernel_rfl) (by kernel_rfl) (fun _ _ _ h => h) (Or.inl ⟨by rfl, by intro w hSw; go_simp; try rfl⟩) (by assumption) ?_
                try simp only [Act.put, List.setIfInBounds_toArray, List.set_cons_zero, List.set_cons_succ]
                refine wpAnyH_take (i := 9) (oi := ⟨some 52, _, _, _, _, _⟩) (v := _) rfl (by kernel_rfl) (by kernel_rfl) (by kernel_rfl) (fun _ _ _ h => h) (yieldsIf_load_mid (by rfl) _ (.tmp 51) rfl _ _ rfl (cells8 y) _ (fun W hW => range_below HR2.out hW (Nat.lt_of_lt_of_le HL2.out HWs.out)) huDig rfl (hiDig _ HD2.out)) (by assumption) ?_
                try simp only [Act.put, List.setIfInBounds_toArray, List.set_cons_zero, List.set_cons_succ]
                refine wpAnyH_take (i := 10) (oi := ⟨some 53, _, _, _, _, _⟩) (v := _) rfl (by kernel_rfl) (by kernel_rfl) (by kernel_rfl) (fun _ _ _ h => h) (yieldsIf_neq (by rfl) eqDig Try.eqGuardType57 (.tmp 47) (.tmp 52) rfl x y rfl rfl HD1.out HD2.out HNe.out) (by assumption) ?_
                try simp only [Act.put, List.setIfInBounds_toArray, List.set_cons_zero, List.set_cons_succ]
                refine wpAnyH_done (by kernel_rfl) ?_ _
                have HW2 : Kp (Below w2.heap.size w2 wS) := ⟨HW.out.trans (hHeld.mono HW.out.size)⟩
                have HBe : Kp (Below w.heap.size w wS) := ⟨HB2.out.trans (HW2.out.mono HB2.out.size)⟩
                clear hHeld HW a3 b3
                go_wp2
                go_roundw
                case rel => exact ⟨k + 1, by omega, by go_num, HT2, HW2⟩
                case measure => simp [intOf]; omega
              · have HG : Kp ((su == su') = false) := ⟨beq_at hkx hky he⟩
                have HNe : Kp ((!(su[k] == su'[k])) = true) := ⟨cells8_ne he⟩
                generalize su[k] = x at *
                generalize su'[k] = y at *
                clear he HT
                go_wp2_with fail
                refine wp_region_held_drew (S := fun W => Below wr.heap.size wr W) (by kernel_rfl) ((Below.refl _ _).drew) (fun hHeld => ?_)
                generalize wr.drew = wS at *
                refine wpAnyH_take (i := 0) (oi := ⟨some 43, _, _, _, _, _⟩) (v := ?_) rfl (by kernel_rfl) (by kernel_rfl) (by kernel_rfl) (fun _ _ _ h => h) (Or.inl ⟨by rfl, by intro w hSw; go_simp; try rfl⟩) (by assumption) ?_
                try simp only [Act.put, List.setIfInBounds_toArray, List.set_cons_zero, List.set_cons_succ]
                refine wpAnyH_take (i := 1) (oi := ⟨some 44, _, _, _, _, _⟩) (v := _) rfl (by kernel_rfl) (by kernel_rfl) (by kernel_rfl) (fun _ _ _ h => h) (Or.inl ⟨by rfl, fun W hW => by have ce := (hW.cell (p := ⟨w.heap.size, 3, none⟩) HZr.out.1).trans a3; go_simp; rfl⟩) (by assumption) ?_
                try simp only [Act.put, List.setIfInBounds_toArray, List.set_cons_zero, List.set_cons_succ]
                refine wpAnyH_take (i := 2) (oi := ⟨some 45, _, _, _, _, _⟩) (v := ?_) rfl (by kernel_rfl) (by kernel_rfl) (by kernel_rfl) (fun _ _ _ h => h) (Or.inl ⟨by rfl, by intro w hSw; go_simp; try rfl⟩) (by assumption) ?_
                try simp only [Act.put, List.setIfInBounds_toArray, List.set_cons_zero, List.set_cons_succ]
                refine wpAnyH_take (i := 3) (oi := ⟨some 46, _, _, _, _, _⟩) (v := ?_) rfl (by kernel_rfl) (by kernel_rfl) (by kernel_rfl) (fun _ _ _ h => h) (Or.inl ⟨by rfl, by intro w hSw; go_simp; try rfl⟩) (by assumption) ?_
                try simp only [Act.put, List.setIfInBounds_toArray, List.set_cons_zero, List.set_cons_succ]
                refine wpAnyH_take (i := 4) (oi := ⟨some 47, _, _, _, _, _⟩) (v := _) rfl (by kernel_rfl) (by kernel_rfl) (by kernel_rfl) (fun _ _ _ h => h) (yieldsIf_load_mid (by rfl) _ (.tmp 46) rfl _ _ rfl (cells8 x) _ (fun W hW => range_below HR1.out hW (Nat.lt_of_lt_of_le HL1.out HWs.out)) huDig rfl (hiDig _ HD1.out)) (by assumption) ?_
                try simp only [Act.put, List.setIfInBounds_toArray, List.set_cons_zero, List.set_cons_succ]
                refine wpAnyH_take (i := 5) (oi := ⟨some 48, _, _, _, _, _⟩) (v := ?_) rfl (by kernel_rfl) (by kernel_rfl) (by kernel_rfl) (fun _ _ _ h => h) (Or.inl ⟨by rfl, by intro w hSw; go_simp; try rfl⟩) (by assumption) ?_
                try simp only [Act.put, List.setIfInBounds_toArray, List.set_cons_zero, List.set_cons_succ]
                refine wpAnyH_take (i := 6) (oi := ⟨some 49, _, _, _, _, _⟩) (v := _) rfl (by kernel_rfl) (by kernel_rfl) (by kernel_rfl) (fun _ _ _ h => h) (Or.inl ⟨by rfl, fun W hW => by have ce := (hW.cell (p := ⟨w1.heap.size, 3, none⟩) HZr.out.2).trans b3; go_simp; rfl⟩) (by assumption) ?_
                try simp only [Act.put, List.setIfInBounds_toArray, List.set_cons_zero, List.set_cons_succ]
                refine wpAnyH_take (i := 7) (oi := ⟨some 50, _, _, _, _, _⟩) (v := ?_) rfl (by kernel_rfl) (by kernel_rfl) (by kernel_rfl) (fun _ _ _ h => h) (Or.inl ⟨by rfl, by intro w hSw; go_simp; try rfl⟩) (by assumption) ?_
                try simp only [Act.put, List.setIfInBounds_toArray, List.set_cons_zero, List.set_cons_succ]
                refine wpAnyH_take (i := 8) (oi := ⟨some 51, _, _, _, _, _⟩) (v := ?_) rfl (by kernel_rfl) (by kernel_rfl) (by kernel_rfl) (fun _ _ _ h => h) (Or.inl ⟨by rfl, by intro w hSw; go_simp; try rfl⟩) (by assumption) ?_
                try simp only [Act.put, List.setIfInBounds_toArray, List.set_cons_zero, List.set_cons_succ]
                refine wpAnyH_take (i := 9) (oi := ⟨some 52, _, _, _, _, _⟩) (v := _) rfl (by kernel_rfl) (by kernel_rfl) (by kernel_rfl) (fun _ _ _ h => h) (yieldsIf_load_mid (by rfl) _ (.tmp 51) rfl _ _ rfl (cells8 y) _ (fun W hW => range_below HR2.out hW (Nat.lt_of_lt_of_le HL2.out HWs.out)) huDig rfl (hiDig _ HD2.out)) (by assumption) ?_
                try simp only [Act.put, List.setIfInBounds_toArray, List.set_cons_zero, List.set_cons_succ]
                refine wpAnyH_take (i := 10) (oi := ⟨some 53, _, _, _, _, _⟩) (v := _) rfl (by kernel_rfl) (by kernel_rfl) (by kernel_rfl) (fun _ _ _ h => h) (yieldsIf_neq (by rfl) eqDig Try.eqGuardType57 (.tmp 47) (.tmp 52) rfl x y rfl rfl HD1.out HD2.out HNe.out) (by assumption) ?_
                try simp only [Act.put, List.setIfInBounds_toArray, List.set_cons_zero, List.set_cons_succ]
                refine wpAnyH_done (by kernel_rfl) ?_ _
                have HW2 : Kp (Below w2.heap.size w2 wS) := ⟨HW.out.trans (hHeld.mono HW.out.size)⟩
                have HBe : Kp (Below w.heap.size w wS) := ⟨HB2.out.trans (HW2.out.mono HB2.out.size)⟩
                clear hHeld HW a3 b3
                go_wp2
                go_ret
                exact ⟨ret_eq (by rw [HES.out, HG.out]; rfl), HBe.out⟩
            · have HI : Kp (k = m) := ⟨by omega⟩
              have hge : ¬ ((k : Int) < (m : Int)) := by omega
              have HG : Kp ((su == su') = true) := ⟨beq_take HT.out (by rw [HX.out, HI.out]) (by rw [HY.out, HI.out])⟩
              go_wp2
              go_ret
              exact ⟨ret_eq (by rw [HES.out, HG.out]; rfl), HBr.out⟩
        · have HG : Kp (sameB ⟨num, blk, sl, su⟩ ⟨num, blk, sl, su'⟩ = false) := ⟨sameB_ne (by intro h; injection h with _ _ _ h9; have h7 := HR.out.su.len; have h8 := HQ.out.su.len; simp only at h7 h8; rw [← h9] at h8; omega)⟩
          have h3' : ((m : Int) != (m' : Int)) = true := by simp; omega
          go_enter Try.func19, Try.ntmps19
          go_wp2_with (with_reducible refine wpList_box (o := ⟨some 2, _, _, _, _, _⟩) (cs := rcL num blk A n c D m e) rfl (.tmp 0) rfl rfl ?_)
          intro w1 hk1 hb1 hs1
          have HK1 : Kp _ := ⟨hk1⟩
          have HB1 : Kp _ := ⟨hb1⟩
          have HS1 : Kp _ := ⟨hs1⟩
          clear hk1 hb1 hs1
          go_wp2_with (with_reducible refine wpList_box (o := ⟨some 3, _, _, _, _, _⟩) (cs := rcL num blk A' n' c' D' m' e') rfl (.tmp 1) rfl rfl ?_)
          intro w2 hk2 hb2 hs2
          have HK2 : Kp _ := ⟨hk2⟩
          have HB2 : Kp (Below w.heap.size w w2) := ⟨HB1.out.trans (hb2.mono HB1.out.size)⟩
          have HKa : Kp (Blk w2 w.heap.size 26 (rcL num blk A n c D m e)) := ⟨HK1.out.below hb2 HK1.out.lt⟩
          have HZa : Kp (w.heap.size < w2.heap.size ∧ w1.heap.size < w2.heap.size) := ⟨Nat.lt_of_lt_of_le HK1.out.lt hb2.size, HK2.out.lt⟩
          clear hk2 hb2 hs2 HK1
          have a0 : w2.cell? ⟨w.heap.size, 0, none⟩ = some (.int .u64 num) := HKa.out.cell? 0
          have b0 : w2.cell? ⟨w1.heap.size, 0, none⟩ = some (.int .u64 num) := HK2.out.cell? 0
          have a1 : w2.cell? ⟨w.heap.size, 1, none⟩ = some (.int .i64 blk) := HKa.out.cell? 1
          have b1 : w2.cell? ⟨w1.heap.size, 1, none⟩ = some (.int .i64 blk) := HK2.out.cell? 1
          have a2 : w2.cell? ⟨w.heap.size, 2, none⟩ = some (.slice A n c) := HKa.out.cell? 2
          have b2 : w2.cell? ⟨w1.heap.size, 2, none⟩ = some (.slice A' n' c') := HK2.out.cell? 2
          have a3 : w2.cell? ⟨w.heap.size, 3, none⟩ = some (.slice D m e) := HKa.out.cell? 3
          have b3 : w2.cell? ⟨w1.heap.size, 3, none⟩ = some (.slice D' m' e') := HK2.out.cell? 3
          have t1 := ((HR.out.sl).below HB2.out).text Try.underlying22 Try.underlying5 Try.underlying9
          have t2 := ((HQ.out.sl).below HB2.out).text Try.underlying22 Try.underlying5 Try.underlying9
          have hm := HR.out.su.le
          have hm' := HQ.out.su.le
          go_wp2
          go_ret
          exact ⟨ret_eq (by rw [HG.out]; rfl), HB2.out⟩
      · have HG : Kp (sameB ⟨num, blk, sl, su⟩ ⟨num, blk, sl', su'⟩ = false) := ⟨sameB_ne (by intro h; injection h; contradiction)⟩
        go_enter Try.func19, Try.ntmps19
        go_wp2_with (with_reducible refine wpList_box (o := ⟨some 2, _, _, _, _, _⟩) (cs := rcL num blk A n c D m e) rfl (.tmp 0) rfl rfl ?_)
        intro w1 hk1 hb1 hs1
        have HK1 : Kp _ := ⟨hk1⟩
        have HB1 : Kp _ := ⟨hb1⟩
        have HS1 : Kp _ := ⟨hs1⟩
        clear hk1 hb1 hs1
        go_wp2_with (with_reducible refine wpList_box (o := ⟨some 3, _, _, _, _, _⟩) (cs := rcL num blk A' n' c' D' m' e') rfl (.tmp 1) rfl rfl ?_)
        intro w2 hk2 hb2 hs2
        have HK2 : Kp _ := ⟨hk2⟩
        have HB2 : Kp (Below w.heap.size w w2) := ⟨HB1.out.trans (hb2.mono HB1.out.size)⟩
        have HKa : Kp (Blk w2 w.heap.size 26 (rcL num blk A n c D m e)) := ⟨HK1.out.below hb2 HK1.out.lt⟩
        have HZa : Kp (w.heap.size < w2.heap.size ∧ w1.heap.size < w2.heap.size) := ⟨Nat.lt_of_lt_of_le HK1.out.lt hb2.size, HK2.out.lt⟩
        clear hk2 hb2 hs2 HK1
        have a0 : w2.cell? ⟨w.heap.size, 0, none⟩ = some (.int .u64 num) := HKa.out.cell? 0
        have b0 : w2.cell? ⟨w1.heap.size, 0, none⟩ = some (.int .u64 num) := HK2.out.cell? 0
        have a1 : w2.cell? ⟨w.heap.size, 1, none⟩ = some (.int .i64 blk) := HKa.out.cell? 1
        have b1 : w2.cell? ⟨w1.heap.size, 1, none⟩ = some (.int .i64 blk) := HK2.out.cell? 1
        have a2 : w2.cell? ⟨w.heap.size, 2, none⟩ = some (.slice A n c) := HKa.out.cell? 2
        have b2 : w2.cell? ⟨w1.heap.size, 2, none⟩ = some (.slice A' n' c') := HK2.out.cell? 2
        have a3 : w2.cell? ⟨w.heap.size, 3, none⟩ = some (.slice D m e) := HKa.out.cell? 3
        have b3 : w2.cell? ⟨w1.heap.size, 3, none⟩ = some (.slice D' m' e') := HK2.out.cell? 3
        have t1 := ((HR.out.sl).below HB2.out).text Try.underlying22 Try.underlying5 Try.underlying9
        have t2 := ((HQ.out.sl).below HB2.out).text Try.underlying22 Try.underlying5 Try.underlying9
        have h2' : (sl == sl') = false := by simp [h2]
        go_wp2
        go_ret
        exact ⟨ret_eq (by rw [HG.out]; rfl), HB2.out⟩
    · have HG : Kp (sameB ⟨num, blk, sl, su⟩ ⟨num, blk', sl', su'⟩ = false) := ⟨sameB_ne (by intro h; injection h; contradiction)⟩
      have h1' : (blk != blk') = true := by simp [h1]
      go_enter Try.func19, Try.ntmps19
      go_wp2_with (with_reducible refine wpList_box (o := ⟨some 2, _, _, _, _, _⟩) (cs := rcL num blk A n c D m e) rfl (.tmp 0) rfl rfl ?_)
      intro w1 hk1 hb1 hs1
      have HK1 : Kp _ := ⟨hk1⟩
      have HB1 : Kp _ := ⟨hb1⟩
      have HS1 : Kp _ := ⟨hs1⟩
      clear hk1 hb1 hs1
      go_wp2_with (with_reducible refine wpList_box (o := ⟨some 3, _, _, _, _, _⟩) (cs := rcL num blk' A' n' c' D' m' e') rfl (.tmp 1) rfl rfl ?_)
      intro w2 hk2 hb2 hs2
      have HK2 : Kp _ := ⟨hk2⟩
      have HB2 : Kp (Below w.heap.size w w2) := ⟨HB1.out.trans (hb2.mono HB1.out.size)⟩
      have HKa : Kp (Blk w2 w.heap.size 26 (rcL num blk A n c D m e)) := ⟨HK1.out.below hb2 HK1.out.lt⟩
      have HZa : Kp (w.heap.size < w2.heap.size ∧ w1.heap.size < w2.heap.size) := ⟨Nat.lt_of_lt_of_le HK1.out.lt hb2.size, HK2.out.lt⟩
      clear hk2 hb2 hs2 HK1
      have a0 : w2.cell? ⟨w.heap.size, 0, none⟩ = some (.int .u64 num) := HKa.out.cell? 0
      have b0 : w2.cell? ⟨w1.heap.size, 0, none⟩ = some (.int .u64 num) := HK2.out.cell? 0
      have a1 : w2.cell? ⟨w.heap.size, 1, none⟩ = some (.int .i64 blk) := HKa.out.cell? 1
      have b1 : w2.cell? ⟨w1.heap.size, 1, none⟩ = some (.int .i64 blk') := HK2.out.cell? 1
      go_wp2
      go_ret
      exact ⟨ret_eq (by rw [HG.out]; rfl), HB2.out⟩
  · have HG : Kp (sameB ⟨num, blk, sl, su⟩ ⟨num', blk', sl', su'⟩ = false) := ⟨sameB_ne (by intro h; injection h; contradiction)⟩
    have h0' : ((num : Int) != (num' : Int)) = true := by simp; omega
    go_enter Try.func19, Try.ntmps19
    go_wp2_with (with_reducible refine wpList_box (o := ⟨some 2, _, _, _, _, _⟩) (cs := rcL num blk A n c D m e) rfl (.tmp 0) rfl rfl ?_)
    intro w1 hk1 hb1 hs1
    have HK1 : Kp _ := ⟨hk1⟩
    have HB1 : Kp _ := ⟨hb1⟩
    have HS1 : Kp _ := ⟨hs1⟩
    clear hk1 hb1 hs1
    go_wp2_with (with_reducible refine wpList_box (o := ⟨some 3, _, _, _, _, _⟩) (cs := rcL num' blk' A' n' c' D' m' e') rfl (.tmp 1) rfl rfl ?_)
    intro w2 hk2 hb2 hs2
    have HK2 : Kp _ := ⟨hk2⟩
    have HB2 : Kp (Below w.heap.size w w2) := ⟨HB1.out.trans (hb2.mono HB1.out.size)⟩
    have HKa : Kp (Blk w2 w.heap.size 26 (rcL num blk A n c D m e)) := ⟨HK1.out.below hb2 HK1.out.lt⟩
    have HZa : Kp (w.heap.size < w2.heap.size ∧ w1.heap.size < w2.heap.size) := ⟨Nat.lt_of_lt_of_le HK1.out.lt hb2.size, HK2.out.lt⟩
    clear hk2 hb2 hs2 HK1
    have a0 : w2.cell? ⟨w.heap.size, 0, none⟩ = some (.int .u64 num) := HKa.out.cell? 0
    have b0 : w2.cell? ⟨w1.heap.size, 0, none⟩ = some (.int .u64 num') := HK2.out.cell? 0
    go_wp2
    go_ret
    exact ⟨ret_eq (by rw [HG.out]; rfl), HB2.out⟩
end Go.Proofs.Ytadpfbjpkbpanaa
