/- The document's answers: free, First, Some, Count; SameInts. -/
import Derived.Test.YtgkeckfiacdpkaaDoorBtV
namespace Go.Proofs.YtgkeckfiacdpkaaDoor
open Go.RowKit Go.Shelf

/-- what the document gathers till k -/
def rfL (p : Nat → Bool) (f t : Int) (k : Nat) : List Nat := (List.range k).filter fun i => decide (f ≤ (i : Int)) && decide ((i : Int) < t) && p i
theorem rfL_succ (p : Nat → Bool) (f t : Int) (k : Nat) : rfL p f t (k + 1) = if decide (f ≤ (k : Int)) && decide ((k : Int) < t) && p k then rfL p f t k ++ [k] else rfL p f t k := by
  unfold rfL
  rw [List.range_succ, List.filter_append, List.filter_cons]
  split
  · simp
  · simp
theorem rfL_all (p : Nat → Bool) (f t : Int) (n : Nat) : rfL p f t (8 * n) = pickL p f.toNat (hiN n t) := by
  unfold rfL pickL hiN
  obtain ⟨T, hT⟩ : ∃ T, T = min t.toNat (8 * n) := ⟨_, rfl⟩
  rw [← hT, show 8 * n = T + (8 * n - T) by omega, List.range_add, List.filter_append]
  rw [show List.filter _ (List.map _ (List.range (8 * n - T))) = [] from List.filter_eq_nil_iff.2 fun i hi => by
    obtain ⟨a, ha, rfl⟩ := List.mem_map.1 hi
    have := List.mem_range.1 ha
    simp
    intro h1 h2; omega, List.append_nil]
  apply List.filter_congr
  intro i hi
  have := List.mem_range.1 hi
  rw [decide_eq_true (show (i : Int) < t by omega), Bool.and_true, show decide (f ≤ (i : Int)) = decide (f.toNat ≤ i) from decide_eq_decide.2 (by omega)]
theorem rfL_le (p : Nat → Bool) (f t : Int) (k : Nat) : (rfL p f t k).length ≤ k := Nat.le_trans (List.length_filter_le _ _) (by simp)
section
set_option maxRecDepth 100000
set_option maxHeartbeats 1000000
theorem reffree_any (A : Option Addr) (n c : Nat) (b : List UInt8) (f t : Int) (w : World) (hb : Bs w w.heap.size A n c b) (hn : n ≤ 4294967296) :
    Calls Tryd.prog 28 #[.slice A n c, .int .i64 f, .int .i64 t] w fun e w' => ∃ v, e = .returned v ∧ w'.ownsRow w.heap.size 3 1 v (freeL b f.toNat (hiN n t)).length (cellsZ (intsL (freeL b f.toNat (hiN n t)))) ∧ Below w.heap.size w w' := by
  have HB : Kp _ := ⟨hb⟩
  have HAll : Kp (rfL (fun i => !gb b i) f t (8 * n) = freeL b f.toNat (hiN n t)) := ⟨rfL_all (fun i => !gb b i) f t n⟩
  have HGt : Kp (∀ (k : Nat) (X : World), k ≤ 9223372036854775807 → Below w.heap.size w X → Calls Tryd.prog 13 #[.slice A n c, .int .i64 (k : Int)] X fun e X' => e = .returned (.bool (gb b k)) ∧ X' = X) := ⟨fun k X h hX => by
    have := refget_any A n c (k : Int) b X _ (HB.out.below hX) hn (by omega)
    rwa [gbI_nat] at this⟩
  clear hb HB
  go_enter Tryd.func28, Tryd.ntmps28
  go_wp2
  go_loopg [7, 8] (8 * n) (fun gk v7 v8 wr => ∃ (k m : Nat), k + gk = 8 * n ∧ v8 = .int .i64 (k : Int) ∧ Kp (m = (rfL (fun i => !gb b i) f t k).length) ∧ Kp (wr.ownsRow w.heap.size 3 1 v7 m (cellsZ (intsL (rfL (fun i => !gb b i) f t k)))) ∧ Kp (Below w.heap.size w wr))
  case atStart => exact ⟨0, 0, by omega, rfl, ⟨rfl⟩, ⟨own_nil _ _ _⟩, ⟨Below.refl _ _⟩⟩
  case round =>
    obtain ⟨k, m, hkm, rfl, HM, HO, HBl⟩ := hrel
    have hmk : m ≤ k := by rw [HM.out]; exact rfL_le _ _ _ _
    have hS := HBl.out.size
    have hrow : ∃ A1 c1, u7 = .slice A1 m c1 := own_sl HO.out
    obtain ⟨A1, c1, rfl⟩ := hrow
    cases gk with
    | zero =>
      have hend : ¬ ((k : Int) < 8 * (n : Int)) := by omega
      have hk8 : k = 8 * n := by omega
      have HO' := HO.out
      rw [hk8, HAll.out] at HO'
      have HO9 : Kp _ := ⟨HO'⟩
      have HMe : Kp (m = (freeL b f.toNat (hiN n t)).length) := ⟨by rw [HM.out, hk8, HAll.out]⟩
      have hend2 : ¬ (k < 8 * n) := by omega
      clear HO HO' HM HAll hk8 hkm
      go_wp2
      go_ret
      refine ⟨_, rfl, ?_, HBl.out⟩
      have h9 := HO9.out
      rw [← HMe.out]
      exact h9
    | succ g2 =>
      have hgo : (k : Int) < 8 * (n : Int) := by omega
      have hgo2 : k < 8 * n := by omega
      have hsucc := rfL_succ (fun i => !gb b i) f t k
      by_cases h1 : f ≤ (k : Int)
      · by_cases h2 : (k : Int) < t
        · have HG := HGt.out k wr (by omega) HBl.out
          cases hg : gb b k with
          | true =>
            rw [decide_eq_true h1, decide_eq_true h2, hg] at hsucc
            simp only [Bool.not_true, Bool.and_false, Bool.false_eq_true, if_false] at hsucc
            rw [hg] at HG
            rw [← hsucc] at HO HM
            have HG' : Kp _ := ⟨HG⟩
            clear hsucc hg HG
            go_wp2_with (go_at_call 13; refine HG'.out.mono ?_; rintro e w9 ⟨rfl, rfl⟩)
            go_roundg g2
            case measure => omega
            case rel => exact ⟨k + 1, m, by omega, by go_num, HM, HO, HBl⟩
          | false =>
            rw [decide_eq_true h1, decide_eq_true h2, hg] at hsucc
            simp only [Bool.not_false, Bool.and_true, if_true] at hsucc
            rw [hg] at HG
            have HSc : Kp _ := ⟨hsucc⟩
            have HG' : Kp _ := ⟨HG⟩
            clear hsucc hg HG
            go_wp2_with (first
              | (go_at_call 13; refine HG'.out.mono ?_; rintro e w9 ⟨rfl, rfl⟩)
              | (at_builtin; refine wpList_app1 elI rfl _ _ rfl w.heap.size (.slice A1 m c1) m (cellsZ (intsL (rfL (fun i => !gb b i) f t k))) rfl HO.out rfl rfl (by simp only [maxLen]; omega) (by omega) hS ?_; intro v2 w2 hown2 hb2 _ _))
            have HO2 : Kp _ := ⟨hown2.out⟩
            rw [← intsL_snoc, ← HSc.out] at HO2
            have HM2 : Kp (m + 1 = (rfL (fun i => !gb b i) f t (k + 1)).length) := ⟨by rw [HSc.out, List.length_append, ← HM.out]; rfl⟩
            have HB2 : Kp _ := ⟨HBl.out.trans hb2⟩
            clear hown2 hb2
            go_wp2
            go_roundg g2
            case measure => omega
            case rel => exact ⟨k + 1, m + 1, by omega, by go_num, HM2, HO2, HB2⟩
        · rw [decide_eq_false h2] at hsucc
          simp only [Bool.and_false, Bool.false_and, Bool.false_eq_true, if_false] at hsucc
          rw [← hsucc] at HO HM
          clear hsucc
          go_wp2
          go_roundg g2
          case measure => omega
          case rel => exact ⟨k + 1, m, by omega, by go_num, HM, HO, HBl⟩
      · rw [decide_eq_false h1] at hsucc
        simp only [Bool.false_and, Bool.false_eq_true, if_false] at hsucc
        rw [← hsucc] at HO HM
        clear hsucc
        go_wp2
        go_roundg g2
        case measure => omega
        case rel => exact ⟨k + 1, m, by omega, by go_num, HM, HO, HBl⟩
theorem refcount_any (A : Option Addr) (n c : Nat) (b : List UInt8) (f t : Int) (w : World) (hb : Bs w w.heap.size A n c b) (hn : n ≤ 4294967296) :
    Calls Tryd.prog 21 #[.slice A n c, .int .i64 f, .int .i64 t] w fun e w' => e = .returned (.int .i64 ((fullL b f.toNat (hiN n t)).length : Int)) ∧ w' = w := by
  have HB : Kp _ := ⟨hb⟩
  have HAll : Kp _ := ⟨rfL_all (fun i => gb b i) f t n⟩
  have HGt : Kp (∀ (k : Nat), k ≤ 9223372036854775807 → Calls Tryd.prog 13 #[.slice A n c, .int .i64 (k : Int)] w fun e X' => e = .returned (.bool (gb b k)) ∧ X' = w) := ⟨fun k h => by
    have := refget_any A n c (k : Int) b w _ HB.out hn (by omega)
    rwa [gbI_nat] at this⟩
  clear hb HB
  go_enter Tryd.func21, Tryd.ntmps21
  go_wp2
  go_loopg [7, 8] (8 * n) (fun gk v7 v8 wr => ∃ (k m : Nat), k + gk = 8 * n ∧ v8 = .int .i64 (k : Int) ∧ Kp (m = (rfL (fun i => gb b i) f t k).length) ∧ v7 = .int .i64 (m : Int) ∧ wr = w)
  case atStart => exact ⟨0, 0, by omega, rfl, ⟨rfl⟩, rfl, rfl⟩
  case round =>
    obtain ⟨k, m, hkm, rfl, HM, rfl, rfl⟩ := hrel
    have hmk : m ≤ k := by rw [HM.out]; exact rfL_le _ _ _ _
    cases gk with
    | zero =>
      have hend : ¬ ((k : Int) < 8 * (n : Int)) := by omega
      have hend2 : ¬ (k < 8 * n) := by omega
      have HMe : Kp (m = (fullL b f.toNat (hiN n t)).length) := ⟨by rw [HM.out, show k = 8 * n by omega, HAll.out]; rfl⟩
      clear HM HAll hkm
      go_wp2
      go_ret
      exact ⟨by rw [← HMe.out]; rfl, rfl⟩
    | succ g2 =>
      have hgo : (k : Int) < 8 * (n : Int) := by omega
      have hgo2 : k < 8 * n := by omega
      have hsucc := rfL_succ (fun i => gb b i) f t k
      by_cases h1 : f ≤ (k : Int)
      · by_cases h2 : (k : Int) < t
        · have HG := HGt.out k (by omega)
          cases hg : gb b k with
          | false =>
            rw [decide_eq_true h1, decide_eq_true h2, hg] at hsucc
            simp only [Bool.and_false, Bool.false_eq_true, if_false] at hsucc
            rw [hg] at HG
            rw [← hsucc] at HM
            have HG' : Kp _ := ⟨HG⟩
            clear hsucc hg HG
            go_wp2_with (go_at_call 13; refine HG'.out.mono ?_; rintro e w9 ⟨rfl, rfl⟩)
            go_roundg g2
            case measure => omega
            case rel => exact ⟨k + 1, m, by omega, by go_num, HM, rfl, rfl⟩
          | true =>
            rw [decide_eq_true h1, decide_eq_true h2, hg] at hsucc
            simp only [Bool.and_true, if_true] at hsucc
            rw [hg] at HG
            have HM2 : Kp (m + 1 = (rfL (fun i => gb b i) f t (k + 1)).length) := ⟨by rw [hsucc, List.length_append, ← HM.out]; rfl⟩
            have HG' : Kp _ := ⟨HG⟩
            clear hsucc hg HG
            go_wp2_with (go_at_call 13; refine HG'.out.mono ?_; rintro e w9 ⟨rfl, rfl⟩)
            go_roundg g2
            case measure => omega
            case rel => exact ⟨k + 1, m + 1, by omega, by go_num, HM2, by go_num, rfl⟩
        · rw [decide_eq_false h2] at hsucc
          simp only [Bool.and_false, Bool.false_and, Bool.false_eq_true, if_false] at hsucc
          rw [← hsucc] at HM
          clear hsucc
          go_wp2
          go_roundg g2
          case measure => omega
          case rel => exact ⟨k + 1, m, by omega, by go_num, HM, rfl, rfl⟩
      · rw [decide_eq_false h1] at hsucc
        simp only [Bool.false_and, Bool.false_eq_true, if_false] at hsucc
        rw [← hsucc] at HM
        clear hsucc
        go_wp2
        go_roundg g2
        case measure => omega
        case rel => exact ⟨k + 1, m, by omega, by go_num, HM, rfl, rfl⟩
theorem reffirst_any (A : Option Addr) (n c : Nat) (b : List UInt8) (f t : Int) (w : World) (hb : Bs w w.heap.size A n c b) (hn : n ≤ 4294967296) :
    Calls Tryd.prog 18 #[.slice A n c, .int .i64 f, .int .i64 t] w fun e w' => e = .returned (.int .i64 (firstI (freeL b f.toNat (hiN n t)))) ∧ Below w.heap.size w w' := by
  have HF : Kp _ := ⟨reffree_any A n c b f t w hb hn⟩
  generalize freeL b f.toNat (hiN n t) = L at *
  clear hb
  go_enter Tryd.func18, Tryd.ntmps18
  go_wp2_with fail
  refine HF.out.mono ?_
  rintro e w1 ⟨v, rfl, hown, hb1⟩
  have HB1 : Kp _ := ⟨hb1⟩
  cases L with
  | nil =>
    obtain ⟨A1, c1, rfl⟩ := own_sl hown
    clear hown hb1 HF
    go_wp2
    go_ret
    exact ⟨rfl, HB1.out⟩
  | cons i r =>
    rcases hown.2 with ⟨rfl, hx0⟩ | ⟨g, cap, cur, rfl, hg, hh, hnc, hcm, hcs, htk⟩
    · simp at hx0
    have hcell := hown.cells (g := g) rfl 0 (.int .i64 (i : Int)) rfl
    rw [Addr.add_lit] at hcell
    obtain ⟨m, hm⟩ : ∃ m, m = (i :: r).length := ⟨_, rfl⟩
    have hl3 : ¬ m = 0 := by rw [hm]; simp
    rw [← hm]
    have hl4 : 0 < m := by omega
    have hl5 : (0 : Int) < (m : Int) := by omega
    have hl6 : ¬ ((m : Int) = 0) := by omega
    clear hown hb1 HF hh hcs htk hg hnc hcm hm
    go_wp2
    go_ret
    exact ⟨rfl, HB1.out⟩
theorem some_zero (A : Option Addr) (n c : Nat) (q f t : Int) (w : World) (hq : q ≤ 0) :
    Calls Tryd.prog 10 #[.slice A n c, .int .i64 q, .int .i64 f, .int .i64 t] w fun e w' => e = .returned (.tuple #[.slice none 0 0, .int .i64 0]) ∧ Below w.heap.size w w' := by
  refine (callsIn_wide (n := 8)).1 (callsIn_of_wp_marks (F := Fence.wide) (n := 8) Tryd.func10 rfl trivial ?_ rfl)
  simp only [Tryd.ntmps10, List.size_toArray, List.length_cons, List.length_nil, Nat.reduceAdd, Nat.reduceSub, Array.replicate_succ, Array.replicate_zero, List.push_toArray, List.append_toArray, List.nil_append, List.cons_append]
  refine wpIn_wide.2 ?_
  go_wp2
  exact ⟨_, results_tt rfl rfl rfl, rfl, (Below.refl _ _).alloc (Nat.le_refl _) _⟩
theorem zs_take {w : World} {B : Nat} {k : IntKind} {A : Option Addr} {n c i : Nat} {zs : List Int} (h : Zs w B k A n c zs) (hi : i ≤ n) : Zs w B k A i c (zs.take i) := by
  have hl := h.len
  have hc := h.cap
  refine ⟨by simp; omega, by omega, h.max, h.nil, fun z hz => h.wf z (List.mem_of_mem_take hz), fun h0 => ?_⟩
  obtain ⟨b, o, hA, hb, hcell⟩ := h.cells (by omega)
  refine ⟨b, o, hA, hb, fun j hj => ?_⟩
  rw [hcell j (by simp at hj; omega)]
  simp
theorem zs_none (w : World) (B : Nat) (k : IntKind) : Zs w B k none 0 0 [] := ⟨rfl, Nat.le_refl _, Nat.zero_le _, fun _ => rfl, (fun z hz => by cases hz), fun h => absurd h (by omega)⟩
/-- Some of the document: enough, or not -/
theorem refsome_any (A : Option Addr) (n c : Nat) (b : List UInt8) (q f t : Int) (w : World) (hb : Bs w w.heap.size A n c b) (hn : n ≤ 4294967296) :
    Calls Tryd.prog 11 #[.slice A n c, .int .i64 q, .int .i64 f, .int .i64 t] w fun e w' => ∃ A' m' c' z l, e = .returned (.tuple #[.slice A' m' c', .int .i64 z]) ∧ Zs w' w'.heap.size .i64 A' m' c' (intsL l) ∧ Below w.heap.size w w' ∧
      ((q.toNat ≤ (freeL b f.toNat (hiN n t)).length ∧ z = 0 ∧ l = (freeL b f.toNat (hiN n t)).take q.toNat) ∨ ((freeL b f.toNat (hiN n t)).length < q.toNat ∧ z = 12 ∧ l = [])) := by
  have HF : Kp _ := ⟨reffree_any A n c b f t w hb hn⟩
  have HLt : Kp (∀ i ∈ freeL b f.toNat (hiN n t), i < 8 * n) := ⟨fun i hi => by have := (pick_mem.1 hi).1; unfold hiN at this; omega⟩
  have HL8 : Kp ((freeL b f.toNat (hiN n t)).length ≤ 8 * n) := ⟨Nat.le_trans (pick_length_le _ _ _) (by unfold hiN; omega)⟩
  obtain ⟨Q, hQ⟩ : ∃ Q, Q = q.toNat := ⟨_, rfl⟩
  have hcQ : (q < 0 ∧ (Q : Int) = 0) ∨ (0 ≤ q ∧ (Q : Int) = q) := by omega
  rw [← hQ]
  generalize freeL b f.toNat (hiN n t) = L at *
  obtain ⟨M, hM⟩ : ∃ M, M = L.length := ⟨_, rfl⟩
  rw [← hM] at HF HL8 ⊢
  have HMl : Kp _ := ⟨hM⟩
  clear hb hQ hM
  rcases hcQ with ⟨hq, hQ⟩ | ⟨hq, hQ⟩
  · have hQ0 : Q = 0 := by omega
    have hmx : max q 0 = 0 := by omega
    subst hQ0
    go_enter Tryd.func11, Tryd.ntmps11
    go_wp2_with fail
    refine HF.out.mono ?_
    rintro e w1 ⟨v, rfl, hown, hb1⟩
    obtain ⟨A1, c1, rfl, hz⟩ := Zs.of_own hown (fun z hz => by
      obtain ⟨i, hi, rfl⟩ := List.mem_map.1 hz
      have := HLt.out i hi
      exact WalkArith.wf_i64 (by omega))
    have hcap := hz.cap
    have HZ : Kp _ := ⟨hz⟩
    have HB1 : Kp _ := ⟨hb1⟩
    clear hown hb1 hz HF HLt HL8
    have hMl : Kp (0 ≤ M) := ⟨Nat.zero_le _⟩
    go_wp2
    refine ret_tt rfl rfl rfl rfl ?_
    have hz0 := zs_take HZ.out (Nat.zero_le M)
    rw [List.take_zero] at hz0
    exact ⟨_, _, _, 0, [], rfl, hz0, HB1.out, .inl ⟨hMl.out, rfl, by simp⟩⟩
  · obtain rfl : q = (Q : Int) := hQ.symm
    clear hQ
    by_cases hQM : Q ≤ M
    · have hno : ¬ ((M : Int) < (Q : Int)) := by omega
      have hno2 : ¬ (M < Q) := by omega
      go_enter Tryd.func11, Tryd.ntmps11
      go_wp2_with fail
      refine HF.out.mono ?_
      rintro e w1 ⟨v, rfl, hown, hb1⟩
      obtain ⟨A1, c1, rfl, hz⟩ := Zs.of_own hown (fun z hz => by
        obtain ⟨i, hi, rfl⟩ := List.mem_map.1 hz
        have := HLt.out i hi
        exact WalkArith.wf_i64 (by omega))
      have hcap := hz.cap
      have HZ : Kp _ := ⟨hz⟩
      have HB1 : Kp _ := ⟨hb1⟩
      clear hown hb1 hz HF HLt HL8
      have hQc : (Q : Int) ≤ (c1 : Int) := by omega
      have hQc2 : Q ≤ c1 := by omega
      have HQM : Kp (Q ≤ M) := ⟨hQM⟩
      go_wp2
      refine ret_tt rfl rfl rfl rfl ?_
      have hz := zs_take HZ.out HQM.out
      rw [show (intsL L).take Q = intsL (L.take Q) by simp [intsL, List.map_take]] at hz
      exact ⟨_, _, _, 0, _, rfl, hz, HB1.out, .inl ⟨HQM.out, rfl, rfl⟩⟩
    · have hyes : (M : Int) < (Q : Int) := by omega
      have hyes2 : M < Q := by omega
      have HQM : Kp (M < Q) := ⟨hyes2⟩
      go_enter Tryd.func11, Tryd.ntmps11
      go_wp2_with fail
      refine HF.out.mono ?_
      rintro e w1 ⟨v, rfl, hown, hb1⟩
      obtain ⟨A1, c1, rfl, hz⟩ := Zs.of_own hown (fun z hz => by
        obtain ⟨i, hi, rfl⟩ := List.mem_map.1 hz
        have := HLt.out i hi
        exact WalkArith.wf_i64 (by omega))
      have hcap := hz.cap
      have HZ : Kp _ := ⟨hz⟩
      have HB1 : Kp _ := ⟨hb1⟩
      clear hown hb1 hz HF HLt HL8
      go_wp2
      refine ret_tt rfl rfl rfl rfl ?_
      exact ⟨none, 0, 0, 12, [], rfl, zs_none _ _ _, HB1.out, .inr ⟨HQM.out, rfl, rfl⟩⟩
theorem sameints_any (A B : Option Addr) (n c m d : Nat) (xs ys : List Int) (w : World) (L M : Nat) (ha : Zs w L .i64 A n c xs) (hb : Zs w M .i64 B m d ys) :
    Calls Tryd.prog 19 #[.slice A n c, .slice B m d] w fun e w' => e = .returned (.bool (xs == ys)) ∧ Below w.heap.size w w' := by
  have HA : Kp _ := ⟨ha⟩
  have HB : Kp _ := ⟨hb⟩
  have HX : Kp (xs.length = n) := ⟨ha.len⟩
  have HY : Kp (ys.length = m) := ⟨hb.len⟩
  have hn63 := ha.le
  have hm63 := hb.le
  clear ha hb
  by_cases hnm : n = m
  · subst hnm
    go_enter Tryd.func19, Tryd.ntmps19
    go_wp2
    go_loopg [5] n (fun gk v5 wr => ∃ k : Nat, k + gk = n ∧ v5 = .int .i64 (k : Int) ∧ Kp (xs.take k = ys.take k) ∧ Kp (∀ B, Below B w wr))
    case atStart => exact ⟨0, by omega, rfl, ⟨by simp⟩, ⟨fun _ => Below.refl _ _⟩⟩
    case round =>
      obtain ⟨k, hkm, rfl, HE, HS⟩ := hrel
      cases gk with
      | zero =>
        have hend : ¬ ((k : Int) < (n : Int)) := by omega
        have HV : Kp ((xs == ys) = true) := ⟨by
          have h := HE.out
          rw [List.take_of_length_le (by rw [HX.out]; omega), List.take_of_length_le (by rw [HY.out]; omega)] at h
          rw [h]; simp⟩
        go_wp2
        go_ret
        exact ⟨by rw [HV.out]; rfl, HS.out _⟩
      | succ g2 =>
        have hgo : (k : Int) < (n : Int) := by omega
        have hin : k < n := by omega
        obtain ⟨b1, o1, rfl, hl1, hc1⟩ := HA.out.at hin
        obtain ⟨b2, o2, rfl, hl2, hc2⟩ := HB.out.at hin
        have hx : k < xs.length := by rw [HX.out]; exact hin
        have hy : k < ys.length := by rw [HY.out]; exact hin
        obtain ⟨x, hxe⟩ : ∃ x, x = xs[k] := ⟨_, rfl⟩
        obtain ⟨y, hye⟩ : ∃ y, y = ys[k] := ⟨_, rfl⟩
        rw [← hxe] at hc1
        rw [← hye] at hc2
        have hk1 : wr.cell? ⟨b1, o1 + k, none⟩ = some (.int .i64 x) := ((HS.out (b1 + 1)).cell (p := ⟨b1, o1 + k, none⟩) (Nat.lt_succ_self _)).trans hc1
        have hk2 : wr.cell? ⟨b2, o2 + k, none⟩ = some (.int .i64 y) := ((HS.out (b2 + 1)).cell (p := ⟨b2, o2 + k, none⟩) (Nat.lt_succ_self _)).trans hc2
        have HT1 : Kp (xs.take (k + 1) = xs.take k ++ [x]) := ⟨by rw [hxe, List.take_succ_eq_append_getElem hx]⟩
        have HT2 : Kp (ys.take (k + 1) = ys.take k ++ [y]) := ⟨by rw [hye, List.take_succ_eq_append_getElem hy]⟩
        have HNe : Kp (x ≠ y → (xs == ys) = false) := ⟨fun h => by
          rw [beq_eq_false_iff_ne]
          intro e
          apply h
          rw [hxe, hye]
          simp [e]⟩
        clear hc1 hc2 hxe hye
        by_cases hxy : x = y
        · subst hxy
          go_wp2_with fail
          go_quiet (fail)
          go_wp2
          go_roundg g2
          case measure => omega
          case rel => exact ⟨k + 1, by omega, by go_num, ⟨by rw [HT1.out, HT2.out, HE.out]⟩, ⟨fun B => (HS.out B).trans (below_drewN _ _ _)⟩⟩
        · have hxyI : ¬ (x = y) := hxy
          go_wp2_with fail
          go_quiet (fail)
          go_wp2
          go_ret
          exact ⟨by rw [HNe.out hxyI]; rfl, (HS.out _).trans (below_drewN _ _ _)⟩
  · have hne : ¬ ((n : Int) = (m : Int)) := by omega
    have HV : Kp ((xs == ys) = false) := ⟨by
      rw [beq_eq_false_iff_ne]
      intro e
      rw [e] at HX
      exact hnm (HX.out.symm.trans HY.out)⟩
    go_enter Tryd.func19, Tryd.ntmps19
    go_wp2
    go_ret
    exact ⟨by rw [HV.out]; rfl, Below.refl _ _⟩
end
end Go.Proofs.YtgkeckfiacdpkaaDoor
