/- The contracts of the document's Spans and Decode. -/
import Derived.Test.YtmiobgongddaiaaNdZ
namespace Go.Proofs.Ytmiobgongddaiaa
open Go.RowKit Go.Shelf

section
set_option maxRecDepth 100000
set_option maxHeartbeats 4000000
theorem refspans_no (a n : Int) (w : World) (hno : a < 0 ∨ (0 ≤ a ∧ n < 1) ∨ (0 ≤ a ∧ 1 ≤ n ∧ 17920 < a) ∨ (0 ≤ a ∧ 1 ≤ n ∧ a ≤ 17920 ∧ 17920 < n)) :
    Calls Try.prog 26 #[.int .i64 a, .int .i64 n] w fun e w' => e = .returned (.slice none 0 0) ∧ Below w.heap.size w w' := by
  rcases hno with h | ⟨h, h'⟩ | ⟨h, h', h''⟩ | ⟨h, h', h'', h5⟩
  all_goals
    go_enter Try.func26, Try.ntmps26
    go_wp2
    go_ret
    exact ⟨rfl, Below.refl _ _⟩
theorem refspans_yes (a n : Nat) (w : World) (h1 : a ≤ 17920) (h2 : n ≤ 17920) (h3 : 1 ≤ n) :
    Calls Try.prog 26 #[.int .i64 (a : Int), .int .i64 (n : Int)] w fun e w' => ∃ A m c, e = .returned (.slice A m c) ∧ Sps w' w'.heap.size A m c (spsN a (a + n)) ∧ Below w.heap.size w w' := by
  obtain ⟨E, hE⟩ : ∃ E, E = a + n := ⟨_, rfl⟩
  have hs' : (a : Int) + (n : Int) = (E : Int) := by omega
  have hE2 : E ≤ 35840 := by omega
  rw [← hE]
  clear hE
  obtain ⟨K0, hK0⟩ : ∃ K0, K0 = a / 256 := ⟨_, rfl⟩
  obtain ⟨N, hN⟩ : ∃ N, N = (E + 255) / 256 - a / 256 := ⟨_, rfl⟩
  have hq0 : (a : Int) / 256 = (K0 : Int) := by omega
  have HN : Kp (N = (E + 255) / 256 - K0 ∧ K0 = a / 256) := ⟨by omega, hK0⟩
  have HS : Kp (spsN a E = spP a E N) := ⟨by rw [hN]; rfl⟩
  have hN141 : N ≤ 140 := by omega
  clear hN hK0
  go_enter Try.func26, Try.ntmps26
  go_wp2
  go_loopg [5, 6] N (fun gk v5 v6 wr => ∃ (k j : Nat), j + gk = N ∧ Kp (k = K0 + j) ∧ v6 = .int .i64 (k : Int) ∧ Kp (wr.ownsRow w.heap.size 55 3 v5 j (spCells (spP a E j))) ∧ Kp (Below w.heap.size w wr))
  case atStart => exact ⟨K0, 0, by omega, ⟨rfl⟩, rfl, ⟨ownS_nil _ _ _ _⟩, ⟨Below.refl _ _⟩⟩
  case round =>
    obtain ⟨k, j, hjN, HKj, rfl, HOw, HBr⟩ := hrel
    have hkj := HKj.out
    obtain ⟨K, hK⟩ : ∃ x, x = 256 * k := ⟨_, rfl⟩
    have r1 : (256 : Int) * (k : Int) = (K : Int) := by omega
    have hKb : K ≤ 72000 := by have := HN.out; omega
    cases gk with
    | zero =>
      have hend : ¬ ((K : Int) < (E : Int)) := by have := HN.out; omega
      have HKe : Kp (j = N) := ⟨by omega⟩
      have hown := HOw.out
      rw [HKe.out, ← HS.out] at hown
      obtain ⟨A5, c5, rfl, hsp⟩ := Sps.of_own hown
      have HSp : Kp _ := ⟨hsp⟩
      clear hkj hK hown hsp HOw
      go_wp2
      go_ret
      exact ⟨_, _, _, rfl, HSp.out, HBr.out⟩
    | succ g2 =>
      have hgo : (K : Int) < (E : Int) := by have := HN.out; omega
      obtain ⟨s, hs⟩ : ∃ s, s = spN a E k := ⟨_, rfl⟩
      obtain ⟨f, hf⟩ : ∃ f, f = s.f := ⟨_, rfl⟩
      obtain ⟨t, ht⟩ : ∃ t, t = s.t := ⟨_, rfl⟩
      have hsk : s.k = k := by rw [hs]; rfl
      have hf' : f = a - K := by rw [hf, hs, hK]; rfl
      have ht' : t = min (E - K) 256 := by rw [ht, hs, hK]; rfl
      have HNx : Kp (spP a E j ++ [s] = spP a E (j + 1)) := ⟨by rw [hs, hkj, HN.out.2]; exact spP_snoc a E j⟩
      have hse : s = ⟨k, f, t⟩ := by rw [hf, ht, ← hsk]
      have hkm : k ≤ 300 := by omega
      have hjm : j ≤ 140 := by omega
      have hca : (K ≤ a ∧ (f : Int) = (a : Int) - (K : Int)) ∨ (a < K ∧ f = 0) := by omega
      have hcb : (E ≤ K + 256 ∧ (t : Int) = (E : Int) - (K : Int)) ∨ (K + 256 < E ∧ t = 256) := by omega
      have HB4 : Kp (Below w.heap.size w (wr.alloc (.cells (spV s).toArray 55))) := ⟨HBr.out.trans (((Below.refl _ wr).alloc (Nat.le_refl _) _).mono HBr.out.size)⟩
      have HOw4 : Kp _ := ⟨ownS_below HOw.out ((Below.refl _ wr).alloc (Nat.le_refl _) (.cells (spV s).toArray 55))⟩
      have HS4 : Kp _ := ⟨Blk.new wr 55 (spV s)⟩
      have H4w : Kp _ := ⟨HB4.out.size⟩
      clear hs hsk hf ht hf' ht' hkj hK
      subst hse
      rcases hca with ⟨ca1, ca2⟩ | ⟨ca1, rfl⟩ <;> rcases hcb with ⟨cb1, cb2⟩ | ⟨cb1, rfl⟩
      · have q1 : (a : Int) - (K : Int) = (f : Int) := by omega
        have q3 : (K : Int) ≤ (a : Int) := by omega
        clear ca2
        have q2 : (E : Int) - (K : Int) = (t : Int) := by omega
        have q4 : (E : Int) ≤ (K : Int) + 256 := by omega
        clear cb2
        go_wp2_with (at_builtin; refine wpList_appG (Try.underlying48) infSp rfl (by decide) rfl _ _ rfl w.heap.size _ j _ rfl HOw4.out wr.heap.size _ (spV ⟨k, f, t⟩) rfl HS4.out rfl (spV_one _) (by simp only [maxLen]; omega) (by omega) H4w.out ?_)
        intro v6 w6 hown6 hg6
        have hb6 : Below w.heap.size (wr.alloc (.cells (spV ⟨k, f, t⟩).toArray 55)) w6 := below_lowS HOw4.out (Nat.le_refl _) H4w.out hg6
        have HOw6 : Kp (w6.ownsRow w.heap.size 55 3 v6 (j + 1) (spCells (spP a E (j + 1)))) := ⟨by rw [← HNx.out, spCells_snoc]; exact hown6⟩
        have HB6 : Kp (Below w.heap.size w w6) := ⟨HB4.out.trans hb6⟩
        clear hown6 hg6 hb6 HOw4 HB4 HS4 H4w HOw HBr
        go_wp2
        go_roundg g2
        case measure => omega
        case rel => exact ⟨k + 1, j + 1, by omega, ⟨by rw [HKj.out]; rfl⟩, by go_num, HOw6, HB6⟩
      · have q1 : (a : Int) - (K : Int) = (f : Int) := by omega
        have q3 : (K : Int) ≤ (a : Int) := by omega
        clear ca2
        have q2 : (K : Int) + 256 - (K : Int) = 256 := by omega
        have q4 : (K : Int) + 256 < (E : Int) := by omega
        go_wp2_with (at_builtin; refine wpList_appG (Try.underlying48) infSp rfl (by decide) rfl _ _ rfl w.heap.size _ j _ rfl HOw4.out wr.heap.size _ (spV ⟨k, f, 256⟩) rfl HS4.out rfl (spV_one _) (by simp only [maxLen]; omega) (by omega) H4w.out ?_)
        intro v6 w6 hown6 hg6
        have hb6 : Below w.heap.size (wr.alloc (.cells (spV ⟨k, f, 256⟩).toArray 55)) w6 := below_lowS HOw4.out (Nat.le_refl _) H4w.out hg6
        have HOw6 : Kp (w6.ownsRow w.heap.size 55 3 v6 (j + 1) (spCells (spP a E (j + 1)))) := ⟨by rw [← HNx.out, spCells_snoc]; exact hown6⟩
        have HB6 : Kp (Below w.heap.size w w6) := ⟨HB4.out.trans hb6⟩
        clear hown6 hg6 hb6 HOw4 HB4 HS4 H4w HOw HBr
        go_wp2
        go_roundg g2
        case measure => omega
        case rel => exact ⟨k + 1, j + 1, by omega, ⟨by rw [HKj.out]; rfl⟩, by go_num, HOw6, HB6⟩
      · have q3 : (a : Int) < (K : Int) := by omega
        have q2 : (E : Int) - (K : Int) = (t : Int) := by omega
        have q4 : (E : Int) ≤ (K : Int) + 256 := by omega
        clear cb2
        go_wp2_with (at_builtin; refine wpList_appG (Try.underlying48) infSp rfl (by decide) rfl _ _ rfl w.heap.size _ j _ rfl HOw4.out wr.heap.size _ (spV ⟨k, 0, t⟩) rfl HS4.out rfl (spV_one _) (by simp only [maxLen]; omega) (by omega) H4w.out ?_)
        intro v6 w6 hown6 hg6
        have hb6 : Below w.heap.size (wr.alloc (.cells (spV ⟨k, 0, t⟩).toArray 55)) w6 := below_lowS HOw4.out (Nat.le_refl _) H4w.out hg6
        have HOw6 : Kp (w6.ownsRow w.heap.size 55 3 v6 (j + 1) (spCells (spP a E (j + 1)))) := ⟨by rw [← HNx.out, spCells_snoc]; exact hown6⟩
        have HB6 : Kp (Below w.heap.size w w6) := ⟨HB4.out.trans hb6⟩
        clear hown6 hg6 hb6 HOw4 HB4 HS4 H4w HOw HBr
        go_wp2
        go_roundg g2
        case measure => omega
        case rel => exact ⟨k + 1, j + 1, by omega, ⟨by rw [HKj.out]; rfl⟩, by go_num, HOw6, HB6⟩
      · have q3 : (a : Int) < (K : Int) := by omega
        have q2 : (K : Int) + 256 - (K : Int) = 256 := by omega
        have q4 : (K : Int) + 256 < (E : Int) := by omega
        go_wp2_with (at_builtin; refine wpList_appG (Try.underlying48) infSp rfl (by decide) rfl _ _ rfl w.heap.size _ j _ rfl HOw4.out wr.heap.size _ (spV ⟨k, 0, 256⟩) rfl HS4.out rfl (spV_one _) (by simp only [maxLen]; omega) (by omega) H4w.out ?_)
        intro v6 w6 hown6 hg6
        have hb6 : Below w.heap.size (wr.alloc (.cells (spV ⟨k, 0, 256⟩).toArray 55)) w6 := below_lowS HOw4.out (Nat.le_refl _) H4w.out hg6
        have HOw6 : Kp (w6.ownsRow w.heap.size 55 3 v6 (j + 1) (spCells (spP a E (j + 1)))) := ⟨by rw [← HNx.out, spCells_snoc]; exact hown6⟩
        have HB6 : Kp (Below w.heap.size w w6) := ⟨HB4.out.trans hb6⟩
        clear hown6 hg6 hb6 HOw4 HB4 HS4 H4w HOw HBr
        go_wp2
        go_roundg g2
        case measure => omega
        case rel => exact ⟨k + 1, j + 1, by omega, ⟨by rw [HKj.out]; rfl⟩, by go_num, HOw6, HB6⟩
theorem refspans_any (a n : Int) (w : World) :
    Calls Try.prog 26 #[.int .i64 a, .int .i64 n] w fun e w' => ∃ A m c, e = .returned (.slice A m c) ∧ Sps w' w'.heap.size A m c (spA a n) ∧ Below w.heap.size w w' := by
  by_cases hb : 0 ≤ a ∧ 1 ≤ n ∧ a ≤ 17920 ∧ n ≤ 17920
  · obtain ⟨x, rfl⟩ := Int.eq_ofNat_of_zero_le hb.1
    obtain ⟨y, rfl⟩ := Int.eq_ofNat_of_zero_le (show 0 ≤ n by omega)
    have e : spA (x : Int) (y : Int) = spsN x (x + y) := by
      unfold spA spB
      rw [decide_eq_true hb.1, decide_eq_true hb.2.1, decide_eq_true hb.2.2.1, decide_eq_true hb.2.2.2]; rfl
    rw [e]
    exact refspans_yes x y w (by omega) (by omega) (by omega)
  · have e : spA a n = [] := by
      unfold spA
      rw [if_neg]
      unfold spB
      intro h
      simp only [Bool.and_eq_true, decide_eq_true_eq] at h
      omega
    rw [e]
    refine (refspans_no a n w (by omega)).mono ?_
    rintro r w' ⟨rfl, hb'⟩
    exact ⟨none, 0, 0, rfl, Sps.nought _ _, hb'⟩
end
end Go.Proofs.Ytmiobgongddaiaa
