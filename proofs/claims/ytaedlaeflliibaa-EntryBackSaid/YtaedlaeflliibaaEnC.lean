/- The contracts of place: by a binary search, and one by one. -/
import Derived.Test.YtaedlaeflliibaaEnL
namespace Go.Proofs.Ytaedlaeflliibaa
open Go.RowKit

/-- the first whose name is above -/
def aboveE (l : List En) (n : List UInt8) : Nat := l.findIdx fun x => decide (n < x.1)
/-- how many are below -/
def lowE (l : List En) (n : List UInt8) : Nat := l.findIdx fun x => !decide (x.1 < n)
def placeE (l : List En) (n : List UInt8) : Nat × Bool := if hasE l n then (idxE l n, true) else (aboveE l n, false)
theorem find_of {α : Type} {p : α → Bool} {l : List α} {k : Nat} (hk : k ≤ l.length) (h : ∀ hk : k < l.length, p l[k] = true) (h2 : ∀ j (hj : j < l.length), j < k → p l[j] = false) : l.findIdx p = k := by
  by_cases e : k < l.length
  · rw [List.findIdx_eq e]
    exact ⟨h e, fun j hj => by simpa using h2 j (by omega) hj⟩
  · have : k = l.length := by omega
    subst this
    rw [List.findIdx_eq_length]
    intro x hx
    obtain ⟨j, hj, rfl⟩ := List.getElem_of_mem hx
    exact h2 j hj hj
theorem lowE_of {l : List En} {n : List UInt8} {k : Nat} (hk : k ≤ l.length) (h1 : ∀ j (hj : j < l.length), j < k → l[j].1 < n) (h2 : ∀ j (hj : j < l.length), k ≤ j → ¬ l[j].1 < n) : lowE l n = k :=
  find_of hk (fun h => by simpa using h2 k h (Nat.le_refl _)) (fun j hj h => by simpa using h1 j hj h)
theorem place_low {l : List En} {n : List UInt8} {k : Nat} (hup : Up l) (hk : k ≤ l.length) (h1 : ∀ j (hj : j < l.length), j < k → l[j].1 < n) (h2 : ∀ j (hj : j < l.length), k ≤ j → ¬ l[j].1 < n) :
    (∀ h : k < l.length, l[k].1 = n → placeE l n = (k, true)) ∧ ((∀ h : k < l.length, l[k].1 ≠ n) → placeE l n = (k, false)) := by
  refine ⟨fun h e => ?_, fun h => ?_⟩
  · have hi : idxE l n = k := idxE_of h e fun j hj hlt e2 => by
      have := h1 j hj hlt
      rw [e2] at this
      exact u8lt_irrefl _ this
    unfold placeE
    rw [if_pos (idxE_lt.1 (by rw [hi]; exact h)), hi]
  · have hne : ∀ j (hj : j < l.length), l[j].1 ≠ n := fun j hj e => by
      by_cases hjk : j < k
      · have := h1 j hj hjk
        rw [e] at this
        exact u8lt_irrefl _ this
      · by_cases e3 : j = k
        · subst e3; exact h hj e
        · have h3 := hup.at (i := k) (j := j) (by omega) hj
          rw [e] at h3
          exact h2 k (by omega) (Nat.le_refl _) h3
    unfold placeE
    rw [hasE_false hne]
    have : aboveE l n = k := find_of hk (fun hh => by
      simp only [decide_eq_true_eq]
      exact u8lt_tri (h2 k hh (Nat.le_refl _)) (hne k hh)) (fun j hj hlt => by
        simp only [decide_eq_false_iff_not]
        exact fun h4 => u8lt_irrefl _ (u8lt_trans (h1 j hj hlt) h4))
    rw [this]; rfl
theorem cmpN_neg {a b : List UInt8} : cmpN a b < 0 ↔ a < b := by
  rw [cmpN_eq]
  by_cases h : a < b
  · simp [h]
  · by_cases h2 : b < a <;> simp [h, h2]
theorem cmpN_zero {a b : List UInt8} : cmpN a b = 0 ↔ a = b := by
  rw [cmpN_eq]
  by_cases h : a < b
  · have : a ≠ b := fun e => by subst e; exact u8lt_irrefl _ h
    simp [h, this]
  · by_cases h2 : b < a
    · have : a ≠ b := fun e => by subst e; exact u8lt_irrefl _ h2
      simp [h, h2, this]
    · have : a = b := by
        by_cases e : a = b
        · exact e
        · exact absurd (u8lt_tri h e) h2
      subst this
      simp [h]
theorem cmpN_range (a b : List UInt8) : -1 ≤ cmpN a b ∧ cmpN a b ≤ 1 := by
  rw [cmpN_eq]
  split
  · omega
  · split <;> omega
set_option maxHeartbeats 1000000 in
theorem order_any (x : En) (nm : List UInt8) (bn : Nat) (w : World) (hbn : bn < w.heap.size) (hc : w.cell? ⟨bn, 0, none⟩ = some (.string ⟨nm.toArray⟩)) :
    Calls Try.prog 51 #[.agg (enOne x).toArray, .pointer (some ⟨bn, 0, none⟩)] w fun e w' => e = .returned (.int .i64 (cmpN x.1 nm)) ∧ Below w.heap.size w w' := by
  obtain ⟨⟨xn, z⟩, rfl⟩ : ∃ y, x = y := ⟨_, rfl⟩
  have HC : Kp _ := ⟨hc⟩
  have HLt : Kp _ := ⟨hbn⟩
  clear hc hbn
  go_enter Try.func51, Try.ntmps51
  go_wp2_with (with_reducible refine wpList_box (o := ⟨some 2, _, _, _, _, _⟩) (cs := enOne (xn, z)) rfl (.tmp 0) rfl rfl ?_)
  intro w1 hk1 hb1 hs1
  have HB1 : Kp _ := ⟨hb1⟩
  have c0 : w1.cell? ⟨w.heap.size, 0, none⟩ = some (.string ⟨xn.toArray⟩) := hk1.cell? 0
  have c1 : w1.cell? ⟨bn, 0, none⟩ = some (.string ⟨nm.toArray⟩) := (hb1.cell (p := ⟨bn, 0, none⟩) HLt.out).trans HC.out
  clear hk1 hb1 hs1
  go_wp2_with (go_at_call 52; refine (compare_any xn nm _).mono ?_; rintro e w2 ⟨rfl, rfl⟩)
  go_ret
  exact ⟨rfl, HB1.out⟩
set_option maxHeartbeats 1000000 in
theorem order2_any (x : En) (nm : List UInt8) (bn bo : Nat) (w : World) (hbn : bn < w.heap.size) (hbo : bo < w.heap.size) (hc : w.cell? ⟨bn, 0, none⟩ = some (.string ⟨nm.toArray⟩)) (hd : w.cell? ⟨bo, 0, none⟩ = some (.func (.func 51) #[] #[.pointer (some ⟨bn, 0, none⟩)])) :
    Calls Try.prog 54 #[.agg (enOne x).toArray, .int .i64 0, .pointer (some ⟨bo, 0, none⟩)] w fun e w' => e = .returned (.int .i64 (cmpN x.1 nm)) ∧ Below w.heap.size w w' := by
  have HC : Kp _ := ⟨hc⟩
  have HD : Kp _ := ⟨hd⟩
  have HLt : Kp _ := ⟨hbn⟩
  have HLo : Kp _ := ⟨hbo⟩
  have hr := cmpN_range x.1 nm
  clear hc hbn hd hbo
  go_enter Try.func54, Try.ntmps54
  go_wp2_with (with_reducible refine wpList_box (o := ⟨some 3, _, _, _, _, _⟩) (cs := enOne x) rfl (.tmp 0) rfl rfl ?_)
  intro w1 hk1 hb1 hs1
  have HB1 : Kp _ := ⟨hb1⟩
  have HK1 : Kp _ := ⟨hk1⟩
  have c1 : w1.cell? ⟨bo, 0, none⟩ = some (.func (.func 51) #[] #[.pointer (some ⟨bn, 0, none⟩)]) := (hb1.cell (p := ⟨bo, 0, none⟩) HLo.out).trans HD.out
  have HO : Kp _ := ⟨order_any x nm bn w1 (Nat.lt_of_lt_of_le HLt.out hb1.size) ((hb1.cell (p := ⟨bn, 0, none⟩) HLt.out).trans HC.out)⟩
  clear hk1 hb1 hs1
  go_wp2_with (first | (with_reducible refine wpList_loadAll (o := ⟨some 7, _, _, _, _, _⟩) rwEn rfl (.tmp 3) rfl rfl HK1.out rfl ?_) | (go_at_call 51; refine HO.out.mono ?_; rintro e w2 ⟨rfl, hb2⟩))
  have HB2 : Kp (Below w.heap.size w w2) := ⟨HB1.out.trans (hb2.mono HB1.out.size)⟩
  clear hb2
  go_wp2
  go_ret
  exact ⟨by first | rfl | simp, HB2.out⟩
end Go.Proofs.Ytaedlaeflliibaa
