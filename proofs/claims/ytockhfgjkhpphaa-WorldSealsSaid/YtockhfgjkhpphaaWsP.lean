/- WorldSeals: the plain data. -/
import Derived.Test.YtockhfgjkhpphaaKnown6
namespace Go.Proofs.Ytockhfgjkhpphaa
open Go.RowKit

def oth : List UInt8 := [111, 116, 104, 101, 114]
def wsT1 (i : Int) (la : List UInt8) : Wd := sealedW (newW 1) i la
def wsT2 (i : Int) (la : List UInt8) : Wd := sealedW (wsT1 i la) (1 - i) oth
def wsT3 (i : Int) (la : List UInt8) : Wd := lookW (wsT2 i la) i
def wsT4 (i : Int) (la : List UInt8) (k : Nat) : Wd := armW (wsT3 i la) (k : Int)
def wsT5 (i : Int) (la lb : List UInt8) (k : Nat) : Wd := sealedW (wsT4 i la k) i lb
def wsT6 (i : Int) (la lb : List UInt8) (k : Nat) : Wd := restartW (wsT5 i la lb k)
def wsT7 (i : Int) (la lb : List UInt8) (k : Nat) : Wd := lookW (wsT6 i la lb k) i
/-- where power lasts for ever a seal is just what was sealed -/
theorem laid_all (l old : List UInt8) (n : Nat) (hn : n = l.length) : (laid l (padL old (n : Int)) n).take n = l := by
  subst hn
  unfold laid
  rw [List.take_of_length_le (Nat.le_refl _), List.take_append_of_le_length (Nat.le_refl _), List.take_of_length_le (Nat.le_refl _)]
theorem sealNew_free (t : Wd) (l old : List UInt8) (h : t.lim = false) : sealNew t l old = l := by
  have hk : layK t l.length = l.length := by unfold layK; rw [if_neg (by rw [h]; decide)]
  unfold sealNew
  rw [if_pos hk, hk]
  exact laid_all l old _ rfl
theorem sealNew_arm (t : Wd) (l old : List UInt8) (k : Nat) (h : t.lim = true) (hk : t.left = k) :
    sealNew t l old = l.take (min k l.length) ++ (if k < l.length ∧ k < old.length then old.drop k else []) := by
  have hk : layK t l.length = min l.length k := by unfold layK; rw [if_pos h, hk]
  unfold sealNew
  rw [hk]
  by_cases hn : l.length ≤ k
  · rw [Nat.min_eq_left hn, if_pos rfl, laid_all l old _ rfl, Nat.min_eq_right hn, List.take_of_length_le (Nat.le_refl _), if_neg (by omega), List.append_nil]
  · rw [Nat.min_eq_right (by omega), if_neg (by omega), Nat.min_eq_left (by omega)]
    have hl : (l.take k).length = k := by rw [List.length_take]; omega
    unfold laid
    by_cases hm : k < old.length
    · rw [if_pos ⟨by omega, hm⟩, Nat.max_eq_right (by omega), List.take_append, hl, List.take_of_length_le (by rw [hl]; omega)]
      congr 1
      unfold padL
      rw [List.drop_append_of_le_length (by omega), List.take_append_of_le_length (by simp), List.take_of_length_le (by simp)]
    · rw [if_neg (by omega), Nat.max_eq_left (by omega), List.take_append, hl, List.take_of_length_le (by rw [hl]; exact Nat.le_refl _), Nat.sub_self, List.take_zero]

theorem ws0_1 (la : List UInt8) : sealB (newW 1) 0 la = true := by simp [sealB, sealW, newW, layK]
theorem ws0_2 (la : List UInt8) : sealB (wsT1 0 la) 1 oth = true := by simp [wsT1, sealB, sealedW, sealW, newW, layK, layW]
theorem ws0_3 (la : List UInt8) : lookL (wsT2 0 la) 0 = la := by
  simp [wsT2, wsT1, sealedW, sealW, newW, layW, lookL, toldL, sealL, sealNew_free]
theorem ws0_5 (la lb : List UInt8) (k : Nat) (hk : k ≤ 1000000) : sealB (wsT4 0 la k) 0 lb = decide (lb.length ≤ k) := by
  have e : armN (k : Int) = k := by unfold armN; omega
  have e2 : (min lb.length k = lb.length) ↔ lb.length ≤ k := by omega
  simp [wsT4, wsT3, wsT2, wsT1, sealedW, sealB, sealW, newW, layW, layK, lookW, tellW, armW, e, e2]
theorem ws0_7 (la lb : List UInt8) (k : Nat) (hk : k ≤ 1000000) : lookL (wsT6 0 la lb k) 0 = lb.take (min k lb.length) ++ (if k < lb.length ∧ k < la.length then la.drop k else []) := by
  have e : armN (k : Int) = k := by unfold armN; omega
  have h1 : sealNew (wsT4 0 la k) lb la = lb.take (min k lb.length) ++ (if k < lb.length ∧ k < la.length then la.drop k else []) := by
    refine sealNew_arm _ lb la k ?_ ?_
    · simp [wsT4, wsT3, wsT2, wsT1, sealedW, sealW, newW, layW, lookW, tellW, armW]
    · simp [wsT4, wsT3, wsT2, wsT1, sealedW, sealW, newW, layW, lookW, tellW, armW, e]
  rw [← h1]
  have h2 : (wsT4 0 la k).s0 = la := by simp [wsT4, wsT3, wsT2, wsT1, sealedW, sealW, newW, layW, lookW, tellW, armW, sealNew_free]
  have h3 : sealW (wsT4 0 la k) 0 = true := by simp [wsT4, wsT3, wsT2, wsT1, sealedW, sealW, newW, layW, lookW, tellW, armW]
  have h4 : ∀ z, (wsT4 0 la k).lies z = none := by intro z; simp [wsT4, wsT3, wsT2, wsT1, sealedW, sealW, newW, layW, lookW, tellW, armW]
  have h5 : (wsT5 0 la lb k).s0 = sealNew (wsT4 0 la k) lb la := by
    unfold wsT5 sealedW
    rw [if_pos h3, if_pos rfl, h2]
  have h6 : ∀ z, (wsT5 0 la lb k).lies z = none := by
    intro z
    unfold wsT5 sealedW
    rw [if_pos h3, if_pos rfl]
    show (layW _ _).lies z = none
    rw [(layW_same _ _).2.2.2.2.1]
    exact h4 z
  have h7 : sealW (wsT6 0 la lb k) 0 = true := by simp [wsT6, restartW, sealW]
  unfold lookL toldL sealL
  rw [if_pos h7, if_pos rfl, ← h5]
  show ((wsT5 0 la lb k).lies _).getD (wsT5 0 la lb k).s0 = _
  rw [h6]; rfl
theorem ws0_8 (la lb : List UInt8) (k : Nat) : lookL (wsT7 0 la lb k) 1 = oth := by
  have h2 : (wsT4 0 la k).s1 = oth := by simp [wsT4, wsT3, wsT2, wsT1, sealedW, sealW, newW, layW, lookW, tellW, armW, sealNew_free]
  have h3 : sealW (wsT4 0 la k) 0 = true := by simp [wsT4, wsT3, wsT2, wsT1, sealedW, sealW, newW, layW, lookW, tellW, armW]
  have h4 : ∀ z, (wsT4 0 la k).lies z = none := by intro z; simp [wsT4, wsT3, wsT2, wsT1, sealedW, sealW, newW, layW, lookW, tellW, armW]
  have h5 : (wsT5 0 la lb k).s1 = oth := by
    unfold wsT5 sealedW
    rw [if_pos h3, if_pos rfl]
    show (layW _ _).s1 = oth
    rw [(layW_same _ _).2.2.2.1]
    exact h2
  have h6 : ∀ z, (wsT5 0 la lb k).lies z = none := by
    intro z
    unfold wsT5 sealedW
    rw [if_pos h3, if_pos rfl]
    show (layW _ _).lies z = none
    rw [(layW_same _ _).2.2.2.2.1]
    exact h4 z
  have h7 : sealW (wsT6 0 la lb k) 0 = true := by simp [wsT6, restartW, sealW]
  have e7 : wsT7 0 la lb k = tellW (wsT6 0 la lb k) 3 0 0 (sealL (wsT6 0 la lb k) 0) := by unfold wsT7 lookW; rw [if_pos h7]
  have h8 : sealW (wsT7 0 la lb k) 1 = true := by rw [e7]; simp [tellW, wsT6, restartW, sealW]
  have h9 : (wsT7 0 la lb k).s1 = oth := by rw [e7]; exact h5
  have h10 : ∀ z, (wsT7 0 la lb k).lies z = none := by
    intro z
    rw [e7]
    show (if z = _ then none else (wsT5 0 la lb k).lies z) = none
    rw [h6]; split <;> rfl
  unfold lookL toldL sealL
  rw [if_pos h8, if_neg (by decide), h10, h9]; rfl
theorem ws1_1 (la : List UInt8) : sealB (newW 1) 1 la = true := by simp [sealB, sealW, newW, layK]
theorem ws1_2 (la : List UInt8) : sealB (wsT1 1 la) 0 oth = true := by simp [wsT1, sealB, sealedW, sealW, newW, layK, layW]
theorem ws1_3 (la : List UInt8) : lookL (wsT2 1 la) 1 = la := by
  simp [wsT2, wsT1, sealedW, sealW, newW, layW, lookL, toldL, sealL, sealNew_free]
theorem ws1_5 (la lb : List UInt8) (k : Nat) (hk : k ≤ 1000000) : sealB (wsT4 1 la k) 1 lb = decide (lb.length ≤ k) := by
  have e : armN (k : Int) = k := by unfold armN; omega
  have e2 : (min lb.length k = lb.length) ↔ lb.length ≤ k := by omega
  simp [wsT4, wsT3, wsT2, wsT1, sealedW, sealB, sealW, newW, layW, layK, lookW, tellW, armW, e, e2]
theorem ws1_7 (la lb : List UInt8) (k : Nat) (hk : k ≤ 1000000) : lookL (wsT6 1 la lb k) 1 = lb.take (min k lb.length) ++ (if k < lb.length ∧ k < la.length then la.drop k else []) := by
  have e : armN (k : Int) = k := by unfold armN; omega
  have h1 : sealNew (wsT4 1 la k) lb la = lb.take (min k lb.length) ++ (if k < lb.length ∧ k < la.length then la.drop k else []) := by
    refine sealNew_arm _ lb la k ?_ ?_
    · simp [wsT4, wsT3, wsT2, wsT1, sealedW, sealW, newW, layW, lookW, tellW, armW]
    · simp [wsT4, wsT3, wsT2, wsT1, sealedW, sealW, newW, layW, lookW, tellW, armW, e]
  rw [← h1]
  have h2 : (wsT4 1 la k).s1 = la := by simp [wsT4, wsT3, wsT2, wsT1, sealedW, sealW, newW, layW, lookW, tellW, armW, sealNew_free]
  have h3 : sealW (wsT4 1 la k) 1 = true := by simp [wsT4, wsT3, wsT2, wsT1, sealedW, sealW, newW, layW, lookW, tellW, armW]
  have h4 : ∀ z, (wsT4 1 la k).lies z = none := by intro z; simp [wsT4, wsT3, wsT2, wsT1, sealedW, sealW, newW, layW, lookW, tellW, armW]
  have h5 : (wsT5 1 la lb k).s1 = sealNew (wsT4 1 la k) lb la := by
    unfold wsT5 sealedW
    rw [if_pos h3, if_neg (by decide), h2]
  have h6 : ∀ z, (wsT5 1 la lb k).lies z = none := by
    intro z
    unfold wsT5 sealedW
    rw [if_pos h3, if_neg (by decide)]
    show (layW _ _).lies z = none
    rw [(layW_same _ _).2.2.2.2.1]
    exact h4 z
  have h7 : sealW (wsT6 1 la lb k) 1 = true := by simp [wsT6, restartW, sealW]
  unfold lookL toldL sealL
  rw [if_pos h7, if_neg (by decide), ← h5]
  show ((wsT5 1 la lb k).lies _).getD (wsT5 1 la lb k).s1 = _
  rw [h6]; rfl
theorem ws1_8 (la lb : List UInt8) (k : Nat) : lookL (wsT7 1 la lb k) 0 = oth := by
  have h2 : (wsT4 1 la k).s0 = oth := by simp [wsT4, wsT3, wsT2, wsT1, sealedW, sealW, newW, layW, lookW, tellW, armW, sealNew_free]
  have h3 : sealW (wsT4 1 la k) 1 = true := by simp [wsT4, wsT3, wsT2, wsT1, sealedW, sealW, newW, layW, lookW, tellW, armW]
  have h4 : ∀ z, (wsT4 1 la k).lies z = none := by intro z; simp [wsT4, wsT3, wsT2, wsT1, sealedW, sealW, newW, layW, lookW, tellW, armW]
  have h5 : (wsT5 1 la lb k).s0 = oth := by
    unfold wsT5 sealedW
    rw [if_pos h3, if_neg (by decide)]
    show (layW _ _).s0 = oth
    rw [(layW_same _ _).2.2.1]
    exact h2
  have h6 : ∀ z, (wsT5 1 la lb k).lies z = none := by
    intro z
    unfold wsT5 sealedW
    rw [if_pos h3, if_neg (by decide)]
    show (layW _ _).lies z = none
    rw [(layW_same _ _).2.2.2.2.1]
    exact h4 z
  have h7 : sealW (wsT6 1 la lb k) 1 = true := by simp [wsT6, restartW, sealW]
  have e7 : wsT7 1 la lb k = tellW (wsT6 1 la lb k) 3 1 0 (sealL (wsT6 1 la lb k) 1) := by unfold wsT7 lookW; rw [if_pos h7]
  have h8 : sealW (wsT7 1 la lb k) 0 = true := by rw [e7]; simp [tellW, wsT6, restartW, sealW]
  have h9 : (wsT7 1 la lb k).s0 = oth := by rw [e7]; exact h5
  have h10 : ∀ z, (wsT7 1 la lb k).lies z = none := by
    intro z
    rw [e7]
    show (if z = _ then none else (wsT5 1 la lb k).lies z) = none
    rw [h6]; split <;> rfl
  unfold lookL toldL sealL
  rw [if_pos h8, if_pos rfl, h10, h9]; rfl
end Go.Proofs.Ytockhfgjkhpphaa
