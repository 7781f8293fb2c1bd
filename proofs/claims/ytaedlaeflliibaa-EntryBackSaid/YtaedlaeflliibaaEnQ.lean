/- Entries that rise, entries that are right; where a name is, over lists. No program is named here. -/
import Derived.Test.YtaedlaeflliibaaEnP
namespace Go.Proofs.Ytaedlaeflliibaa
open Go.RowKit

theorem u8lt_trans {a b c : List UInt8} (h : a < b) (k : b < c) : a < c := List.lt_trans h k
theorem u8lt_irrefl (a : List UInt8) : ¬ a < a := List.lt_irrefl a
theorem u8lt_tri {a b : List UInt8} (h : ¬ a < b) (k : a ≠ b) : b < a := by
  by_cases hba : b < a
  · exact hba
  · exact absurd (List.le_antisymm (List.not_lt.1 hba) (List.not_lt.1 h)) k
/-- does each name stand above the one ahead of it? -/
def riseL : List En → Bool
  | [] => true
  | [_] => true
  | x :: y :: r => decide (x.1 < y.1) && riseL (y :: r)
def Up (l : List En) : Prop := l.Pairwise fun a b => a.1 < b.1
theorem riseL_up : ∀ l : List En, riseL l = true ↔ Up l
  | [] => by simp [riseL, Up]
  | [_] => by simp [riseL, Up]
  | x :: y :: r => by
    have ih := riseL_up (y :: r)
    unfold riseL
    rw [Bool.and_eq_true, ih, decide_eq_true_eq]
    unfold Up
    constructor
    · rintro ⟨h1, h2⟩
      refine List.pairwise_cons.2 ⟨fun z hz => ?_, h2⟩
      rcases List.mem_cons.1 hz with rfl | hz
      · exact h1
      · exact u8lt_trans h1 ((List.pairwise_cons.1 h2).1 z hz)
    · intro h
      exact ⟨(List.pairwise_cons.1 h).1 y (List.mem_cons_self ..), (List.pairwise_cons.1 h).2⟩
theorem Up.at {l : List En} (h : Up l) {i j : Nat} (hij : i < j) (hj : j < l.length) : l[i].1 < l[j].1 := List.pairwise_iff_getElem.1 h i j (by omega) hj hij
theorem up_of_next {l : List En} (h : ∀ i (hi : i + 1 < l.length), l[i].1 < l[i + 1].1) : Up l := by
  induction l with
  | nil => exact List.Pairwise.nil
  | cons x r ih =>
    refine (riseL_up _).1 ?_
    cases r with
    | nil => rfl
    | cons y r =>
      unfold riseL
      rw [Bool.and_eq_true, decide_eq_true_eq]
      exact ⟨h 0 (by simp), (riseL_up _).2 (ih fun i hi => by
        have := h (i + 1) (by simpa using hi)
        simpa using this)⟩
/-- may a directory have just those? -/
def rightE (l : List En) : Bool := (decide (l.length ≤ 560) && riseL l) && l.all okE
theorem rise_false {l : List En} {i : Nat} (hi : i + 1 < l.length) (h : ¬ l[i].1 < l[i + 1].1) : riseL l = false := by
  cases e : riseL l with
  | false => rfl
  | true => exact absurd (((riseL_up l).1 e).at (by omega) hi) h
theorem rise_true {l : List En} (h : ∀ i (hi : i + 1 < l.length), l[i].1 < l[i + 1].1) : riseL l = true := (riseL_up l).2 (up_of_next h)
end Go.Proofs.Ytaedlaeflliibaa
