/- Chapter 14's answers over lists: names, entries that are right, what is found, put, dropped. No program is named here. -/
import Derived.Test.YtaedlaeflliibaaEnT
import Derived.Sort.Walk0
import Derived.Lib.Bytealg
import Derived.Laws.RangeAny
namespace Go.Proofs.Ytaedlaeflliibaa
open Go.RowKit

/-- a byte that no name has -/
def slB (b : UInt8) : Bool := b == 0 || b == 47
def dotL : List UInt8 := [46]
def dotsL : List UInt8 := [46, 46]
/-- may a name be? -/
def okNm (l : List UInt8) : Bool := (!(l.any slB) && decide (1 ≤ l.length) && decide (l.length ≤ 27)) && !(l == dotL) && !(l == dotsL)
/-- may an entry be? -/
def okE (x : En) : Bool := okNm x.1 && decide (1 ≤ x.2) && decide (x.2 ≤ 65535)
theorem slB_iff (b : UInt8) : slB b = true ↔ b.toNat = 0 ∨ b.toNat = 47 := by
  unfold slB
  simp only [Bool.or_eq_true, beq_iff_eq]
  constructor
  · rintro (rfl | rfl)
    · exact .inl rfl
    · exact .inr rfl
  · rintro (h | h)
    · exact .inl (UInt8.toNat_inj.1 h)
    · exact .inr (UInt8.toNat_inj.1 h)
theorem any_take_succ {α : Type} (p : α → Bool) (l : List α) (k : Nat) (h : k < l.length) : (l.take (k + 1)).any p = ((l.take k).any p || p l[k]) := by
  rw [List.take_succ_eq_append_getElem h, List.any_append]; simp
theorem any_of_at {α : Type} (p : α → Bool) (l : List α) (k : Nat) (h : k < l.length) (hp : p l[k] = true) : l.any p = true := List.any_eq_true.2 ⟨_, List.getElem_mem h, hp⟩
theorem any_skip {α : Type} (p : α → Bool) (l : List α) (k m : Nat) (h : (l.take k).any p = false) (hm : ∀ j (hj : j < l.length), k ≤ j → j < k + m → p l[j] = false) : (l.take (k + m)).any p = false := by
  induction m with
  | zero => exact h
  | succ m ih =>
    have ih := ih fun j hj h1 h2 => hm j hj h1 (by omega)
    by_cases hlt : k + m < l.length
    · rw [← Nat.add_assoc, any_take_succ p l _ hlt, ih, hm _ hlt (by omega) (by omega)]; rfl
    · rw [List.take_of_length_le (by omega)] at ih ⊢; exact ih
theorem get_bytes (l : List UInt8) (pos k : Nat) (h : pos + k < l.length) : (ByteArray.mk l.toArray).get! (pos + k) = l[pos + k] := by
  have := get_at ⟨l.toArray⟩ (pos + k) (by simpa [ByteArray.size] using h)
  simp only [Nat.add_zero] at this
  rw [this]; rfl
/-- a rune that is more than one byte, or none: what is skipped are no bytes below 128 -/
theorem decode_skip (l : List UInt8) (pos : Nat) (h : pos < l.length) (ha : 128 ≤ l[pos].toNat) :
    128 ≤ (Utf8.decode ⟨l.toArray⟩ pos).1 ∧ 1 ≤ (Utf8.decode ⟨l.toArray⟩ pos).2 ∧ (∀ j (hj : j < l.length), pos ≤ j → j < pos + (Utf8.decode ⟨l.toArray⟩ pos).2 → 128 ≤ l[j].toNat) ∧ pos + (Utf8.decode ⟨l.toArray⟩ pos).2 ≤ l.length := by
  have hsz : (ByteArray.mk l.toArray).size = l.length := by simp [ByteArray.size]
  have hh := decode_high ⟨l.toArray⟩ pos (by rw [hsz]; exact h) ha
  refine ⟨hh.1, hh.2, ?_⟩
  have g0 : (ByteArray.mk l.toArray).get! (pos + 0) = l[pos] := get_bytes l pos 0 h
  have hn : ¬ l[pos].toNat < 128 := by omega
  have key : ∀ k, (pos + k < (ByteArray.mk l.toArray).size && ((ByteArray.mk l.toArray).get! (pos + k)).toNat / 64 == 2) = true → ∃ hk : pos + k < l.length, 128 ≤ l[pos + k].toNat := by
    intro k hk
    simp only [Bool.and_eq_true, decide_eq_true_eq, beq_iff_eq, hsz] at hk
    refine ⟨hk.1, ?_⟩
    have h2 := hk.2
    rw [get_bytes l pos k hk.1] at h2
    omega
  have done : ∀ m, (∀ k, 1 ≤ k → k < m → ∃ hk : pos + k < l.length, 128 ≤ l[pos + k].toNat) → 1 ≤ m → (∀ j (hj : j < l.length), pos ≤ j → j < pos + m → 128 ≤ l[j].toNat) ∧ pos + m ≤ l.length := by
    intro m hm h1
    refine ⟨fun j hj h2 h3 => ?_, ?_⟩
    · by_cases e : j = pos
      · subst e; exact ha
      · obtain ⟨_, h5⟩ := hm (j - pos) (by omega) (by omega)
        have e2 : pos + (j - pos) = j := by omega
        simp only [e2] at h5
        exact h5
    · by_cases e : m = 1
      · omega
      · obtain ⟨h5, _⟩ := hm (m - 1) (by omega) (by omega)
        omega
  have one : (∀ j (hj : j < l.length), pos ≤ j → j < pos + 1 → 128 ≤ l[j].toNat) ∧ pos + 1 ≤ l.length := done 1 (fun k h1 h2 => by omega) (Nat.le_refl _)
  simp only [Utf8.decode, g0, hn, if_false]
  split
  · rename_i hc
    simp only [Bool.and_eq_true] at hc
    split
    · exact done 2 (fun k h1 h2 => by obtain rfl : k = 1 := by omega
                                      exact key 1 (by simpa using hc.2)) (by omega)
    · exact one
  · split
    · rename_i hc
      simp only [Bool.and_eq_true] at hc
      split
      · exact done 3 (fun k h1 h2 => by
          rcases (by omega : k = 1 ∨ k = 2) with rfl | rfl
          · exact key 1 (by simpa using hc.1.2)
          · exact key 2 (by simpa using hc.2)) (by omega)
      · exact one
    · split
      · rename_i hc
        simp only [Bool.and_eq_true] at hc
        split
        · exact done 4 (fun k h1 h2 => by
            rcases (by omega : k = 1 ∨ k = 2 ∨ k = 3) with rfl | rfl | rfl
            · exact key 1 (by simpa using hc.1.1.2)
            · exact key 2 (by simpa using hc.1.2)
            · exact key 3 (by simpa using hc.2)) (by omega)
        · exact one
      · exact one
end Go.Proofs.Ytaedlaeflliibaa
