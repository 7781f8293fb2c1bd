/- The slices that a list of byte slices holds, as values. No program is named here. -/
import Derived.Test.YtnfmhibmdihhnaaLens
namespace Go.Proofs.Ytnfmhibmdihhnaa
open Go.RowKit

theorem Ls.vals {w : World} {B : Nat} {A : Option Addr} {n c : Nat} {ls : List (List UInt8)} (h : Ls w B A n c ls) (g : Option Nat) (hg : ∀ k, g = some k → B ≤ k) :
    ∃ vals, vals.length = n ∧ Fs w B g vals ls ∧ (∀ ad, A = some ad → ∀ j u, vals[j]? = some u → w.cell? (ad.add j) = some u) ∧ ∀ u ∈ vals, u.oneCell' = true := by
  rcases Nat.eq_zero_or_pos n with h0 | h0
  · subst h0
    obtain rfl : ls = [] := List.eq_nil_of_length_eq_zero h.len
    exact ⟨[], rfl, Fs.zero _ _ _, (fun _ _ j u hu => by simp at hu), fun u hu => by cases hu⟩
  · obtain ⟨b, o, rfl, hb, hc⟩ := h.cells h0
    have hl := h.len
    have key : ∀ j, j < n → ∃ A' n' c', w.cell? ⟨b, o + j, none⟩ = some (.slice A' n' c') ∧ ∀ (hj : j < ls.length), Bs w B A' n' c' ls[j] := by
      intro j hj
      obtain ⟨A', n', c', h1, h2⟩ := hc j (by omega)
      exact ⟨A', n', c', h1, fun _ => h2⟩
    refine ⟨(List.range n).map fun j => (w.cell? ⟨b, o + j, none⟩).getD undef, by simp, ⟨by simp [hl], fun j h1 h2 => ?_⟩, fun ad had j u hu => ?_, fun u hu => ?_⟩
    · have hj : j < n := by simpa using h1
      obtain ⟨A', n', c', h3, h4⟩ := key j hj
      refine ⟨A', n', c', by simp [h3], h4 h2, fun ad hA hn => ?_⟩
      obtain ⟨b', o', hA', hb', _⟩ := (h4 h2).cells hn
      rw [hA] at hA'
      obtain rfl := Option.some.inj hA'
      intro e
      have := hg _ e
      simp at this; omega
    · obtain rfl := Option.some.inj had
      have hj : j < n := by
        have := (List.getElem?_eq_some_iff.1 hu).1
        simpa using this
      obtain ⟨A', n', c', h3, _⟩ := key j hj
      rw [Addr.add_lit, h3]
      simp [hj, h3] at hu
      rw [hu]
    · obtain ⟨j, hj, rfl⟩ := List.mem_map.1 hu
      obtain ⟨A', n', c', h3, _⟩ := key j (by simpa using hj)
      rw [h3]; rfl
theorem Fs.append {w : World} {B : Nat} {g : Option Nat} {v1 v2 : List Value} {f1 f2 : List (List UInt8)} (h1 : Fs w B g v1 f1) (h2 : Fs w B g v2 f2) : Fs w B g (v1 ++ v2) (f1 ++ f2) := by
  refine ⟨by simp [h1.len, h2.len], fun j hj1 hj2 => ?_⟩
  by_cases hj : j < v1.length
  · rw [List.getElem_append_left hj, List.getElem_append_left (by rw [← h1.len]; exact hj)]
    exact h1.at' j hj _
  · have e := h1.len
    rw [List.getElem_append_right (by omega), List.getElem_append_right (by omega)]
    have h3 := h2.at' (j - v1.length) (by simp at hj1; omega) (by simp at hj2; omega)
    simpa [e] using h3
/-- the widths that are asked for -/
def widths (ws : List UInt8) : List Int := ws.map fun x => ((x.toNat % 9 : Nat) : Int)
theorem widths_length (ws : List UInt8) : (widths ws).length = ws.length := by simp [widths]
theorem widths_snoc (ws : List UInt8) (k : Nat) (h : k < ws.length) : widths (ws.take (k + 1)) = widths (ws.take k) ++ [((ws[k].toNat % 9 : Nat) : Int)] := by
  rw [List.take_succ_eq_append_getElem h]; unfold widths; rw [List.map_append]; rfl
def widthSum (ws : List UInt8) : Nat := (ws.map fun x => x.toNat % 9).sum
theorem widthSum_snoc (ws : List UInt8) (k : Nat) (h : k < ws.length) : widthSum (ws.take (k + 1)) = widthSum (ws.take k) + ws[k].toNat % 9 := by
  rw [List.take_succ_eq_append_getElem h]; unfold widthSum; rw [List.map_append, List.sum_append]; rfl
theorem widthSum_off (ws : List UInt8) : off (widths ws) (widths ws).length = widthSum ws := by
  unfold off
  rw [List.take_of_length_le (Nat.le_refl _)]
  induction ws with
  | nil => rfl
  | cons x ws ih => simp only [widths, widthSum, List.map_cons, List.sum_cons] at ih ⊢; rw [ih]; omega
theorem field_len (b : List UInt8) (ws : List Int) (h : off ws ws.length ≤ b.length) (j : Nat) (hj : j < ws.length) : ((fieldsL b ws)[j]'(by rw [fieldsL_length]; exact hj)).length = ws[j].toNat := by
  induction ws generalizing b j with
  | nil => simp at hj
  | cons w ws ih =>
    have e : off (w :: ws) (w :: ws).length = w.toNat + off ws ws.length := by simp [off]
    rw [e] at h
    cases j with
    | zero => simp [fieldsL]; omega
    | succ j => simp only [fieldsL, List.getElem_cons_succ]; exact ih _ (by simp; omega) j (by simpa using hj)
theorem cutE_zero {b : List UInt8} {ws : List Int} : cutE b ws = 0 ↔ off ws ws.length = b.length := by
  unfold cutE; split <;> (try split) <;> omega
theorem cutE_three {b : List UInt8} {ws : List Int} : cutE b ws = 3 ↔ b.length < off ws ws.length := by
  unfold cutE; split <;> (try split) <;> omega
end Go.Proofs.Ytnfmhibmdihhnaa
