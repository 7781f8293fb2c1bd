/- Rows of numbers that a call makes; fields by how long each is. No program is named here. -/
import Derived.Test.YtmiobgongddaiaaLists
namespace Go.Proofs.Ytmiobgongddaiaa
open Go.RowKit

/-- numbers as cells -/
def cellsZ (zs : List Int) : List Value := zs.map (Value.int .i64)
theorem cellsZ_length (zs : List Int) : (cellsZ zs).length = zs.length := by simp [cellsZ]
theorem Zs.of_own {w : World} {base : Nat} {e : TypeId} {v : Value} {n : Nat} {zs : List Int} (h : w.ownsRow base e 1 v n (cellsZ zs)) (hw : ∀ z ∈ zs, (Lit.int .i64 z).wf = true) : ∃ A c, v = .slice A n c ∧ Zs w w.heap.size .i64 A n c zs := by
  have hl : zs.length = n := by have := h.1; rw [cellsZ_length] at this; omega
  rcases h.2 with ⟨rfl, rfl⟩ | ⟨g, cap, cur, rfl, hg, hh, hn, hm, hs, ht⟩
  · obtain rfl : zs = [] := List.eq_nil_of_length_eq_zero hl
    exact ⟨none, 0, rfl, rfl, Nat.le_refl _, Nat.zero_le _, fun _ => rfl, (fun z hz => by cases hz), fun h => absurd h (by omega)⟩
  · refine ⟨some ⟨g, 0, none⟩, cap, rfl, hl, hn, hm, (fun h => by cases h), hw, fun h0 => ⟨g, 0, rfl, (Array.getElem?_eq_some_iff.1 hh).1, fun j hj => ?_⟩⟩
    have := h.cells (g := g) rfl j (.int .i64 zs[j]) (by simp [cellsZ, List.getElem?_eq_getElem hj])
    rwa [Addr.add_lit] at this

/-- how long each is -/
def lens (ls : List (List UInt8)) : List Int := ls.map fun x => (x.length : Int)
theorem lens_length (ls : List (List UInt8)) : (lens ls).length = ls.length := by simp [lens]
theorem lens_take (ls : List (List UInt8)) (k : Nat) : (lens ls).take k = lens (ls.take k) := by simp [lens, List.map_take]
theorem lens_snoc (ls : List (List UInt8)) (k : Nat) (h : k < ls.length) : lens (ls.take (k + 1)) = lens (ls.take k) ++ [(ls[k].length : Int)] := by
  rw [List.take_succ_eq_append_getElem h]; unfold lens; rw [List.map_append]; rfl
theorem off_lens (ls : List (List UInt8)) : off (lens ls) (lens ls).length = ls.flatten.length := by
  unfold off
  rw [List.take_of_length_le (Nat.le_refl _)]
  induction ls with
  | nil => rfl
  | cons x ls ih => simp only [lens, List.map_cons, List.sum_cons, List.flatten_cons, List.length_append] at ih ⊢; rw [ih]; simp
theorem fields_lens (ls : List (List UInt8)) : fieldsL ls.flatten (lens ls) = ls := by
  induction ls with
  | nil => rfl
  | cons x ls ih => simp only [lens, List.map_cons, List.flatten_cons, fieldsL] at ih ⊢; simp [ih]
theorem cut_lens (ls : List (List UInt8)) : cutE ls.flatten (lens ls) = 0 ∧ cutF ls.flatten (lens ls) = ls := by
  have h := off_lens ls
  have h1 : cutE ls.flatten (lens ls) = 0 := cutE_ok h
  exact ⟨h1, by rw [cutF_ok h1, fields_lens]⟩
theorem cut_lens_more (ls : List (List UInt8)) (b : UInt8) : cutE (ls.flatten ++ [b]) (lens ls) = 4 := by
  have h := off_lens ls
  exact cutE_left (rn := 1) (by rw [h]; simp) (by omega)
theorem cut_lens_less (ls : List (List UInt8)) (k : Nat) (h0 : k < ls.flatten.length) : cutE (ls.flatten.take k) (lens ls) = 3 := by
  have h := off_lens ls
  unfold cutE
  rw [h, if_pos (by rw [List.length_take]; omega)]
end Go.Proofs.Ytmiobgongddaiaa
