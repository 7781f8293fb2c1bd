/- What the bound of an '..UptoSaid' says of byte slices and of lists of them. -/
import Derived.Test.YtnpodomdagodbaaRows
import Derived.Test.YtnpodomdagodbaaOpen
namespace Go.Proofs.Ytnpodomdagodbaa
open Go.ChangeShapes Go.WideShapes Go.ChangeAt Go.RowKit Go.Deep

/-- the elements of a slice's reading -/
def elemsOf {H : Type} : DataW H → List (DataW H)
  | .slice es _ => es
  | _ => []
theorem bulk_pos {H : Type} (d : DataW H) : 1 ≤ Rows.uptoBulk d := by
  cases d <;> try (simp only [Rows.uptoBulk]; omega)
  rename_i l; cases l <;> simp only [Rows.uptoBulk] <;> omega
theorem bulk_length {H : Type} (l : List (DataW H)) : l.length ≤ Rows.uptoBulkAll l := by
  induction l with
  | nil => simp [Rows.uptoBulkAll]
  | cons x r ih => have := bulk_pos x; simp only [Rows.uptoBulkAll, List.length_cons]; omega
theorem bulk_elems {H : Type} (d : DataW H) : Rows.uptoBulkAll (elemsOf d) ≤ Rows.uptoBulk d := by
  cases d <;> simp only [elemsOf, Rows.uptoBulk, Rows.uptoBulkAll] <;> omega
theorem bulk_len {H : Type} (d : DataW H) : (elemsOf d).length ≤ Rows.uptoBulk d := Nat.le_trans (bulk_length _) (bulk_elems d)
theorem bulk_inner {H : Type} (l : List (DataW H)) : (l.map fun x => (elemsOf x).length).sum ≤ Rows.uptoBulkAll l := by
  induction l with
  | nil => simp [Rows.uptoBulkAll]
  | cons x r ih => have := bulk_len x; simp only [Rows.uptoBulkAll, List.map_cons, List.sum_cons]; omega

section
variable {H : Type} {P : Program} {enc : TypeId × Value → H} {W : World} {t e : TypeId} {a : Option Addr} {len cap : Nat} {d : DataW H} {p : List MemPlace}
theorem bs_size {k : IntKind} (ht : P.underlying t = some (.slice e)) (he : P.underlying e = some (.int k)) (hc : P.cellsOf e = 1)
    (h : DataW.Trod enc P W 0 (fun _ => true) true t (.slice a len cap) d p) : (elemsOf d).length = len := by
  obtain ⟨fuel, hf⟩ := h
  rcases open_ints ht he hc hf with ⟨hcs, hx⟩ | ⟨x, l, c, zs, hcs, _, hl, hm, hz, hx, hcell, hwz⟩
  · simp [Value.cells] at hcs
    obtain ⟨rfl, rfl, rfl⟩ := hcs
    obtain ⟨rfl, _⟩ := Prod.mk.inj hx
    rfl
  · simp [Value.cells] at hcs
    obtain ⟨rfl, rfl, rfl⟩ := hcs
    obtain ⟨rfl, _⟩ := Prod.mk.inj hx
    have hz' : zs.length = cap := by simpa using hz
    simp [elemsOf, lits]; omega
theorem flat_sum (ls : List (List UInt8)) : ls.flatten.length = (ls.map List.length).sum := by simp
theorem ls_size {q : TypeId} {B : Nat} {ls : List (List UInt8)} (ht : P.underlying t = some (.slice e)) (he : P.underlying e = some (.slice q)) (hq : P.underlying q = some (.int .u8)) (ce : P.cellsOf e = 1) (cq : P.cellsOf q = 1)
    (h : DataW.Trod enc P W 0 (fun _ => true) true t (.slice a len cap) d p) (hls : Ls W B a len cap ls) : (elemsOf d).length = len ∧ ls.flatten.length = ((elemsOf d).map fun x => (elemsOf x).length).sum := by
  obtain ⟨fuel, hf⟩ := h
  rcases open_int_rows ht he hq ce cq hf with ⟨hcs, hx⟩ | ⟨x, l, c, A, L, C, Z, hcs, _, hl, hm, hx, hrow⟩
  · simp [Value.cells] at hcs
    obtain ⟨rfl, rfl, rfl⟩ := hcs
    obtain ⟨rfl, _⟩ := Prod.mk.inj hx
    obtain rfl : ls = [] := List.eq_nil_of_length_eq_zero hls.len
    exact ⟨rfl, rfl⟩
  · simp [Value.cells] at hcs
    obtain ⟨rfl, rfl, rfl⟩ := hcs
    obtain ⟨rfl, _⟩ := Prod.mk.inj hx
    refine ⟨by simp [elemsOf], ?_⟩
    rw [flat_sum]
    congr 1
    apply List.ext_getElem
    · simp [elemsOf, hls.len]
    · intro r h1 h2
      have hr : r < len := by simpa [hls.len] using h1
      obtain ⟨b, o, A', n', c', hA, _, hcell, hbs⟩ := hls.at hr
      obtain ⟨hc, hL, hC, hZ, hw, hn, hAA⟩ := hrow r (by omega)
      have hx1 := Option.some.inj hA
      subst hx1
      rw [Addr.add_lit, hcell] at hc
      have hc2 := Option.some.inj hc
      injection hc2 with e1 e2 e3
      simp only [elemsOf, List.getElem_map, List.getElem_range, hbs.len, e2]
      unfold intRow
      cases hAr : A r with
      | none => have := hn hAr; simp; omega
      | some a' => simp [lits]; omega
end
end Go.Proofs.Ytnpodomdagodbaa
