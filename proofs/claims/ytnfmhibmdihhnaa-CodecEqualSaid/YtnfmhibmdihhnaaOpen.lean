/- Arguments that came in, as the walks read them: byte slices, slices of numbers, lists of byte slices. No program is named here. -/
import Derived.Test.YtnfmhibmdihhnaaBase
import Derived.ProofKit
import Derived.OpenShut
import Derived.ChangeOld
import Derived.Below
import Derived.Deep.Matrix
namespace Go.Proofs.Ytnfmhibmdihhnaa
open Go.ChangeShapes Go.WideShapes Go.ChangeAt Go.RowKit Go.Deep

theorem spot_of_cell {w : World} {a : Addr} {v : Value} (h : w.cell? a = some v) : a.spot = none := by
  unfold World.cell? at h
  split at h
  · split at h
    · cases h
    · rename_i hs
      cases hsp : a.spot with
      | none => rfl
      | some x => simp [hsp] at hs
  · cases h
theorem add_none (a : Addr) : a.add 0 = a := by simp [Addr.add]
theorem addr_lit {a : Addr} (h : a.spot = none) : a = ⟨a.block, a.off, none⟩ := by
  obtain ⟨b, o, s⟩ := a
  simp at h; subst h; rfl

def bytesOfInts (zs : List Int) : List UInt8 := zs.map fun z => UInt8.ofNat z.toNat
theorem byte_back {z : Int} (h : (Lit.int .u8 z).wf = true) : (((UInt8.ofNat z.toNat).toNat : Nat) : Int) = z := by
  have hb : 0 ≤ z ∧ z ≤ 255 := by simpa [Lit.wf, IntKind.min, IntKind.max, IntKind.signed, IntKind.bits] using h
  have : (UInt8.ofNat z.toNat).toNat = z.toNat % 256 := rfl
  omega
theorem bs_of_cells {w : World} {a : Addr} {len cap : Nat} {zs : List Int} (hl : len ≤ cap) (hm : cap ≤ maxLen) (hz : zs.length = cap) (hcell : ∀ i, i < zs.length → w.cell? (a.add i) = some (.int .u8 (zs.getD i 0)))
    (hw : ∀ n ∈ zs, (Lit.int .u8 n).wf = true) : Bs w w.heap.size (some a) len cap (bytesOfInts (zs.take len)) := by
  refine ⟨by simp [bytesOfInts]; omega, hl, hm, (fun h => by cases h), fun h0 => ?_⟩
  have h1 := hcell 0 (by omega)
  rw [add_none] at h1
  have hs := spot_of_cell h1
  refine ⟨a.block, a.off, by rw [← addr_lit hs], World.block_lt_of_cell? w a h1, fun j hj => ?_⟩
  have hj' : j < zs.length := by simp [bytesOfInts] at hj; omega
  have h2 := hcell j hj'
  rw [addr_lit hs, Addr.add_lit] at h2
  rw [h2]
  simp only [bytesOfInts, List.getElem_map, List.getElem_take]
  rw [byte_back (hw _ (List.getElem_mem hj'))]
  simp [List.getD, List.getElem?_eq_getElem hj']

section
variable {H : Type} {P : Program} {enc : TypeId × Value → H} {W : World} {t e : TypeId} {a : Option Addr} {len cap : Nat} {d : DataW H} {p : List MemPlace}

/-- a byte slice -/
theorem bs_open (ht : P.underlying t = some (.slice e)) (he : P.underlying e = some (.int .u8)) (hc : P.cellsOf e = 1)
    (h : DataW.Trod enc P W 0 (fun _ => true) true t (.slice a len cap) d p) : ∃ l, Bs W W.heap.size a len cap l := by
  obtain ⟨fuel, hf⟩ := h
  rcases open_ints ht he hc hf with ⟨hcs, _⟩ | ⟨x, l, c, zs, hcs, _, hl, hm, hz, _, hcell, hwz⟩
  · simp [Value.cells] at hcs
    obtain ⟨rfl, rfl, rfl⟩ := hcs
    exact ⟨[], Bs.zero _ _⟩
  · simp [Value.cells] at hcs
    obtain ⟨rfl, rfl, rfl⟩ := hcs
    exact ⟨_, bs_of_cells hl hm (by simpa using hz) hcell hwz⟩
/-- a slice of numbers -/
theorem zs_open {k : IntKind} (ht : P.underlying t = some (.slice e)) (he : P.underlying e = some (.int k)) (hc : P.cellsOf e = 1)
    (h : DataW.Trod enc P W 0 (fun _ => true) true t (.slice a len cap) d p) : ∃ zs, Zs W W.heap.size k a len cap zs := by
  obtain ⟨fuel, hf⟩ := h
  rcases open_ints ht he hc hf with ⟨hcs, _⟩ | ⟨x, l, c, zs, hcs, _, hl, hm, hz, _, hcell, hwz⟩
  · simp [Value.cells] at hcs
    obtain ⟨rfl, rfl, rfl⟩ := hcs
    exact ⟨[], rfl, Nat.le_refl _, Nat.zero_le _, fun _ => rfl, (fun z hz => by cases hz), fun h => absurd h (by omega)⟩
  · simp [Value.cells] at hcs
    obtain ⟨rfl, rfl, rfl⟩ := hcs
    have hz' : zs.length = cap := by simpa using hz
    refine ⟨zs.take len, by simp; omega, hl, hm, (fun h => by cases h), fun z hz => hwz z (List.mem_of_mem_take hz), fun h0 => ?_⟩
    have h1 := hcell 0 (by omega)
    rw [add_none] at h1
    have hs := spot_of_cell h1
    refine ⟨x.block, x.off, by rw [← addr_lit hs], World.block_lt_of_cell? W x h1, fun j hj => ?_⟩
    have hj' : j < zs.length := by simp at hj; omega
    have h2 := hcell j hj'
    rw [addr_lit hs, Addr.add_lit] at h2
    rw [h2]
    simp [List.getD, List.getElem?_eq_getElem hj']
/-- a list of byte slices -/
theorem ls_open {q : TypeId} (ht : P.underlying t = some (.slice e)) (he : P.underlying e = some (.slice q)) (hq : P.underlying q = some (.int .u8)) (ce : P.cellsOf e = 1) (cq : P.cellsOf q = 1)
    (h : DataW.Trod enc P W 0 (fun _ => true) true t (.slice a len cap) d p) : ∃ ls, Ls W W.heap.size a len cap ls := by
  obtain ⟨fuel, hf⟩ := h
  rcases open_int_rows ht he hq ce cq hf with ⟨hcs, _⟩ | ⟨x, l, c, A, L, C, Z, hcs, _, hl, hm, _, hrow⟩
  · simp [Value.cells] at hcs
    obtain ⟨rfl, rfl, rfl⟩ := hcs
    exact ⟨[], Ls.zero _ _⟩
  · simp [Value.cells] at hcs
    obtain ⟨rfl, rfl, rfl⟩ := hcs
    refine ⟨(List.range len).map fun r => bytesOfInts ((Z r).take (L r)), by simp, hl, hm, (fun h => by cases h), fun h0 => ?_⟩
    have h1 := (hrow 0 (by omega)).1
    rw [add_none] at h1
    have hs := spot_of_cell h1
    refine ⟨x.block, x.off, by rw [← addr_lit hs], World.block_lt_of_cell? W x h1, fun j hj => ?_⟩
    have hj' : j < len := by simpa using hj
    obtain ⟨hc, hL, hC, hZ, hw, hn, hA⟩ := hrow j (by omega)
    refine ⟨A j, L j, C j, ?_, ?_⟩
    · rw [addr_lit hs, Addr.add_lit] at hc
      exact hc
    · simp only [List.getElem_map, List.getElem_range]
      cases hAj : A j with
      | none =>
        have h2 := hn hAj
        have h3 : L j = 0 := by omega
        rw [h2, h3]
        simp [bytesOfInts]
        exact Bs.zero _ _
      | some a' =>
        refine bs_of_cells hL hC hZ (fun i hi => ?_) hw
        exact (hA a' hAj).2 i (by omega)
end
end Go.Proofs.Ytnfmhibmdihhnaa
