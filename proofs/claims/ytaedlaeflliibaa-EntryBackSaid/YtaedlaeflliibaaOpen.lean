/- Arguments that came in, as the walks read them: byte slices, slices of numbers, lists of byte slices. No program is named here. -/
import Derived.Test.YtaedlaeflliibaaBase
import Derived.ProofKit
import Derived.OpenShut
import Derived.ChangeOld
import Derived.Below
import Derived.Deep.Matrix
import Derived.SizedLaws
namespace Go.Proofs.Ytaedlaeflliibaa
open Go.ChangeShapes Go.WideShapes Go.ChangeAt Go.RowKit Go.Deep

theorem spot_of_cell {w : World} {a : Addr} {v : Value} (h : w.cell? a = some v) : a.spot = none := by
  unfold World.cell? at h
  split at h
  · split at h
    · cases h
    · rename_i hs
      cases hsp : a.spot with
      | none => rfl
      | some x => simp [hsp] at hs
  · cases h
theorem add_none (a : Addr) : a.add 0 = a := by simp [Addr.add]
theorem addr_lit {a : Addr} (h : a.spot = none) : a = ⟨a.block, a.off, none⟩ := by
  obtain ⟨b, o, s⟩ := a
  simp at h; subst h; rfl

def bytesOfInts (zs : List Int) : List UInt8 := zs.map fun z => UInt8.ofNat z.toNat
theorem byte_back {z : Int} (h : (Lit.int .u8 z).wf = true) : (((UInt8.ofNat z.toNat).toNat : Nat) : Int) = z := by
  have hb : 0 ≤ z ∧ z ≤ 255 := by simpa [Lit.wf, IntKind.min, IntKind.max, IntKind.signed, IntKind.bits] using h
  have : (UInt8.ofNat z.toNat).toNat = z.toNat % 256 := rfl
  omega
theorem bs_of_cells {w : World} {a : Addr} {len cap : Nat} {zs : List Int} (hl : len ≤ cap) (hm : cap ≤ maxLen) (hz : zs.length = cap) (hcell : ∀ i, i < zs.length → w.cell? (a.add i) = some (.int .u8 (zs.getD i 0)))
    (hw : ∀ n ∈ zs, (Lit.int .u8 n).wf = true) : Bs w w.heap.size (some a) len cap (bytesOfInts (zs.take len)) := by
  refine ⟨by simp [bytesOfInts]; omega, hl, hm, (fun h => by cases h), fun h0 => ?_⟩
  have h1 := hcell 0 (by omega)
  rw [add_none] at h1
  have hs := spot_of_cell h1
  refine ⟨a.block, a.off, by rw [← addr_lit hs], World.block_lt_of_cell? w a h1, fun j hj => ?_⟩
  have hj' : j < zs.length := by simp [bytesOfInts] at hj; omega
  have h2 := hcell j hj'
  rw [addr_lit hs, Addr.add_lit] at h2
  rw [h2]
  simp only [bytesOfInts, List.getElem_map, List.getElem_take]
  rw [byte_back (hw _ (List.getElem_mem hj'))]
  simp [List.getD, List.getElem?_eq_getElem hj']

section
variable {H : Type} {P : Program} {enc : TypeId × Value → H} {W : World} {t e : TypeId} {a : Option Addr} {len cap : Nat} {d : DataW H} {p : List MemPlace}

theorem mem_weightsAll {n : Nat} {x : DataW H} : ∀ {l : List (DataW H)}, x ∈ l → n ∈ x.weights P e → n ∈ DataW.weightsAll P e l
  | [], h, _ => by cases h
  | y :: r, h, hn => by
    simp only [DataW.weightsAll, List.mem_append]
    rcases List.mem_cons.1 h with rfl | h
    · exact .inl hn
    · exact .inr (mem_weightsAll h hn)
theorem reach_of {ts : List TypeId} {ds : List (DataW H)} (h : (DataW.weightsEach P ts ds).all (· ≤ reachBytes) = true) {j : Nat} (ht : ts[j]? = some t) (hd : ds[j]? = some d) : ∀ n ∈ d.weights P t, n ≤ reachBytes := by
  intro n hn
  have := List.all_eq_true.1 h _ (DataW.weights_mem_each ht hd n hn)
  simpa using this
theorem slice_reach {elems spare : List (DataW H)} (ht : P.underlying t = some (.slice e)) (h : ∀ n ∈ (DataW.slice elems spare).weights P t, n ≤ reachBytes) : (elems.length + spare.length) * P.bytesOf e ≤ reachBytes :=
  h _ (by simp [DataW.weights, ht])
theorem slice_reach_in {elems spare : List (DataW H)} (ht : P.underlying t = some (.slice e)) (h : ∀ n ∈ (DataW.slice elems spare).weights P t, n ≤ reachBytes) : ∀ x ∈ elems, ∀ n ∈ x.weights P e, n ≤ reachBytes :=
  fun x hx n hn => h n (by simp only [DataW.weights, ht]; exact List.mem_cons_of_mem _ (List.mem_append_left _ (mem_weightsAll hx hn)))

/-- a byte slice -/
theorem bs_open (ht : P.underlying t = some (.slice e)) (he : P.underlying e = some (.int .u8)) (hc : P.cellsOf e = 1) (hb : P.bytesOf e = 1)
    (h : DataW.Trod enc P W 0 (fun _ => true) true t (.slice a len cap) d p) (hr : ∀ n ∈ d.weights P t, n ≤ reachBytes) : ∃ l, Bs W W.heap.size a len cap l ∧ cap ≤ 140737488351232 := by
  obtain ⟨fuel, hf⟩ := h
  rcases open_ints ht he hc hf with ⟨hcs, _⟩ | ⟨x, l, c, zs, hcs, _, hl, hm, hz, hx, hcell, hwz⟩
  · simp [Value.cells] at hcs
    obtain ⟨rfl, rfl, rfl⟩ := hcs
    exact ⟨[], Bs.zero _ _, by omega⟩
  · simp [Value.cells] at hcs
    obtain ⟨rfl, rfl, rfl⟩ := hcs
    obtain ⟨rfl, _⟩ := Prod.mk.inj hx
    have h1 := slice_reach ht hr
    rw [hb] at h1
    simp only [lits, List.length_map, List.length_take, List.length_drop, reachBytes] at h1
    have hz' : zs.length = cap := by simpa using hz
    exact ⟨_, bs_of_cells hl hm hz' hcell hwz, by omega⟩
/-- a slice of numbers -/
theorem zs_open {k : IntKind} {by_ : Nat} (ht : P.underlying t = some (.slice e)) (he : P.underlying e = some (.int k)) (hc : P.cellsOf e = 1) (hb : P.bytesOf e = by_)
    (h : DataW.Trod enc P W 0 (fun _ => true) true t (.slice a len cap) d p) (hr : ∀ n ∈ d.weights P t, n ≤ reachBytes) : ∃ zs, Zs W W.heap.size k a len cap zs ∧ cap * by_ ≤ 140737488351232 := by
  obtain ⟨fuel, hf⟩ := h
  rcases open_ints ht he hc hf with ⟨hcs, _⟩ | ⟨x, l, c, zs, hcs, _, hl, hm, hz, hx, hcell, hwz⟩
  · simp [Value.cells] at hcs
    obtain ⟨rfl, rfl, rfl⟩ := hcs
    exact ⟨[], ⟨rfl, Nat.le_refl _, Nat.zero_le _, fun _ => rfl, (fun z hz => by cases hz), fun h => absurd h (by omega)⟩, by omega⟩
  · simp [Value.cells] at hcs
    obtain ⟨rfl, rfl, rfl⟩ := hcs
    obtain ⟨rfl, _⟩ := Prod.mk.inj hx
    have hz' : zs.length = cap := by simpa using hz
    refine ⟨zs.take len, ⟨by simp; omega, hl, hm, (fun h => by cases h), fun z hz => hwz z (List.mem_of_mem_take hz), fun h0 => ?_⟩, ?_⟩
    · have h1 := hcell 0 (by omega)
      rw [add_none] at h1
      have hs := spot_of_cell h1
      refine ⟨x.block, x.off, by rw [← addr_lit hs], World.block_lt_of_cell? W x h1, fun j hj => ?_⟩
      have hj' : j < zs.length := by simp at hj; omega
      have h2 := hcell j hj'
      rw [addr_lit hs, Addr.add_lit] at h2
      rw [h2]
      simp [List.getD, List.getElem?_eq_getElem hj']
    · have h1 := slice_reach ht hr
      rw [hb] at h1
      simp only [lits, List.length_map, List.length_take, List.length_drop, reachBytes] at h1
      rwa [show min len zs.length + (zs.length - len) = cap by omega] at h1
/-- a list of byte slices -/
theorem ls_open {q : TypeId} (ht : P.underlying t = some (.slice e)) (he : P.underlying e = some (.slice q)) (hq : P.underlying q = some (.int .u8)) (ce : P.cellsOf e = 1) (cq : P.cellsOf q = 1) (be : P.bytesOf e = 24) (bq : P.bytesOf q = 1)
    (h : DataW.Trod enc P W 0 (fun _ => true) true t (.slice a len cap) d p) (hr : ∀ n ∈ d.weights P t, n ≤ reachBytes) :
    ∃ ls, Ls W W.heap.size a len cap ls ∧ cap * 24 ≤ 140737488351232 ∧ ∀ x ∈ ls, x.length ≤ 140737488351232 := by
  obtain ⟨fuel, hf⟩ := h
  rcases open_int_rows ht he hq ce cq hf with ⟨hcs, _⟩ | ⟨x, l, c, A, L, C, Z, hcs, _, hl, hm, hx, hrow⟩
  · simp [Value.cells] at hcs
    obtain ⟨rfl, rfl, rfl⟩ := hcs
    exact ⟨[], Ls.zero _ _, by omega, fun x hx => by cases hx⟩
  · simp [Value.cells] at hcs
    obtain ⟨rfl, rfl, rfl⟩ := hcs
    obtain ⟨rfl, _⟩ := Prod.mk.inj hx
    refine ⟨(List.range len).map fun r => bytesOfInts ((Z r).take (L r)), ⟨by simp, hl, hm, (fun h => by cases h), fun h0 => ?_⟩, ?_, fun y hy => ?_⟩
    · have h1 := (hrow 0 (by omega)).1
      rw [add_none] at h1
      have hs := spot_of_cell h1
      refine ⟨x.block, x.off, by rw [← addr_lit hs], World.block_lt_of_cell? W x h1, fun j hj => ?_⟩
      have hj' : j < len := by simpa using hj
      obtain ⟨hc, hL, hC, hZ, hw, hn, hA⟩ := hrow j (by omega)
      refine ⟨A j, L j, C j, ?_, ?_⟩
      · rw [addr_lit hs, Addr.add_lit] at hc
        exact hc
      · simp only [List.getElem_map, List.getElem_range]
        cases hAj : A j with
        | none =>
          have h2 := hn hAj
          have h3 : L j = 0 := by omega
          rw [h2, h3]
          simp [bytesOfInts]
          exact Bs.zero _ _
        | some a' =>
          refine bs_of_cells hL hC hZ (fun i hi => ?_) hw
          exact (hA a' hAj).2 i (by omega)
    · have h1 := slice_reach ht hr
      rw [be] at h1
      simp only [List.length_map, List.length_range, reachBytes] at h1
      rwa [show len + (cap - len) = cap by omega] at h1
    · obtain ⟨r, hr1, rfl⟩ := List.mem_map.1 hy
      have hr2 : r < len := by simpa using hr1
      obtain ⟨hc, hL, hC, hZ, hw, hn, hA⟩ := hrow r (by omega)
      have h1 := slice_reach_in ht hr (intRow .u8 (A r) (L r) (Z r)) (List.mem_map.2 ⟨r, hr1, rfl⟩)
      have hlen : (bytesOfInts ((Z r).take (L r))).length ≤ L r := by simp [bytesOfInts]; omega
      cases hAr : A r with
      | none => have := hn hAr; omega
      | some a' =>
        rw [hAr] at h1
        have h2 := slice_reach he h1
        rw [bq] at h2
        simp only [lits, List.length_map, List.length_take, List.length_drop, reachBytes] at h2
        omega
end
end Go.Proofs.Ytaedlaeflliibaa
