/- What is known of a file, that came in by value: opened. No program is named here. -/
import Derived.Test.YtmiobgongddaiaaOpen
import Derived.Test.YtmiobgongddaiaaLens
namespace Go.Proofs.Ytmiobgongddaiaa
open Go.ChangeShapes Go.WideShapes Go.ChangeAt Go.RowKit Go.Deep

/-- the shape of a record: three numbers, six numbers in a row, one number -/
structure NodeT (P : Program) (e q : TypeId) (f0 f1 f2 f3 f4 : Field) : Prop where
  ty : P.underlying e = some (.struct #[f0, f1, f2, f3, f4])
  t0 : P.underlying f0.type = some (.int .i64)
  t1 : P.underlying f1.type = some (.int .i64)
  t2 : P.underlying f2.type = some (.int .i64)
  t3 : P.underlying f3.type = some (.array 6 q)
  t4 : P.underlying f4.type = some (.int .i64)
  tq : P.underlying q = some (.int .i64)
  o0 : f0.offset = 0
  o1 : f1.offset = 1
  o2 : f2.offset = 2
  o3 : f3.offset = 3
  o4 : f4.offset = 9
  c0 : P.cellsOf f0.type = 1
  c1 : P.cellsOf f1.type = 1
  c2 : P.cellsOf f2.type = 1
  c3 : P.cellsOf f3.type = 6
  c4 : P.cellsOf f4.type = 1
  cq : P.cellsOf q = 1
  ce : P.cellsOf e = 10
section
variable {H : Type} {P : Program} {enc : TypeId × Value → H} {W : World} {e q : TypeId} {d : DataW H} {p : List MemPlace} {f0 f1 f2 f3 f4 : Field}
theorem cell_of_take {cl : List Value} {i : Nat} {k : IntKind} {z : Int} (h : (cl.drop i).take 1 = [.int k z]) : cl[i]? = some (.int k z) := by
  have e3 : ((cl.drop i).take 1)[0]? = some (.int k z) := by rw [h]; rfl
  rwa [List.getElem?_take, if_pos (by omega), List.getElem?_drop] at e3
theorem node_open (E : NodeT P e q f0 f1 f2 f3 f4) {r : Reach} {b0 : Nat} {v : Value} (hval : Value.okWide P W r b0 e v) (h : DataW.Trod enc P W 0 (fun _ => true) true e v d p) :
    ∃ zs : List Int, v = .agg (cellsZ zs).toArray ∧ zs.length = 10 ∧ ∀ z ∈ zs, (Lit.int .i64 z).wf = true := by
  obtain ⟨cs, rfl, hs⟩ := okWide_struct E.ty hval
  obtain ⟨fuel, hf⟩ := h
  obtain ⟨cl⟩ := cs
  obtain ⟨xs, n, _, hx, hlen, hxl, hel⟩ := DataW.trod_struct E.ty hf
  rw [E.ce] at hlen
  have hcs : (Value.agg ⟨cl⟩).cells.toList = cl := by simp [Value.cells]
  rw [hcs] at hlen hel
  have k0 := hel 0 f0 rfl
  have k1 := hel 1 f1 rfl
  have k2 := hel 2 f2 rfl
  have k3 := hel 3 f3 rfl
  have k4 := hel 4 f4 rfl
  rw [E.o0, E.c0] at k0
  rw [E.o1, E.c1] at k1
  rw [E.o2, E.c2] at k2
  rw [E.o3, E.c3] at k3
  rw [E.o4, E.c4] at k4
  have hxl' : xs.length = 5 := hxl
  rw [List.getElem?_eq_getElem (by omega)] at k0 k1 k2 k3 k4
  obtain ⟨z0, e0, _, w0⟩ := DataW.trod_int E.t0 k0
  obtain ⟨z1, e1, _, w1⟩ := DataW.trod_int E.t1 k1
  obtain ⟨z2, e2, _, w2⟩ := DataW.trod_int E.t2 k2
  obtain ⟨z4, e4, _, w4⟩ := DataW.trod_int E.t4 k4
  obtain ⟨ys, m, _, _, hyl, hym, hye⟩ := DataW.trod_array E.t3 k3
  have each : ∀ i, i < 6 → ∃ z, cl[3 + i]? = some (.int .i64 z) ∧ (Lit.int .i64 z).wf = true := by
    intro i hi
    have h := hye i hi
    rw [E.cq, Nat.mul_one, List.getElem?_eq_getElem (by omega)] at h
    obtain ⟨z, e1, _, hw⟩ := DataW.trod_int E.tq h
    refine ⟨z, ?_, hw⟩
    have := cell_of_take e1
    rwa [List.getElem?_take, if_pos hi, List.getElem?_drop] at this
  have all : ∀ i, i < 10 → ∃ z, cl[i]? = some (.int .i64 z) ∧ (Lit.int .i64 z).wf = true := by
    intro i hi
    by_cases h3 : 3 ≤ i ∧ i < 9
    · obtain ⟨j, rfl⟩ : ∃ j, i = 3 + j := ⟨i - 3, by omega⟩
      exact each j (by omega)
    · have hc : i = 0 ∨ i = 1 ∨ i = 2 ∨ i = 9 := by omega
      rcases hc with rfl | rfl | rfl | rfl
      · exact ⟨z0, cell_of_take e0, w0⟩
      · exact ⟨z1, cell_of_take e1, w1⟩
      · exact ⟨z2, cell_of_take e2, w2⟩
      · exact ⟨z4, cell_of_take e4, w4⟩
  obtain ⟨f, hf2⟩ := choose_lt all
  refine ⟨(List.range 10).map f, ?_, by simp, fun z hz => ?_⟩
  · congr 1
    refine congrArg _ (List.ext_getElem? fun i => ?_)
    by_cases hi : i < 10
    · rw [(hf2 i hi).1]
      unfold cellsZ
      rw [List.map_map, List.getElem?_map, List.getElem?_range hi]
      rfl
    · rw [List.getElem?_eq_none (by omega), List.getElem?_eq_none (by rw [cellsZ_length]; simp; omega)]
  · obtain ⟨i, hi, rfl⟩ := List.mem_map.1 hz
    exact (hf2 i (List.mem_range.1 hi)).2
end
end Go.Proofs.Ytmiobgongddaiaa
