/- Entries that came in: a list of them, or one by value, opened. -/
import Derived.Test.YtaedlaeflliibaaOpen
import Derived.Test.YtaedlaeflliibaaEnT
namespace Go.Proofs.Ytaedlaeflliibaa
open Go.ChangeShapes Go.WideShapes Go.ChangeAt Go.RowKit Go.Deep

/-- the shape of an entry -/
structure EntT (P : Program) (e : TypeId) (f0 f1 : Field) : Prop where
  ty : P.underlying e = some (.struct #[f0, f1])
  t0 : P.underlying f0.type = some .string
  t1 : P.underlying f1.type = some (.int .i64)
  o0 : f0.offset = 0
  o1 : f1.offset = 1
  c0 : P.cellsOf f0.type = 1
  c1 : P.cellsOf f1.type = 1
  ce : P.cellsOf e = 2
  be : P.bytesOf e = 24
section
variable {H : Type} {P : Program} {enc : TypeId × Value → H} {W : World} {t e : TypeId} {a : Option Addr} {len cap : Nat} {d : DataW H} {p : List MemPlace} {f0 f1 : Field}
theorem en_read (E : EntT P e f0 f1) {fuel : Nat} {cs : List Value} {x : DataW H × List MemPlace} (h : DataW.trod enc P W 0 (fun _ => true) true fuel e cs = some x) (hr : ∀ n ∈ x.1.weights P e, n ≤ reachBytes) :
    ∃ y : En, cs = enOne y ∧ EnOk y := by
  obtain ⟨xs, n, _, hx, hlen, hxl, hel⟩ := DataW.trod_struct E.ty h
  rw [E.ce] at hlen
  have k0 := hel 0 f0 rfl
  have k1 := hel 1 f1 rfl
  rw [E.o0, E.c0, List.drop_zero] at k0
  rw [E.o1, E.c1] at k1
  match cs, hlen with
  | [u, v], _ =>
    match xs, hxl with
    | [x0, x1], _ =>
      obtain ⟨s, e0, e00, hs⟩ := DataW.trod_string E.t0 k0
      have k1' : DataW.trod enc P W 0 (fun _ => true) true n f1.type [v] = some x1 := by simpa using k1
      obtain ⟨z, e1, _, hw⟩ := DataW.trod_int E.t1 k1'
      simp only [List.take_succ_cons, List.take_zero, List.cons.injEq, and_true] at e0 e1
      subst e0 e1
      obtain ⟨⟨l⟩⟩ := s
      refine ⟨(l, z), rfl, ?_, hw⟩
      have h0 : x0 = (.lit (.string l), []) := e00
      have h1 := hr l.length (by
        rw [hx, List.map_cons, h0]
        simp [DataW.weights, E.ty, DataW.weightsEach])
      exact h1
/-- one by value -/
theorem en_open (E : EntT P e f0 f1) {r : Reach} {b0 : Nat} {v : Value} (hval : Value.okWide P W r b0 e v) (h : DataW.Trod enc P W 0 (fun _ => true) true e v d p) (hr : ∀ n ∈ d.weights P e, n ≤ reachBytes) :
    ∃ y : En, v = .agg (enOne y).toArray ∧ EnOk y := by
  obtain ⟨cs, rfl, hs⟩ := okWide_struct E.ty hval
  obtain ⟨fuel, hf⟩ := h
  obtain ⟨y, e1, h1⟩ := en_read E hf hr
  refine ⟨y, ?_, h1⟩
  obtain ⟨cl⟩ := cs
  simp [Value.cells] at e1
  rw [e1]
/-- a list of them -/
theorem ens_open (E : EntT P e f0 f1) (ht : P.underlying t = some (.slice e)) (h : DataW.Trod enc P W 0 (fun _ => true) true t (.slice a len cap) d p) (hr : ∀ n ∈ d.weights P t, n ≤ reachBytes) :
    ∃ l, Ens W W.heap.size a len cap l ∧ len ≤ 5864062014634 := by
  obtain ⟨fuel, hf⟩ := h
  rcases DataW.trod_slice ht hf with ⟨hcs, _⟩ | ⟨a', l', c', elems, rest, n, _, hcs, hx, hb, hl, hm, hlen, hel, _, _⟩
  · simp [Value.cells] at hcs
    obtain ⟨rfl, rfl, rfl⟩ := hcs
    exact ⟨[], Ens.zero _ _, by omega⟩
  · simp [Value.cells] at hcs
    obtain ⟨rfl, rfl, rfl⟩ := hcs
    obtain ⟨rfl, _⟩ := Prod.mk.inj hx
    have each : ∀ r, r < len → ∃ y : En, W.cell? (a'.add (r * 2)) = some (.string ⟨y.1.toArray⟩) ∧ W.cell? (a'.add (r * 2 + 1)) = some (.int .i64 y.2) ∧ EnOk y := by
      intro r hr'
      have h1 := hel r hr'
      rw [E.ce, List.getElem?_eq_getElem (by omega)] at h1
      obtain ⟨cs, hc, ht2⟩ := Option.bind_eq_some_iff.1 h1
      obtain ⟨y, e1, h2⟩ := en_read E ht2 (slice_reach_in ht hr _ (List.mem_map.2 ⟨_, List.getElem_mem (by omega), rfl⟩))
      have hcell := (World.cells?_some hc).2.2
      subst e1
      refine ⟨y, ?_, ?_, h2⟩
      · have h5 := hcell 0 (by omega)
        rw [add_none] at h5
        exact h5
      · have h5 := hcell 1 (by omega)
        have e5 : (a'.add (r * 2)).add 1 = a'.add (r * 2 + 1) := by
          by_cases h0 : r * 2 = 0
          · rw [h0, add_none]
          · simp [Addr.add, h0, Nat.add_assoc]
        rw [e5] at h5
        exact h5
    have hsz := slice_reach ht hr
    rw [E.be] at hsz
    simp only [List.length_map, reachBytes] at hsz
    obtain ⟨y, hy⟩ := choose_lt each
    refine ⟨(List.range len).map y, ⟨by simp, hl, hm, (fun h => by cases h), fun x hx => ?_, fun h0 => ?_⟩, by omega⟩
    · obtain ⟨r, hr1, rfl⟩ := List.mem_map.1 hx
      exact (hy r (List.mem_range.1 hr1)).2.2
    · have h1 := (hy 0 h0).1
      rw [Nat.zero_mul, add_none] at h1
      have hs := spot_of_cell h1
      refine ⟨a'.block, a'.off, by rw [← addr_lit hs], World.block_lt_of_cell? W a' h1, fun j hj => ?_⟩
      have hj' : j < len := by simpa using hj
      obtain ⟨k1, k2, _⟩ := hy j hj'
      rw [addr_lit hs, Addr.add_lit] at k1 k2
      simp only [List.getElem_map, List.getElem_range]
      exact ⟨k1, by rw [Nat.add_assoc]; exact k2⟩
end
theorem entT' : ∃ f0 f1, EntT Try.prog 39 f0 f1 := ⟨_, _, Try.underlying39, by kernel_rfl, by kernel_rfl, rfl, rfl, by kernel_rfl, by kernel_rfl, by kernel_rfl, by kernel_rfl⟩
end Go.Proofs.Ytaedlaeflliibaa
