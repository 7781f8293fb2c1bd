/- Names that came in: a list of them, or a path by value, opened; how many bytes they hold at most. -/
import Derived.Test.YtaedlaeflliibaaDoorOpen
import Derived.Test.YtaedlaeflliibaaDoorPtS
namespace Go.Proofs.YtaedlaeflliibaaDoor
open Go.ChangeShapes Go.WideShapes Go.ChangeAt Go.RowKit Go.Deep

theorem bulk_names {H : Type} : ∀ l : List Nm, Rows.uptoBulkAll (l.map fun y => (DataW.lit (.string y) : DataW H)) = longN l
  | [] => rfl
  | y :: l => by
    rw [List.map_cons, longN_cons]
    simp only [Rows.uptoBulkAll, Rows.uptoBulk]
    rw [bulk_names l]
/-- the shape of a path -/
structure PathT (P : Program) (e sl st : TypeId) (f0 f1 : Field) : Prop where
  ty : P.underlying e = some (.struct #[f0, f1])
  t0 : P.underlying f0.type = some .bool
  t1 : P.underlying f1.type = some (.slice st)
  ts : P.underlying st = some .string
  o0 : f0.offset = 0
  o1 : f1.offset = 1
  c0 : P.cellsOf f0.type = 1
  c1 : P.cellsOf f1.type = 1
  ce : P.cellsOf e = 2
  cs : P.cellsOf st = 1
section
variable {H : Type} {P : Program} {enc : TypeId × Value → H} {W : World} {t e sl st : TypeId} {d : DataW H} {p : List MemPlace} {f0 f1 : Field}
theorem sts_read (ht : P.underlying t = some (.slice st)) (hs : P.underlying st = some .string) (hc : P.cellsOf st = 1) {fuel : Nat} {cs : List Value} {x : DataW H × List MemPlace} (hf : DataW.trod enc P W 0 (fun _ => true) true fuel t cs = some x) (hk : Rows.uptoBulk x.1 ≤ 1048576) :
    ∃ A n c l, cs = [.slice A n c] ∧ Ss W W.heap.size A n c l ∧ longN l ≤ Rows.uptoBulk x.1 := by
  rcases DataW.trod_slice ht hf with ⟨hcs, _⟩ | ⟨a', len, c', elems, rest, n, _, hcs, hx, hb, hl, hm, hlen, hel, _, _⟩
  · exact ⟨none, 0, 0, [], hcs, Ss.zero _ _, Nat.zero_le _⟩
  · have each : ∀ r, r < len → ∃ y : Nm, W.cell? (a'.add r) = some (.string ⟨y.toArray⟩) ∧ (elems.map (·.1))[r]? = some (.lit (.string y)) := by
      intro r hr'
      have h1 := hel r hr'
      rw [hc, Nat.mul_one, List.getElem?_eq_getElem (by omega)] at h1
      obtain ⟨cs', hcell, ht2⟩ := Option.bind_eq_some_iff.1 h1
      obtain ⟨s, e0, e00, _⟩ := DataW.trod_string hs ht2
      have hcell' := (World.cells?_some hcell).2.2
      subst e0
      have h5 := hcell' 0 (by omega)
      rw [add_none] at h5
      obtain ⟨⟨y⟩⟩ := s
      refine ⟨y, h5, ?_⟩
      rw [List.getElem?_map, List.getElem?_eq_getElem (by omega), e00]
      rfl
    obtain ⟨y, hy⟩ := choose_lt each
    have hmap : elems.map (·.1) = ((List.range len).map y).map fun y => (DataW.lit (.string y) : DataW H) := by
      apply List.ext_getElem?
      intro i
      by_cases hi : i < len
      · rw [(hy i hi).2]
        rw [List.getElem?_map, List.getElem?_map, List.getElem?_range hi]; rfl
      · rw [List.getElem?_eq_none (by simp; omega), List.getElem?_eq_none (by simp; omega)]
    have hbulk : longN ((List.range len).map y) ≤ Rows.uptoBulk x.1 := by
      rw [hx, hmap]
      simp only [Rows.uptoBulk]
      rw [bulk_names]
      omega
    refine ⟨some a', len, c', (List.range len).map y, hcs, ⟨by simp, hl, hm, (fun h => by cases h), fun z hz => ?_, fun h0 => ?_⟩, hbulk⟩
    · have := longN_mem _ z hz
      omega
    · have h1 := (hy 0 h0).1
      rw [add_none] at h1
      have hsp := spot_of_cell h1
      refine ⟨a'.block, a'.off, by rw [← addr_lit hsp], World.block_lt_of_cell? W a' h1, fun j hj => ?_⟩
      have hj' : j < len := by simpa using hj
      have k1 := (hy j hj').1
      rw [addr_lit hsp, Addr.add_lit] at k1
      simp only [List.getElem_map, List.getElem_range]
      exact k1
theorem sts_open {A : Option Addr} {n c : Nat} (ht : P.underlying t = some (.slice st)) (hs : P.underlying st = some .string) (hc : P.cellsOf st = 1) (h : DataW.Trod enc P W 0 (fun _ => true) true t (.slice A n c) d p) (hk : Rows.uptoBulk d ≤ 1048576) :
    ∃ l, Ss W W.heap.size A n c l ∧ longN l ≤ Rows.uptoBulk d := by
  obtain ⟨fuel, hf⟩ := h
  obtain ⟨A', n', c', l, e, h1, h2⟩ := sts_read ht hs hc hf hk
  simp [Value.cells] at e
  obtain ⟨rfl, rfl, rfl⟩ := e
  exact ⟨l, h1, h2⟩
theorem path_open (E : PathT P e sl st f0 f1) {r : Reach} {b0 : Nat} {v : Value} (hval : Value.okWide P W r b0 e v) (h : DataW.Trod enc P W 0 (fun _ => true) true e v d p) (hk : Rows.uptoBulk d ≤ 1048576) :
    ∃ b A n c l, v = .agg #[.bool b, .slice A n c] ∧ Ss W W.heap.size A n c l ∧ longN l ≤ Rows.uptoBulk d := by
  obtain ⟨cs, rfl, hs⟩ := okWide_struct E.ty hval
  obtain ⟨fuel, hf⟩ := h
  obtain ⟨xs, n, _, hx, hlen, hxl, hel⟩ := DataW.trod_struct E.ty hf
  rw [E.ce] at hlen
  have k0 := hel 0 f0 rfl
  have k1 := hel 1 f1 rfl
  rw [E.o0, E.c0, List.drop_zero] at k0
  rw [E.o1, E.c1] at k1
  obtain ⟨cl⟩ := cs
  have hcs : (Value.agg ⟨cl⟩).cells.toList = cl := by simp [Value.cells]
  rw [hcs] at hlen k0 k1
  match cl, hlen with
  | [u, v], _ =>
    match xs, hxl with
    | [x0, x1], _ =>
      obtain ⟨b, e0, e00⟩ := DataW.trod_bool E.t0 k0
      have k1' : DataW.trod enc P W 0 (fun _ => true) true n f1.type [v] = some x1 := by simpa using k1
      have hd : d = .agg [x0.1, x1.1] := (Prod.mk.inj hx).1
      have hk1 : Rows.uptoBulk x1.1 ≤ Rows.uptoBulk d := by
        rw [hd]
        simp only [Rows.uptoBulk, Rows.uptoBulkAll]
        omega
      obtain ⟨A, m, c, l, e1, h1, h2⟩ := sts_read E.t1 E.ts E.cs k1' (Nat.le_trans hk1 hk)
      simp only [List.take_succ_cons, List.take_zero, List.cons.injEq, and_true] at e0 e1
      subst e0 e1
      exact ⟨b, A, m, c, l, rfl, h1, Nat.le_trans h2 hk1⟩
end
theorem pathT' : ∃ f0 f1, PathT Tryd.prog 25 23 9 f0 f1 := ⟨_, _, Tryd.underlying25, by kernel_rfl, by kernel_rfl, Tryd.underlying9, rfl, rfl, by kernel_rfl, by kernel_rfl, by kernel_rfl, by kernel_rfl⟩
end Go.Proofs.YtaedlaeflliibaaDoor
