/- Records of chapter 8 that came in by value, opened. No program is named here.
   x[:k] of bytes, in a region. No program is named here.
   The contract of sacristanref00's Same. -/
import Derived.Test.YtadpfbjpkbpanaaG01
import Derived.Test.YtadpfbjpkbpanaaG03
import Derived.Test.YtadpfbjpkbpanaaG04
namespace Go.Proofs.Ytadpfbjpkbpanaa
open Go.ChangeShapes Go.WideShapes Go.ChangeAt Go.RowKit Go.Deep

/-- the shape of a record: two numbers, bytes, digests -/
structure SealT (P : Program) (e q g b s : TypeId) (f0 f1 f2 f3 : Field) : Prop where
  ty : P.underlying e = some (.struct #[f0, f1, f2, f3])
  t0 : P.underlying f0.type = some (.int .u64)
  t1 : P.underlying f1.type = some (.int .i64)
  t2 : P.underlying f2.type = some (.slice q)
  t3 : P.underlying f3.type = some (.slice g)
  tq : P.underlying q = some (.int .u8)
  tg : P.underlying g = some (.array 32 b)
  tb : P.underlying b = some (.int .u8)
  o0 : f0.offset = 0
  o1 : f1.offset = 1
  o2 : f2.offset = 2
  o3 : f3.offset = 3
  c0 : P.cellsOf f0.type = 1
  c1 : P.cellsOf f1.type = 1
  c2 : P.cellsOf f2.type = 1
  c3 : P.cellsOf f3.type = 1
  cq : P.cellsOf q = 1
  cb : P.cellsOf b = 1
  cg : P.cellsOf g = 32
  ce : P.cellsOf e = 4
  bq : P.bytesOf q = 1
  bg : P.bytesOf g = 32
section
variable {H : Type} {P : Program} {enc : TypeId × Value → H} {W : World} {t e q g b s : TypeId} {a : Option Addr} {len cap : Nat} {d : DataW H} {p : List MemPlace} {f0 f1 f2 f3 : Field}
/-- cells of an array of bytes -/
theorem arr_bytes {n fuel : Nat} {cs : List Value} {x : DataW H × List MemPlace} (ht : P.underlying t = some (.array n e)) (he : P.underlying e = some (.int .u8)) (hc : P.cellsOf e = 1) (hct : P.cellsOf t = n)
    (h : DataW.trod enc P W 0 (fun _ => true) true fuel t cs = some x) : ∃ l : List UInt8, l.length = n ∧ cs = cells8 l := by
  obtain ⟨xs, m, _, ex, hlen, hl, hel⟩ := DataW.trod_array ht h
  rw [hct] at hlen
  have each : ∀ i (hi : i < n), ∃ z, cs[i]? = some (.int .u8 z) ∧ (Lit.int .u8 z).wf = true := by
    intro i hi
    have h := hel i hi
    rw [hc, Nat.mul_one] at h
    have hxi : xs[i]? = some (xs[i]'(by omega)) := List.getElem?_eq_getElem (by omega)
    rw [hxi] at h
    obtain ⟨z, e1, e2, hw⟩ := DataW.trod_int he h
    refine ⟨z, ?_, hw⟩
    have e3 : ((cs.drop i).take 1)[0]? = some (.int .u8 z) := by rw [e1]; rfl
    rw [List.getElem?_take, if_pos (by omega), List.getElem?_drop] at e3
    exact e3
  refine ⟨cs.map fun v => match v with | .int _ z => UInt8.ofNat z.toNat | _ => 0, by simp [hlen], List.ext_getElem? fun i => ?_⟩
  by_cases hi : i < n
  · obtain ⟨z, e1, hw⟩ := each i hi
    unfold cells8
    rw [List.map_map, List.getElem?_map, e1]
    simp only [Option.map_some, Function.comp, byte_back hw]
  · rw [List.getElem?_eq_none (by omega), List.getElem?_eq_none (by rw [cells8_length]; simp; omega)]
/-- a list of digests -/
theorem ds_read (tg : P.underlying g = some (.array 32 b)) (tb : P.underlying b = some (.int .u8)) (cb : P.cellsOf b = 1) (cg : P.cellsOf g = 32) (bg : P.bytesOf g = 32) (ht : P.underlying t = some (.slice g)) {fuel : Nat} {u : Value} {x : DataW H × List MemPlace}
    (h : DataW.trod enc P W 0 (fun _ => true) true fuel t [u] = some x) (hr : ∀ n ∈ x.1.weights P t, n ≤ reachBytes) :
    ∃ A n c ds, u = .slice A n c ∧ Ds W W.heap.size A n c ds ∧ n * 32 ≤ 140737488351232 := by
  rcases DataW.trod_slice ht h with ⟨hcs, _⟩ | ⟨a', len, cap, elems, rest, n, _, hcs, hx, hb, hl, hm, hlen, hel, _, _⟩
  · simp only [List.cons.injEq, and_true] at hcs
    exact ⟨none, 0, 0, [], hcs, Ds.zero _ _, by omega⟩
  · simp only [List.cons.injEq, and_true] at hcs
    have hr2 := hr
    rw [hx] at hr2
    have h1 := slice_reach ht hr2
    rw [bg] at h1
    simp only [List.length_map, reachBytes] at h1
    have each : ∀ r, r < len → ∃ l : List UInt8, l.length = 32 ∧ ∀ j v, (cells8 l)[j]? = some v → W.cell? ((a'.add (r * 32)).add j) = some v := by
      intro r hr'
      have h1 := hel r hr'
      rw [cg, List.getElem?_eq_getElem (by omega)] at h1
      obtain ⟨cs, hc, ht2⟩ := Option.bind_eq_some_iff.1 h1
      obtain ⟨l, hl, rfl⟩ := arr_bytes tg tb cb cg ht2
      have hcell := (World.cells?_some hc).2.2
      refine ⟨l, hl, fun j v hv => ?_⟩
      obtain ⟨hj, _⟩ := cells8_some hv
      have h5 := hcell j (by omega)
      rw [h5]
      simpa using hv
    obtain ⟨f, hf⟩ := choose_lt each
    refine ⟨some a', len, cap, (List.range len).map f, hcs, ⟨by simp, hl, hm, (fun h => by cases h), fun x hx => ?_, fun h0 => ?_⟩, ?_⟩
    · obtain ⟨r, hr1, rfl⟩ := List.mem_map.1 hx
      exact (hf r (List.mem_range.1 hr1)).1
    · obtain ⟨u, h1⟩ : ∃ u, W.cell? ((a'.add (0 * 32)).add 0) = some u := ⟨_, (hf 0 h0).2 0 _ (cells8_at _ 0 (by rw [(hf 0 h0).1]; omega))⟩
      rw [Nat.zero_mul, add_none, add_none] at h1
      have hs := spot_of_cell h1
      refine ⟨a'.block, a'.off, by rw [← addr_lit hs], World.block_lt_of_cell? W a' h1, fun i hi j v hv => ?_⟩
      have hi' : i < len := by simpa using hi
      have h2 := (hf i hi').2 j v (by simpa using hv)
      rw [addr_lit hs, Addr.add_lit, Addr.add_lit] at h2
      exact h2
    · omega
/-- one by value -/
theorem seal_open (E : SealT P e q g b s f0 f1 f2 f3) {r : Reach} {b0 : Nat} {v : Value} (hval : Value.okWide P W r b0 e v) (h : DataW.Trod enc P W 0 (fun _ => true) true e v d p) (hr : ∀ n ∈ d.weights P e, n ≤ reachBytes) :
    ∃ (r : Rc) (A : Option Addr) (n c : Nat) (D : Option Addr) (m k : Nat), v = rcV r A n c D m k ∧ Rs W W.heap.size A n c D m k r ∧ n ≤ 140737488351232 ∧ m * 32 ≤ 140737488351232 := by
  obtain ⟨cs, rfl, hs⟩ := okWide_struct E.ty hval
  obtain ⟨fuel, hf⟩ := h
  obtain ⟨cl⟩ := cs
  have hcs : (Value.agg ⟨cl⟩).cells.toList = cl := by simp [Value.cells]
  rw [hcs] at hf
  obtain ⟨xs, n, _, hx, hlen, hxl, hel⟩ := DataW.trod_struct E.ty hf
  rw [E.ce] at hlen
  have k0 := hel 0 f0 rfl
  have k1 := hel 1 f1 rfl
  have k2 := hel 2 f2 rfl
  have k3 := hel 3 f3 rfl
  rw [E.o0, E.c0, List.drop_zero] at k0
  rw [E.o1, E.c1] at k1
  rw [E.o2, E.c2] at k2
  rw [E.o3, E.c3] at k3
  match cl, hlen with
  | [u0, u1, u2, u3], _ =>
    match xs, hxl with
    | [x0, x1, x2, x3], _ =>
      obtain ⟨z0, e0, _, hw0⟩ := DataW.trod_int E.t0 k0
      obtain ⟨z1, e1, _, hw1⟩ := DataW.trod_int E.t1 k1
      simp only [List.take_succ_cons, List.take_zero, List.drop_succ_cons, List.drop_zero, List.cons.injEq, and_true] at e0 e1
      subst e0 e1
      obtain ⟨rfl, _⟩ := Prod.mk.inj hx
      have hr2 : ∀ n ∈ x2.1.weights P f2.type, n ≤ reachBytes := fun n hn => hr n (by
        simp only [List.map_cons, List.map_nil, DataW.weights, E.ty, DataW.weightsEach]
        simp [hn])
      have hr3 : ∀ n ∈ x3.1.weights P f3.type, n ≤ reachBytes := fun n hn => hr n (by
        simp only [List.map_cons, List.map_nil, DataW.weights, E.ty, DataW.weightsEach]
        simp [hn])
      have k2' : DataW.trod enc P W 0 (fun _ => true) true n f2.type [u2] = some x2 := by simpa using k2
      have k3' : DataW.trod enc P W 0 (fun _ => true) true n f3.type [u3] = some x3 := by simpa using k3
      obtain ⟨D, m, k, ds, rfl, hds, hm32⟩ := ds_read E.tg E.tb E.cb E.cg E.bg E.t3 k3' hr3
      have b0 := bounds_u64 hw0
      have b1 := bounds_i64 hw1
      have hz : z0 = ((z0.toNat : Nat) : Int) := by omega
      rcases open_ints E.t2 E.tq E.cq k2' with ⟨hcs, _⟩ | ⟨y, l, c, zs, hcs, _, hl, hm, hz2, hxx, hcell, hwz⟩
      · simp only [List.cons.injEq, and_true] at hcs
        subst hcs
        exact ⟨⟨z0.toNat, z1, [], ds⟩, none, 0, 0, D, m, k, by rw [hz]; rfl, ⟨by show z0.toNat < _; omega, by show -9223372036854775808 ≤ z1 ∧ z1 < 9223372036854775808; omega, Bs.zero _ _, hds⟩, by omega, hm32⟩
      · simp only [List.cons.injEq, and_true] at hcs
        subst hcs
        have hz' : zs.length = c := by simpa using hz2
        have h1 := hr2
        rw [hxx] at h1
        have h2 := slice_reach E.t2 h1
        rw [E.bq] at h2
        simp only [lits, List.length_map, List.length_take, List.length_drop, reachBytes] at h2
        have hbs := bs_of_cells hl hm hz' hcell hwz
        exact ⟨⟨z0.toNat, z1, _, ds⟩, some y, l, c, D, m, k, by rw [hz]; rfl, ⟨by show z0.toNat < _; omega, by show -9223372036854775808 ≤ z1 ∧ z1 < 9223372036854775808; omega, hbs, hds⟩, by omega, hm32⟩
end
end Go.Proofs.Ytadpfbjpkbpanaa

namespace Go.Proofs.Ytadpfbjpkbpanaa
open Go.RowKit

theorem yieldsIf_cut_h {P : Program} {ops : Array Oper} {S : World → Prop} {op : Oper} {a : Act} {t e : TypeId} {z : Value} {bytes : Nat} (hw : Region.wanted op (yielded ops a.tmps) = true) (E : El P t e z bytes) (x hi : Operand) (ho : op.op = .slice t x none (some hi) none)
    {A : Option Addr} {n c : Nat} (hx : a.eval x = .slice A n c) {k : IntKind} {I : Int} (hhi : a.eval hi = .int k I) (j : Nat) (hI : I = j) (hj : j ≤ c) : YieldsIf P ops S op (.slice A j c) a := by
  subst hI
  refine .inl ⟨hw, fun w _ => ?_⟩
  have hrun := run_slice_h (P := P) (w := w) t A n c E.ty' k (j : Int) (by omega) (by omega)
  rw [E.sizeOf] at hrun
  unfold execOp
  simp [ho, hx, hhi, run_sliceAt_slice (P := P) (w := w) t _ _ _ _ E.ty', hrun, Result.andThen, sliced]
  try (cases A <;> simp [Addr.add])
end Go.Proofs.Ytadpfbjpkbpanaa

namespace Go.Proofs.Ytadpfbjpkbpanaa
open Go.RowKit

set_option maxHeartbeats 400000 in
theorem same_any (A B : Option Addr) (n c m d : Nat) (xs ys : List UInt8) (w : World) (L M : Nat) (ha : Bs w L A n c xs) (hb : Bs w M B m d ys) :
    Calls Try.prog 14 #[.slice A n c, .slice B m d] w fun e w' => e = .returned (.bool (xs == ys)) ∧ w = w' := by
  have e1 := ha.text Try.underlying22 Try.underlying5 Try.underlying9
  have e2 := hb.text Try.underlying22 Try.underlying5 Try.underlying9
  clear ha hb
  go_enter Try.func14, Try.ntmps14
  go_wp2
  go_ret
  exact ⟨rfl, rfl⟩

end Go.Proofs.Ytadpfbjpkbpanaa
