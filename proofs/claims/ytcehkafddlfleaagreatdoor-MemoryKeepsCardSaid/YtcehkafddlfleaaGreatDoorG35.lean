/- 
    -/
import Derived.Test.YtcehkafddlfleaaGreatDoorG05
import Derived.Test.YtcehkafddlfleaaGreatDoorG04
import Derived.Test.YtcehkafddlfleaaGreatDoorG01
import Derived.Test.YtcehkafddlfleaaGreatDoorG23
import Derived.LaidLaws
import Derived.LaidHandle
import Derived.ChangeVars
import Derived.JoinedOf
import Derived.Stop.Joined
namespace Go.Proofs.YtcehkafddlfleaaGreatDoor
open Go.ChangeShapes Go.WideShapes Go.ChangeAt Go.RowKit Go.Deep
structure D3 where
 kind : Int
 pl : Int
 bs : List UInt8
instance : Inhabited D3 := ⟨⟨0, 0, []⟩⟩
structure D3Ok (d : D3) : Prop where
 kind : (Lit.int .i64 d.kind).wf = true
 pl : (Lit.int .i64 d.pl).wf = true
structure D3At (w : World) (B b o : Nat) (d : D3) (A : Option Addr) (n c : Nat) : Prop where
 kind : w.cell? ⟨b, o, none⟩ = some (.int .i64 d.kind)
 pl : w.cell? ⟨b, o + 1, none⟩ = some (.int .i64 d.pl)
 sli : w.cell? ⟨b, o + 2, none⟩ = some (.slice A n c)
 bytes : Bs w B A n c d.bs
structure D3s (w : World) (B : Nat) (A : Option Addr) (n c : Nat) (ds : List D3) : Prop where
 len : ds.length = n
 cap : n ≤ c
 max : c ≤ maxLen
 nil : A = none → c = 0
 ok : ∀ x ∈ ds, D3Ok x
 cells : 0 < n → ∃ b o, A = some ⟨b, o, none⟩ ∧ b < B ∧ ∀ j (h : j < ds.length), ∃ A' n' c', D3At w B b (o + j * 3) ds[j] A' n' c'
section
variable {w w' : World} {B B' b o : Nat} {A : Option Addr} {n c : Nat} {d : D3} {ds : List D3}
theorem D3At.keep (h : D3At w B b o d A n c) (hb : b < B) (hk : ∀ p : Addr, p.block < B → w'.cell? p = w.cell? p) : D3At w' B b o d A n c :=
 ⟨(hk _ hb).trans h.kind, (hk _ hb).trans h.pl, (hk _ hb).trans h.sli, h.bytes.keep hk⟩
theorem D3s.le (h : D3s w B A n c ds) : n ≤ 9223372036854775807 := by have := h.cap; have := h.max; simp only [maxLen] at this; omega
theorem D3s.below (h : D3s w B A n c ds) (hb : Below B w w') : D3s w' B A n c ds :=
 ⟨h.len, h.cap, h.max, h.nil, h.ok, fun h0 => by
  obtain ⟨b, o, hA, hbl, hc⟩ := h.cells h0
  refine ⟨b, o, hA, hbl, fun j hj => ?_⟩
  obtain ⟨A', n', c', h1⟩ := hc j hj
  exact ⟨A', n', c', h1.keep hbl fun _ hp => hb.cell hp⟩⟩
theorem D3s.at (h : D3s w B A n c ds) {i : Nat} (hi : i < n) : ∃ b o A' n' c', A = some ⟨b, o, none⟩ ∧ D3At w B b (o + i * 3) (ds[i]'(by have := h.len; omega)) A' n' c' := by
 obtain ⟨b, o, hA, hb, hc⟩ := h.cells (by omega)
 obtain ⟨A', n', c', h1⟩ := hc i (by have := h.len; omega)
 exact ⟨b, o, A', n', c', hA, h1⟩
end
structure D3T (P : Program) (e q : TypeId) (f0 f1 f2 : Field) : Prop where
 ty : P.underlying e = some (.struct #[f0, f1, f2])
 t0 : P.underlying f0.type = some (.int .i64)
 t1 : P.underlying f1.type = some (.int .i64)
 t2 : P.underlying f2.type = some (.slice q)
 tq : P.underlying q = some (.int .u8)
 o0 : f0.offset = 0
 o1 : f1.offset = 1
 o2 : f2.offset = 2
 c0 : P.cellsOf f0.type = 1
 c1 : P.cellsOf f1.type = 1
 c2 : P.cellsOf f2.type = 1
 cq : P.cellsOf q = 1
 ce : P.cellsOf e = 3
 bq : P.bytesOf q = 1
section
variable {H : Type} {P : Program} {enc : TypeId × Value → H} {W : World} {t e q : TypeId} {a : Option Addr} {len cap : Nat} {d : DataW H} {p : List MemPlace} {f0 f1 f2 : Field}
theorem do3_read (E : D3T P e q f0 f1 f2) {fuel : Nat} {cs : List Value} {x : DataW H × List MemPlace} (h : DataW.trod enc P W 0 (fun _ => true) true fuel e cs = some x) (hr : ∀ n ∈ x.1.weights P e, n ≤ reachBytes) :
  ∃ (y : D3) (A : Option Addr) (m c : Nat), cs = [.int .i64 y.kind, .int .i64 y.pl, .slice A m c] ∧ D3Ok y ∧ Bs W W.heap.size A m c y.bs ∧ y.bs.length ≤ 140737488351232 := by
 obtain ⟨xs, n, _, hx, hlen, hxl, hel⟩ := DataW.trod_struct E.ty h
 rw [E.ce] at hlen
 have k0 := hel 0 f0 rfl
 have k1 := hel 1 f1 rfl
 have k2 := hel 2 f2 rfl
 rw [E.o0, E.c0, List.drop_zero] at k0
 rw [E.o1, E.c1] at k1
 rw [E.o2, E.c2] at k2
 match cs, hlen with
 | [u0, u1, u2], _ =>
  match xs, hxl with
  | [x0, x1, x2], _ =>
   obtain ⟨z0, e0, _, hw0⟩ := DataW.trod_int E.t0 k0
   obtain ⟨z1, e1, _, hw1⟩ := DataW.trod_int E.t1 k1
   simp only [List.take_succ_cons, List.take_zero, List.drop_succ_cons, List.drop_zero, List.cons.injEq, and_true] at e0 e1
   subst e0 e1
   have hr1 : ∀ n ∈ x2.1.weights P f2.type, n ≤ reachBytes := fun n hn => hr n (by
    rw [hx]
    simp only [List.map_cons, List.map_nil, DataW.weights, E.ty, DataW.weightsEach]
    simp [hn])
   have k2' : DataW.trod enc P W 0 (fun _ => true) true n f2.type [u2] = some x2 := by simpa using k2
   rcases open_ints E.t2 E.tq E.cq k2' with ⟨hcs, _⟩ | ⟨y, l, c, zs, hcs, _, hl, hm, hz, hxx, hcell, hwz⟩
   ·simp only [List.cons.injEq, and_true] at hcs
    subst hcs
    exact ⟨⟨z0, z1, []⟩, none, 0, 0, rfl, ⟨hw0, hw1⟩, Bs.zero _ _, by simp⟩
   ·simp only [List.cons.injEq, and_true] at hcs
    subst hcs
    have hz' : zs.length = c := by simpa using hz
    have h1 := hr1
    rw [hxx] at h1
    have h2 := slice_reach E.t2 h1
    rw [E.bq] at h2
    simp only [lits, List.length_map, List.length_take, List.length_drop, reachBytes] at h2
    have hbs := bs_of_cells hl hm hz' hcell hwz
    exact ⟨⟨z0, z1, _⟩, some y, l, c, rfl, ⟨hw0, hw1⟩, hbs, by show (bytesOfInts (zs.take l)).length ≤ _; rw [hbs.len]; omega⟩
theorem d3s_open (E : D3T P e q f0 f1 f2) (ht : P.underlying t = some (.slice e)) (h : DataW.Trod enc P W 0 (fun _ => true) true t (.slice a len cap) d p) (hr : ∀ n ∈ d.weights P t, n ≤ reachBytes) :
  ∃ ds, D3s W W.heap.size a len cap ds ∧ (∀ x ∈ ds, x.bs.length ≤ 140737488351232) := by
 obtain ⟨fuel, hf⟩ := h
 rcases DataW.trod_slice ht hf with ⟨hcs, _⟩ | ⟨a', l', c', elems, rest, n, _, hcs, hx, hb, hl, hm, hlen, hel, _, _⟩
 ·simp [Value.cells] at hcs
  obtain ⟨rfl, rfl, rfl⟩ := hcs
  exact ⟨[], ⟨rfl, Nat.le_refl _, Nat.zero_le _, fun _ => rfl, (fun x hx => by cases hx), fun h => absurd h (by omega)⟩, fun x hx => by cases hx⟩
 ·simp [Value.cells] at hcs
  obtain ⟨rfl, rfl, rfl⟩ := hcs
  obtain ⟨rfl, _⟩ := Prod.mk.inj hx
  have add_add : ∀ r i, (a'.add (r * 3)).add i = a'.add (r * 3 + i) := by
   intro r i
   by_cases h0 : r * 3 = 0
   ·rw [h0, add_none, Nat.zero_add]
   ·by_cases h1 : i = 0
    ·rw [h1, add_none, Nat.add_zero]
    ·simp [Addr.add, h0, h1, Nat.add_assoc]
  have each : ∀ r, r < len → ∃ y : D3 × (Option Addr × Nat × Nat), W.cell? (a'.add (r * 3 + 0)) = some (.int .i64 y.1.kind) ∧ W.cell? (a'.add (r * 3 + 1)) = some (.int .i64 y.1.pl) ∧ W.cell? (a'.add (r * 3 + 2)) = some (.slice y.2.1 y.2.2.1 y.2.2.2) ∧ D3Ok y.1 ∧ Bs W W.heap.size y.2.1 y.2.2.1 y.2.2.2 y.1.bs ∧ y.1.bs.length ≤ 140737488351232 := by
   intro r hr'
   have h1 := hel r hr'
   rw [E.ce, List.getElem?_eq_getElem (by omega)] at h1
   obtain ⟨cs, hc, ht2⟩ := Option.bind_eq_some_iff.1 h1
   obtain ⟨y, A, m, c, e1, h2, h3, h4⟩ := do3_read E ht2 (slice_reach_in ht hr _ (List.mem_map.2 ⟨_, List.getElem_mem (by omega), rfl⟩))
   have hcell := (World.cells?_some hc).2.2
   subst e1
   refine ⟨(y, (A, m, c)), ?_, ?_, ?_, h2, h3, h4⟩
   ·have h5 := hcell 0 (by omega); rw [add_add] at h5; exact h5
   ·have h5 := hcell 1 (by omega); rw [add_add] at h5; exact h5
   ·have h5 := hcell 2 (by omega); rw [add_add] at h5; exact h5
  obtain ⟨y, hy⟩ := choose_lt each
  refine ⟨(List.range len).map fun r => (y r).1, ⟨by simp, hl, hm, (fun h => by cases h), fun x hx => ?_, fun h0 => ?_⟩, fun x hx => ?_⟩
  ·obtain ⟨r, hr1, rfl⟩ := List.mem_map.1 hx
   exact (hy r (List.mem_range.1 hr1)).2.2.2.1
  ·have h1 := (hy 0 h0).1
   rw [show 0 * 3 + 0 = 0 from rfl, add_none] at h1
   have hs := spot_of_cell h1
   refine ⟨a'.block, a'.off, by rw [← addr_lit hs], World.block_lt_of_cell? W a' h1, fun j hj => ?_⟩
   have hj' : j < len := by simpa using hj
   obtain ⟨k0, k1, k4, _, k5, _⟩ := hy j hj'
   rw [addr_lit hs, Addr.add_lit] at k0 k1 k4
   refine ⟨_, _, _, ⟨by simpa using k0, by simpa [Nat.add_assoc] using k1, by simpa [Nat.add_assoc] using k4, by simpa using k5⟩⟩
  ·obtain ⟨r, hr1, rfl⟩ := List.mem_map.1 hx
   exact (hy r (List.mem_range.1 hr1)).2.2.2.2.2
end
theorem doT9 : ∃ f0 f1 f2, D3T Tryz.prog 35 5 f0 f1 f2 :=
 ⟨_, _, _, Tryz.underlying35, by kernel_rfl, by kernel_rfl, by kernel_rfl, by kernel_rfl, rfl, rfl, rfl, by kernel_rfl, by kernel_rfl, by kernel_rfl, by kernel_rfl, by kernel_rfl, by kernel_rfl⟩
end Go.Proofs.YtcehkafddlfleaaGreatDoor

namespace Go.Proofs.YtcehkafddlfleaaGreatDoor
open Go.RowKit
theorem laid_et : Tryz.prog.globalNamed "errors.errorType" = some 0 := by kernel_rfl
theorem laid_rt : (Tryz.prog.cutTypes.find? (·.1 == "internal/reflectlite.rtype")).map (·.2) = some 273 := by kernel_rfl
theorem laid_size : Tryz.prog.types.size = 418 := by kernel_rfl
theorem laid_oneRow : ((List.range 418).filter fun t => Tryz.prog.rowNamed t [101, 114, 114, 111, 114]) = [117] := by kernel_rfl
theorem ety_of_laid {W : World} (h : laidMetH Tryz.prog [("errors.errorType", Rows.laid_errors_errorType)] W) : Ety W := by
 have h' : laidMet Tryz.prog [] W ∧ handlesMet Tryz.prog [("errors.errorType", Rows.laid_errors_errorType)] W := h
 obtain ⟨name, u, ty, e1, e2, e3, e4, e5⟩ := h'.2 _ (List.mem_singleton.2 rfl)
 have en : name = [101, 114, 114, 111, 114] := (Option.some.inj e1).symm
 subst en
 obtain rfl := Option.some.inj (laid_rt.symm.trans e2)
 have hm : ty ∈ (List.range 418).filter fun t => Tryz.prog.rowNamed t [101, 114, 114, 111, 114] := List.mem_filter.2 ⟨List.mem_range.2 (by rw [← laid_size]; exact e3), e4⟩
 rw [laid_oneRow] at hm
 obtain rfl := List.mem_singleton.1 hm
 have hh : typeHandle Tryz.prog 117 = .pointer (some ⟨1, 117, none⟩) := by kernel_rfl
 rw [hh] at e5
 exact ⟨by simpa using World.var?_cell laid_et e5 0⟩
noncomputable def laidWorld (os : Os) : World :=
 let w0 := World.holding Tryz.prog os ⟨#[], #[], []⟩
 {w0 with heap := w0.heap.modify 0 fun
   | .cells _ t frozen => .cells #[.iface 273 (.agg #[.pointer (some ⟨1, 117, none⟩)])] t frozen
   | o => o }
theorem laidWorld_met (os : Os) (args : Array Value) : laidMetH Tryz.prog [("errors.errorType", Rows.laid_errors_errorType)] ((laidWorld os).forCall (fun _ _ => 0) ⟨#[], args, []⟩).memory :=
 laidMetH_of_parts (laidMet_nil _ _) (by kernel_rfl)
end Go.Proofs.YtcehkafddlfleaaGreatDoor
