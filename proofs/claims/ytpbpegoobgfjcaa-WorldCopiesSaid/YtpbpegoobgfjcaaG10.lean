/- Bytes of a constant text, as the walk meets them: the row is laid, and marked. No program is named here.
   The contract of the sixth chapter's known.
   Lists of things that are done to a World: as the walks read them, and as they came in.
   The contracts of sacristanref06's Long, of small and of did.
   The contract of did.
   Rows of cells apart from what may turn; a world as the document keeps it.
   The document's world: Counter, there, note. -/
import Derived.Test.YtpbpegoobgfjcaaG01
import Derived.Lib.SlBytesConst
import Derived.Test.YtpbpegoobgfjcaaG07
import Derived.Test.YtpbpegoobgfjcaaG02
import Derived.Test.YtpbpegoobgfjcaaG08
import Derived.Great.BuildSlice
namespace Go.Proofs.Ytpbpegoobgfjcaa
open Go.RowKit

/-- bytes that have just been laid, marked or not -/
theorem lit_bs (w : World) (t : TypeId) (fr : Nat × Nat) (l : List UInt8) (C : Array Value) (hC : C = (cells8 l).toArray) (n : Nat) (hn : l.length = n) (hm : n ≤ maxLen) : Bs (w.alloc (.cells C t fr)) (w.heap.size + 1) (some ⟨w.heap.size, 0, none⟩) n n l := by
  subst hC
  refine ⟨hn, Nat.le_refl _, hm, (fun h => by cases h), fun _ => ⟨w.heap.size, 0, rfl, by omega, fun j hj => ?_⟩⟩
  have hb : (w.alloc (.cells (cells8 l).toArray t fr)).heap[w.heap.size]? = some (.cells (cells8 l).toArray t fr) := by
    show (w.heap.push _)[w.heap.size]? = _
    simp
  rw [cell_of_row _ _ _ _ _ _ hb]
  simpa using cells8_at l j hj
section
variable {P : Program} {w : World} {ops : Array Oper} {rest : List Oper} {o : Oper} {a : Act} {Q : Exit → Act → World → Prop} {t e : TypeId} {z : Value} {bytes : Nat}
theorem wpList_lit (E : El P t e z bytes) (he : P.underlying e = some (.int .u8)) (hg : Region.wanted o (yielded ops a.tmps) = true) (x : Operand) (hop : o.op = .convert t t x) {C : Array Value} (l : List UInt8) (hC : C = (cells8 l).toArray) (n : Nat) (hn : l.length = n) (hm : n ≤ maxLen) (hx : a.eval x = .slice (some ⟨w.heap.size, 0, none⟩) n n)
    (h : ∀ w', Bs w' w'.heap.size (some ⟨w.heap.size, 0, none⟩) n n l → Below w.heap.size w w' → wpList P ops Q rest (a.put o.dst (.slice (some ⟨w.heap.size, 0, none⟩) n n)) w') :
    wpList P ops Q (o :: rest) a (w.alloc (.cells C e)) := by
  refine wpList_step fun K hK => ?_
  rw [if_pos hg]
  have hrun := Lib.run_convert_bytes_const (P := P) w t e C n n E.ty he
  have hty : o.op = .convert t t x := hop
  unfold Oper.wp
  simp only [execOp, hty, hx, Sem.run_bind, hrun, Result.andThen_ok, Sem.run_pure]
  refine hK _ _ (h _ ((lit_bs w e (C.size, C.size + 1) l C hC n hn hm).more (by simp)) ((Below.refl _ _).alloc (Nat.le_refl _) _))
end
end Go.Proofs.Ytpbpegoobgfjcaa

namespace Go.Proofs.Ytpbpegoobgfjcaa
open Go.RowKit

def kx : Int × Int := (0, 1)
def kt0 : Wd := newW 1
def kt1 : Wd := writeW kt0 kx [97, 98]
def kt2 : Wd := readW kt1 kx
def kt3 : Wd := armW kt2 1
def kt4 : Wd := writeW kt3 kx [99, 100]
def kt5 : Wd := restartW kt4
def kr1 : List UInt8 := readL kt1 kx
def kr2 : List UInt8 := readL kt5 kx
theorem k_b1 : writeB kt0 kx = true := by decide +kernel
theorem k_b2 : writeB kt3 kx = false := by decide +kernel
theorem k_dead : kt4.lost = true := by decide +kernel
theorem k_r1 : kr1.length = 272 ∧ kr1.take 2 = [97, 98] := by decide +kernel
theorem k_r2 : kr2.length = 272 ∧ kr2.take 2 = [99, 98] := by decide +kernel
theorem k_ok : okP (0, 1) := ⟨rfl, rfl⟩

/-- bytes that have just been laid -/
theorem StS.laid {w0 w w' : World} {k : Nat} {ws : List (Nat × Wd)} {hs : List Held} {sn : List (World × (Nat → Prop))} (h : StS w0 w k ws hs sn) (hb : Below w.heap.size w w') {n c : Nat} {l : List UInt8} (hB : Bs w' w'.heap.size (some ⟨w.heap.size, 0, none⟩) n c l) (hn : n ≤ 4294967296) :
    StS w0 w' k ws ((some ⟨w.heap.size, 0, none⟩, n, c, l) :: hs) sn := by
  obtain ⟨M0, Os0, g1, g2, g3, g4, g5⟩ := h.is
  have hlt : ∀ k, M0 k → k < w'.heap.size := fun k hk => Nat.lt_of_lt_of_le (g2 k hk) hb.size
  refine ⟨⟨M0, Os0, g1.chg (S := fun _ => False) (Chg.of_below _ hb) (fun _ h => h.elim) (fun _ h => .inl h) (fun _ h => h) hlt (fun _ _ _ h => h.elim), hlt, g3, fun x hx => ?_, fun s hs => (g5 s hs).next (Chg.of_below (fun _ => False) hb) (fun _ h => h.elim) (fun _ h => .inl h)⟩, h.below.trans (hb.mono h.below.size), h.small⟩
  rcases List.mem_cons.1 hx with rfl | hx
  · refine ⟨hB, fun ad hA _ hm => ?_, hn⟩
    obtain rfl := Option.some.inj hA
    have := g2 _ hm
    simp at this
  · exact (g4 x hx).below hb

set_option maxRecDepth 100000 in
set_option maxHeartbeats 2000000 in
theorem known6_any (w : World) : Calls Try.prog 10 #[] w fun e w' => e = .returned (.bool true) ∧ Below w.heap.size w w' := by
  have hb1 := k_b1
  have hb2 := k_b2
  have hd := k_dead
  have hl1 := k_r1.1
  have hl2 := k_r2.1
  go_enter Try.func10, Try.ntmps10
  go_wp2_with fail
  refine (st_new (St.start w) 1 (by omega)).mono ?_
  rintro e w1 ⟨b, rfl, S1⟩
  have H1 : Kp (St w w1 0 [(b, kt0)] []) := ⟨S1⟩
  clear S1
  go_wp2_with (with_reducible refine wpList_lit (o := ⟨some 11, _, _, _, _, _⟩) el8 Try.underlying5 rfl (.tmp 10) rfl [97, 98] rfl 2 rfl (by decide) rfl ?_)
  intro w2 hB2 hb2
  have H2 : Kp _ := ⟨H1.out.laid hb2 hB2 (by omega)⟩
  clear hB2 hb2 H1
  go_wp2_with fail
  refine (st_write H2.out (by omega) 0 1 k_ok _ 2 2 [97, 98] (by simp)).mono ?_
  rintro e w3 ⟨rfl, S3⟩
  have H3 : Kp (St w w3 1 [(b, kt1)] []) := ⟨S3.forget (fun _ h => by cases h)⟩
  clear S3 H2
  go_wp2_with fail
  refine (st_read H3.out (by omega) 0 1 k_ok).mono ?_
  rintro e w4 ⟨A4, n4, c4, rfl, S4⟩
  have H4 : Kp (St w w4 2 [(b, kt2)] [(A4, n4, c4, kr1)]) := ⟨S4⟩
  clear S4 H3
  go_wp2_with fail
  refine (st_arm H4.out 1).mono ?_
  rintro e w5 ⟨rfl, S5⟩
  have H5 : Kp (St w w5 3 [(b, kt3)] [(A4, n4, c4, kr1)]) := ⟨S5⟩
  clear S5 H4
  go_wp2_with (with_reducible refine wpList_lit (o := ⟨some 19, _, _, _, _, _⟩) el8 Try.underlying5 rfl (.tmp 18) rfl [99, 100] rfl 2 rfl (by decide) rfl ?_)
  intro w6 hB6 hb6
  have H6 : Kp _ := ⟨H5.out.laid hb6 hB6 (by omega)⟩
  clear hB6 hb6 H5
  go_wp2_with fail
  refine (st_write H6.out (by omega) 0 1 k_ok _ 2 2 [99, 100] (by simp)).mono ?_
  rintro e w7 ⟨rfl, S7⟩
  have H7 : Kp (St w w7 4 [(b, kt4)] [(A4, n4, c4, kr1)]) := ⟨S7.forget (fun x h => by simp at h ⊢; exact .inr h)⟩
  clear S7 H6
  go_wp2_with fail
  refine (st_dead H7.out).mono ?_
  rintro e w8 ⟨rfl, rfl⟩
  go_wp2_with fail
  refine (st_restart H7.out).mono ?_
  rintro e w9 ⟨rfl, S9⟩
  have H9 : Kp (St w w9 5 [(b, kt5)] [(A4, n4, c4, kr1)]) := ⟨S9⟩
  clear S9 H7
  go_wp2_with fail
  refine (st_read H9.out (by omega) 0 1 k_ok).mono ?_
  rintro e w10 ⟨A10, n10, c10, rfl, S10⟩
  have H10 : Kp (St w w10 6 [(b, readW kt5 kx)] [(A10, n10, c10, kr2), (A4, n4, c4, kr1)]) := ⟨S10⟩
  clear S10 H9
  have B4 := (H10.out.heldM (A := A4) (n := n4) (c := c4) (l := kr1) (by simp)).1
  have B10 := (H10.out.heldM (A := A10) (n := n10) (c := c10) (l := kr2) (by simp)).1
  obtain rfl : n4 = 272 := by rw [← B4.len]; exact hl1
  obtain rfl : n10 = 272 := by rw [← B10.len]; exact hl2
  have hB : Below w.heap.size w w10 := H10.out.below
  have HB4 : Kp _ := ⟨B4⟩
  have HB10 : Kp _ := ⟨B10⟩
  clear B4 B10 H10
  go_wp2_with (with_reducible refine wpList_cut_h_g (o := ⟨some 35, _, _, _, _, _⟩) el8 (by kernel_rfl) _ _ rfl rfl HB4.out _ _ 2 rfl rfl (by omega) ?_)
  intro A5 hc5
  rw [k_r1.2] at hc5
  have e5 := hc5.text Try.underlying22 Try.underlying5 Try.underlying9
  clear hc5
  go_wp2_with (with_reducible refine wpList_cut_h_g (o := ⟨some 55, _, _, _, _, _⟩) el8 (by kernel_rfl) _ _ rfl rfl HB10.out _ _ 2 rfl rfl (by omega) ?_)
  intro A6 hc6
  rw [k_r2.2] at hc6
  have e6 := hc6.text Try.underlying22 Try.underlying5 Try.underlying9
  clear hc6
  go_wp2_with fail
  refine (blocks_none _).mono ?_
  rintro e w11 ⟨rfl, rfl⟩
  go_wp2
  go_ret
  exact ⟨rfl, hB⟩
end Go.Proofs.Ytpbpegoobgfjcaa

namespace Go.Proofs.Ytpbpegoobgfjcaa
open Go.ChangeShapes Go.WideShapes Go.ChangeAt Go.RowKit Go.Deep

structure Dd where
  kind : Int
  pl : Int
  sl : Int
  num : Int
  bs : List UInt8
instance : Inhabited Dd := ⟨⟨0, 0, 0, 0, []⟩⟩
structure DdOk (d : Dd) : Prop where
  kind : (Lit.int .i64 d.kind).wf = true
  pl : (Lit.int .i64 d.pl).wf = true
  sl : (Lit.int .i64 d.sl).wf = true
  num : (Lit.int .i64 d.num).wf = true
/-- one of them lies at o of block b -/
structure DdAt (w : World) (B b o : Nat) (d : Dd) (A : Option Addr) (n c : Nat) : Prop where
  kind : w.cell? ⟨b, o, none⟩ = some (.int .i64 d.kind)
  pl : w.cell? ⟨b, o + 1, none⟩ = some (.int .i64 d.pl)
  sl : w.cell? ⟨b, o + 2, none⟩ = some (.int .i64 d.sl)
  num : w.cell? ⟨b, o + 3, none⟩ = some (.int .i64 d.num)
  sli : w.cell? ⟨b, o + 4, none⟩ = some (.slice A n c)
  bytes : Bs w B A n c d.bs
/-- A slice of n of room c at A reads as the things ds; all lies below block B. -/
structure Dos (w : World) (B : Nat) (A : Option Addr) (n c : Nat) (ds : List Dd) : Prop where
  len : ds.length = n
  cap : n ≤ c
  max : c ≤ maxLen
  nil : A = none → c = 0
  ok : ∀ x ∈ ds, DdOk x
  cells : 0 < n → ∃ b o, A = some ⟨b, o, none⟩ ∧ b < B ∧ ∀ j (h : j < ds.length), ∃ A' n' c', DdAt w B b (o + j * 5) ds[j] A' n' c'
section
variable {w w' : World} {B B' b o : Nat} {A : Option Addr} {n c : Nat} {d : Dd} {ds : List Dd}
theorem DdAt.keep (h : DdAt w B b o d A n c) (hb : b < B) (hk : ∀ p : Addr, p.block < B → w'.cell? p = w.cell? p) : DdAt w' B b o d A n c :=
  ⟨(hk _ hb).trans h.kind, (hk _ hb).trans h.pl, (hk _ hb).trans h.sl, (hk _ hb).trans h.num, (hk _ hb).trans h.sli, h.bytes.keep hk⟩
theorem Dos.le (h : Dos w B A n c ds) : n ≤ 9223372036854775807 := by have := h.cap; have := h.max; simp only [maxLen] at this; omega
theorem Dos.below (h : Dos w B A n c ds) (hb : Below B w w') : Dos w' B A n c ds :=
  ⟨h.len, h.cap, h.max, h.nil, h.ok, fun h0 => by
    obtain ⟨b, o, hA, hbl, hc⟩ := h.cells h0
    refine ⟨b, o, hA, hbl, fun j hj => ?_⟩
    obtain ⟨A', n', c', h1⟩ := hc j hj
    exact ⟨A', n', c', h1.keep hbl fun _ hp => hb.cell hp⟩⟩
theorem Dos.at (h : Dos w B A n c ds) {i : Nat} (hi : i < n) : ∃ b o A' n' c', A = some ⟨b, o, none⟩ ∧ DdAt w B b (o + i * 5) (ds[i]'(by have := h.len; omega)) A' n' c' := by
  obtain ⟨b, o, hA, hb, hc⟩ := h.cells (by omega)
  obtain ⟨A', n', c', h1⟩ := hc i (by have := h.len; omega)
  exact ⟨b, o, A', n', c', hA, h1⟩
end

/-- the shape of one of them -/
structure DoT (P : Program) (e q : TypeId) (f0 f1 f2 f3 f4 : Field) : Prop where
  ty : P.underlying e = some (.struct #[f0, f1, f2, f3, f4])
  t0 : P.underlying f0.type = some (.int .i64)
  t1 : P.underlying f1.type = some (.int .i64)
  t2 : P.underlying f2.type = some (.int .i64)
  t3 : P.underlying f3.type = some (.int .i64)
  t4 : P.underlying f4.type = some (.slice q)
  tq : P.underlying q = some (.int .u8)
  o0 : f0.offset = 0
  o1 : f1.offset = 1
  o2 : f2.offset = 2
  o3 : f3.offset = 3
  o4 : f4.offset = 4
  c0 : P.cellsOf f0.type = 1
  c1 : P.cellsOf f1.type = 1
  c2 : P.cellsOf f2.type = 1
  c3 : P.cellsOf f3.type = 1
  c4 : P.cellsOf f4.type = 1
  cq : P.cellsOf q = 1
  ce : P.cellsOf e = 5
  bq : P.bytesOf q = 1
section
variable {H : Type} {P : Program} {enc : TypeId × Value → H} {W : World} {t e q : TypeId} {a : Option Addr} {len cap : Nat} {d : DataW H} {p : List MemPlace} {f0 f1 f2 f3 f4 : Field}
/-- one of them -/
theorem do_read (E : DoT P e q f0 f1 f2 f3 f4) {fuel : Nat} {cs : List Value} {x : DataW H × List MemPlace} (h : DataW.trod enc P W 0 (fun _ => true) true fuel e cs = some x) (hr : ∀ n ∈ x.1.weights P e, n ≤ reachBytes) :
    ∃ (y : Dd) (A : Option Addr) (m c : Nat), cs = [.int .i64 y.kind, .int .i64 y.pl, .int .i64 y.sl, .int .i64 y.num, .slice A m c] ∧ DdOk y ∧ Bs W W.heap.size A m c y.bs ∧ y.bs.length ≤ 140737488351232 := by
  obtain ⟨xs, n, _, hx, hlen, hxl, hel⟩ := DataW.trod_struct E.ty h
  rw [E.ce] at hlen
  have k0 := hel 0 f0 rfl
  have k1 := hel 1 f1 rfl
  have k2 := hel 2 f2 rfl
  have k3 := hel 3 f3 rfl
  have k4 := hel 4 f4 rfl
  rw [E.o0, E.c0, List.drop_zero] at k0
  rw [E.o1, E.c1] at k1
  rw [E.o2, E.c2] at k2
  rw [E.o3, E.c3] at k3
  rw [E.o4, E.c4] at k4
  match cs, hlen with
  | [u0, u1, u2, u3, u4], _ =>
    match xs, hxl with
    | [x0, x1, x2, x3, x4], _ =>
      obtain ⟨z0, e0, _, hw0⟩ := DataW.trod_int E.t0 k0
      obtain ⟨z1, e1, _, hw1⟩ := DataW.trod_int E.t1 k1
      obtain ⟨z2, e2, _, hw2⟩ := DataW.trod_int E.t2 k2
      obtain ⟨z3, e3, _, hw3⟩ := DataW.trod_int E.t3 k3
      simp only [List.take_succ_cons, List.take_zero, List.drop_succ_cons, List.drop_zero, List.cons.injEq, and_true] at e0 e1 e2 e3
      subst e0 e1 e2 e3
      have hr1 : ∀ n ∈ x4.1.weights P f4.type, n ≤ reachBytes := fun n hn => hr n (by
        rw [hx]
        simp only [List.map_cons, List.map_nil, DataW.weights, E.ty, DataW.weightsEach]
        simp [hn])
      have k4' : DataW.trod enc P W 0 (fun _ => true) true n f4.type [u4] = some x4 := by simpa using k4
      rcases open_ints E.t4 E.tq E.cq k4' with ⟨hcs, _⟩ | ⟨y, l, c, zs, hcs, _, hl, hm, hz, hxx, hcell, hwz⟩
      · simp only [List.cons.injEq, and_true] at hcs
        subst hcs
        exact ⟨⟨z0, z1, z2, z3, []⟩, none, 0, 0, rfl, ⟨hw0, hw1, hw2, hw3⟩, Bs.zero _ _, by simp⟩
      · simp only [List.cons.injEq, and_true] at hcs
        subst hcs
        have hz' : zs.length = c := by simpa using hz
        have h1 := hr1
        rw [hxx] at h1
        have h2 := slice_reach E.t4 h1
        rw [E.bq] at h2
        simp only [lits, List.length_map, List.length_take, List.length_drop, reachBytes] at h2
        have hbs := bs_of_cells hl hm hz' hcell hwz
        exact ⟨⟨z0, z1, z2, z3, _⟩, some y, l, c, rfl, ⟨hw0, hw1, hw2, hw3⟩, hbs, by show (bytesOfInts (zs.take l)).length ≤ _; rw [hbs.len]; omega⟩
/-- a list of them -/
theorem dos_open (E : DoT P e q f0 f1 f2 f3 f4) (ht : P.underlying t = some (.slice e)) (h : DataW.Trod enc P W 0 (fun _ => true) true t (.slice a len cap) d p) (hr : ∀ n ∈ d.weights P t, n ≤ reachBytes) :
    ∃ ds, Dos W W.heap.size a len cap ds ∧ (∀ x ∈ ds, x.bs.length ≤ 140737488351232) := by
  obtain ⟨fuel, hf⟩ := h
  rcases DataW.trod_slice ht hf with ⟨hcs, _⟩ | ⟨a', l', c', elems, rest, n, _, hcs, hx, hb, hl, hm, hlen, hel, _, _⟩
  · simp [Value.cells] at hcs
    obtain ⟨rfl, rfl, rfl⟩ := hcs
    exact ⟨[], ⟨rfl, Nat.le_refl _, Nat.zero_le _, fun _ => rfl, (fun x hx => by cases hx), fun h => absurd h (by omega)⟩, fun x hx => by cases hx⟩
  · simp [Value.cells] at hcs
    obtain ⟨rfl, rfl, rfl⟩ := hcs
    obtain ⟨rfl, _⟩ := Prod.mk.inj hx
    have add_add : ∀ r i, (a'.add (r * 5)).add i = a'.add (r * 5 + i) := by
      intro r i
      by_cases h0 : r * 5 = 0
      · rw [h0, add_none, Nat.zero_add]
      · by_cases h1 : i = 0
        · rw [h1, add_none, Nat.add_zero]
        · simp [Addr.add, h0, h1, Nat.add_assoc]
    have each : ∀ r, r < len → ∃ y : Dd × (Option Addr × Nat × Nat), W.cell? (a'.add (r * 5 + 0)) = some (.int .i64 y.1.kind) ∧ W.cell? (a'.add (r * 5 + 1)) = some (.int .i64 y.1.pl) ∧ W.cell? (a'.add (r * 5 + 2)) = some (.int .i64 y.1.sl) ∧ W.cell? (a'.add (r * 5 + 3)) = some (.int .i64 y.1.num) ∧ W.cell? (a'.add (r * 5 + 4)) = some (.slice y.2.1 y.2.2.1 y.2.2.2) ∧ DdOk y.1 ∧ Bs W W.heap.size y.2.1 y.2.2.1 y.2.2.2 y.1.bs ∧ y.1.bs.length ≤ 140737488351232 := by
      intro r hr'
      have h1 := hel r hr'
      rw [E.ce, List.getElem?_eq_getElem (by omega)] at h1
      obtain ⟨cs, hc, ht2⟩ := Option.bind_eq_some_iff.1 h1
      obtain ⟨y, A, m, c, e1, h2, h3, h4⟩ := do_read E ht2 (slice_reach_in ht hr _ (List.mem_map.2 ⟨_, List.getElem_mem (by omega), rfl⟩))
      have hcell := (World.cells?_some hc).2.2
      subst e1
      refine ⟨(y, (A, m, c)), ?_, ?_, ?_, ?_, ?_, h2, h3, h4⟩
      · have h5 := hcell 0 (by omega); rw [add_add] at h5; exact h5
      · have h5 := hcell 1 (by omega); rw [add_add] at h5; exact h5
      · have h5 := hcell 2 (by omega); rw [add_add] at h5; exact h5
      · have h5 := hcell 3 (by omega); rw [add_add] at h5; exact h5
      · have h5 := hcell 4 (by omega); rw [add_add] at h5; exact h5
    obtain ⟨y, hy⟩ := choose_lt each
    refine ⟨(List.range len).map fun r => (y r).1, ⟨by simp, hl, hm, (fun h => by cases h), fun x hx => ?_, fun h0 => ?_⟩, fun x hx => ?_⟩
    · obtain ⟨r, hr1, rfl⟩ := List.mem_map.1 hx
      exact (hy r (List.mem_range.1 hr1)).2.2.2.2.2.1
    · have h1 := (hy 0 h0).1
      rw [show 0 * 5 + 0 = 0 from rfl, add_none] at h1
      have hs := spot_of_cell h1
      refine ⟨a'.block, a'.off, by rw [← addr_lit hs], World.block_lt_of_cell? W a' h1, fun j hj => ?_⟩
      have hj' : j < len := by simpa using hj
      obtain ⟨k0, k1, k2, k3, k4, _, k5, _⟩ := hy j hj'
      rw [addr_lit hs, Addr.add_lit] at k0 k1 k2 k3 k4
      refine ⟨_, _, _, ⟨by simpa using k0, by simpa [Nat.add_assoc] using k1, by simpa [Nat.add_assoc] using k2, by simpa [Nat.add_assoc] using k3, by simpa [Nat.add_assoc] using k4, by simpa using k5⟩⟩
    · obtain ⟨r, hr1, rfl⟩ := List.mem_map.1 hx
      exact (hy r (List.mem_range.1 hr1)).2.2.2.2.2.2.2
end
theorem doT : ∃ f0 f1 f2 f3 f4, DoT Try.prog 47 5 f0 f1 f2 f3 f4 :=
  ⟨_, _, _, _, _, Try.underlying47, by kernel_rfl, by kernel_rfl, by kernel_rfl, by kernel_rfl, by kernel_rfl, by kernel_rfl, rfl, rfl, rfl, rfl, rfl, by kernel_rfl, by kernel_rfl, by kernel_rfl, by kernel_rfl, by kernel_rfl, by kernel_rfl, by kernel_rfl, by kernel_rfl⟩
end Go.Proofs.Ytpbpegoobgfjcaa

namespace Go.Proofs.Ytpbpegoobgfjcaa
open Go.RowKit

def dlong (ds : List Dd) : Nat := (ds.map fun d => 1 + d.bs.length).sum
theorem dlong_next (ds : List Dd) (k : Nat) (h : k < ds.length) : dlong (ds.take (k + 1)) = dlong (ds.take k) + 1 + ds[k].bs.length := by
  unfold dlong
  rw [List.take_succ_eq_append_getElem h, List.map_append, List.sum_append]
  simp; omega
theorem dlong_mem (ds : List Dd) : ∀ x ∈ ds, x.bs.length < dlong ds := by
  induction ds with
  | nil => intro x h; cases h
  | cons y ys ih =>
    intro x h
    have e : dlong (y :: ys) = 1 + y.bs.length + dlong ys := by simp [dlong]
    rw [e]
    rcases List.mem_cons.1 h with rfl | h
    · omega
    · have := ih x h; omega
theorem dlong_le (ds : List Dd) (M : Nat) (h : ∀ x ∈ ds, x.bs.length ≤ M) (k : Nat) (hk : k ≤ ds.length) : dlong (ds.take k) ≤ k * (M + 1) := by
  induction k with
  | zero => simp [dlong]
  | succ k ih =>
    rw [dlong_next ds k (by omega)]
    have := h _ (List.getElem_mem (show k < ds.length by omega))
    have := ih (by omega)
    rw [Nat.succ_mul]; omega
set_option maxHeartbeats 1000000 in
theorem dlong_any (A : Option Addr) (m c : Nat) (ds : List Dd) (w : World) (B : Nat) (hI : Dos w B A m c ds) (hm : m ≤ 40) (hb : ∀ x ∈ ds, x.bs.length ≤ 140737488351232) :
    Calls Try.prog 43 #[.slice A m c] w fun e w' => e = .returned (.int .i64 ((dlong ds : Nat) : Int)) ∧ w' = w := by
  have HL : Kp _ := ⟨hI.len⟩
  have HB : Kp _ := ⟨hb⟩
  have HI : Kp _ := ⟨hI⟩
  have hm63 := hI.le
  clear hI hb
  go_enter Try.func43, Try.ntmps43
  go_wp2
  go_loop [3, 4] (fun s i => ∃ k : Nat, k ≤ m ∧ i = .int .i64 k ∧ s = .int .i64 ((dlong (ds.take k) : Nat) : Int)) (fun _ i => m - (intOf i).toNat)
  case atStart => exact ⟨0, Nat.zero_le _, rfl, rfl⟩
  case round =>
    obtain ⟨k, hk, rfl, rfl⟩ := hrel
    by_cases hlt : k < m
    · obtain ⟨b, o, A', n', c', rfl, hd⟩ := HI.out.at hlt
      have hki : k < ds.length := by rw [HL.out]; exact hlt
      have HNx : Kp _ := ⟨dlong_next ds k hki⟩
      have h1 := dlong_le ds 140737488351232 HB.out k (by omega)
      have h2 := HB.out _ (List.getElem_mem hki)
      have h3 : (ds[k]'hki).bs.length = n' := hd.bytes.len
      have hc4 := hd.sli
      rw [h3] at h2 HNx
      have h4 : dlong (ds.take k) ≤ 5629499534049280 := Nat.le_trans h1 (by omega)
      have hn63 := hd.bytes.le
      generalize dlong (ds.take k) = s at *
      clear h1 h3 hd
      go_wp2
      go_round
      case rel => exact ⟨k + 1, by omega, by go_num, by rw [HNx.out]; go_num⟩
      case measure => simp [intOf]; omega
    · obtain rfl : k = m := by omega
      have HE : Kp (ds.take k = ds) := ⟨List.take_of_length_le (by rw [HL.out]; exact Nat.le_refl _)⟩
      rw [HE.out]
      go_wp2
      go_ret
      exact ⟨rfl, rfl⟩
def dsmall (ds : List Dd) : Bool := decide (ds.length ≤ 40) && decide (dlong ds ≤ 3000)
set_option maxHeartbeats 400000 in
theorem small_any (A : Option Addr) (m c : Nat) (ds : List Dd) (w : World) (B : Nat) (hI : Dos w B A m c ds) (hb : ∀ x ∈ ds, x.bs.length ≤ 140737488351232) :
    Calls Try.prog 21 #[.slice A m c] w fun e w' => e = .returned (.bool (dsmall ds)) ∧ w' = w := by
  have hl := hI.len
  have hm63 := hI.le
  by_cases hm : m ≤ 40
  · have hmi : (m : Int) ≤ 40 := by omega
    have HI : Kp _ := ⟨hI⟩
    have HB : Kp _ := ⟨hb⟩
    have HS : Kp (dsmall ds = decide (dlong ds ≤ 3000)) := ⟨by unfold dsmall; rw [decide_eq_true (by omega)]; rfl⟩
    clear hI hb hl
    go_enter Try.func21, Try.ntmps21
    go_wp2_with fail
    refine (dlong_any A m c ds w B HI.out hm HB.out).mono ?_
    rintro e w1 ⟨rfl, rfl⟩
    by_cases h3 : dlong ds ≤ 3000
    · have h3i : ((dlong ds : Nat) : Int) ≤ 3000 := by omega
      have HD : Kp _ := ⟨decide_eq_true h3⟩
      clear h3
      go_wp2
      go_ret
      exact ⟨by rw [HS.out, HD.out]; rfl, rfl⟩
    · have h3i : ¬ (((dlong ds : Nat) : Int) ≤ 3000) := by omega
      have HD : Kp _ := ⟨And.intro (decide_eq_false h3) (decide_eq_false h3i)⟩
      clear h3
      go_wp2
      go_ret
      refine ⟨?_, rfl⟩
      rw [HS.out, HD.out.1]
      show Ending.returned (.bool (decide (((dlong ds : Nat) : Int) ≤ 3000))) = _
      rw [HD.out.2]
  · have hmi : ¬ ((m : Int) ≤ 40) := by omega
    have HS : Kp (dsmall ds = false) := ⟨by unfold dsmall; rw [decide_eq_false (by omega)]; rfl⟩
    clear hI hb hl hm
    go_enter Try.func21, Try.ntmps21
    go_wp2
    go_ret
    exact ⟨by rw [HS.out]; rfl, rfl⟩

def u64N (z : Int) : Nat := (z % 18446744073709551616).toNat
def didW (t : Wd) (d : Dd) : Wd :=
  if d.kind = 1 then readW t (d.pl, d.sl) else if d.kind = 2 then writeW t (d.pl, d.sl) d.bs else if d.kind = 3 then lookW t d.pl else if d.kind = 4 then sealedW t d.pl d.bs
  else if d.kind = 5 then bumpW t else if d.kind = 6 then lieW t d.num d.bs else if d.kind = 7 then armW t d.num else if d.kind = 8 then restartW t else if d.kind = 9 then setW t (u64N d.num) else t
def didL (t : Wd) (d : Dd) : List UInt8 := if d.kind = 1 then readL t (d.pl, d.sl) else if d.kind = 3 then lookL t d.pl else []
def didB (t : Wd) (d : Dd) : Bool := if d.kind = 2 then writeB t (d.pl, d.sl) else if d.kind = 4 then sealB t d.pl d.bs else if d.kind = 5 then bumpB t else false
theorem StS.holdNil {w0 w : World} {k : Nat} {ws : List (Nat × Wd)} {hs : List Held} {sn : List (World × (Nat → Prop))} (h : StS w0 w k ws hs sn) : StS w0 w k ws ((none, 0, 0, []) :: hs) sn := by
  obtain ⟨M, Os, h1, h2, h3, h4, h5⟩ := h.is
  refine ⟨⟨M, Os, h1, h2, h3, fun x hx => ?_, h5⟩, h.below, h.small⟩
  rcases List.mem_cons.1 hx with rfl | hx
  · exact BsM.zero _ _
  · exact h4 x hx
end Go.Proofs.Ytpbpegoobgfjcaa

namespace Go.Proofs.Ytpbpegoobgfjcaa
open Go.RowKit

theorem sm_did {k : Nat} {t : Wd} (h : Sm k t) (d : Dd) : Sm (k + 1) (didW t d) := by
  unfold didW
  repeat' split
  · exact sm_read h _
  · exact sm_write h _ _
  · exact sm_look h _
  · exact sm_seal h _ _
  · exact sm_bump h
  · exact sm_lie h _ _
  · exact sm_arm h _
  · exact sm_restart h
  · exact sm_set h _
  · exact sm_up h
theorem do_cells (y : Dd) (A : Option Addr) (n c : Nat) : ([Value.int .i64 y.kind, .int .i64 y.pl, .int .i64 y.sl, .int .i64 y.num, .slice A n c] : List Value).length = 5 := rfl
section
variable {w0 w : World} {k b : Nat} {t : Wd} {ws : List (Nat × Wd)} {hs : List Held} {sn : List (World × (Nat → Prop))}
set_option maxRecDepth 100000 in
set_option maxHeartbeats 4000000 in
theorem did_any (h : StS w0 w k ((b, t) :: ws) hs sn) (hk : k ≤ 1000000) (d : Dd) (hd : DdOk d) (A : Option Addr) (n c : Nat) (hm : (A, n, c, d.bs) ∈ hs) :
    Calls Try.prog 23 #[.pointer (some ⟨b, 0, none⟩), .agg #[.int .i64 d.kind, .int .i64 d.pl, .int .i64 d.sl, .int .i64 d.num, .slice A n c]] w fun e w' => ∃ A' n' c', e = .returned (.tuple #[.slice A' n' c', .bool (didB t d)]) ∧ StS w0 w' (k + 1) ((b, didW t d) :: ws) ((A', n', c', didL t d) :: hs) sn := by
  obtain ⟨kd, pl, sl, num, bs⟩ := d
  obtain ⟨h1, h2, h3, h4⟩ := hd
  simp only at h1 h2 h3 h4 hm ⊢
  have H : Kp _ := ⟨h⟩
  have HM : Kp _ := ⟨hm⟩
  have HW : Kp (okP (pl, sl) ∧ okI num) := ⟨⟨h2, h3⟩, h4⟩
  clear h hm h1 h2 h3 h4
  by_cases k1 : kd = 1
  · subst k1
    go_enter Try.func23, Try.ntmps23
    go_wp2_with (with_reducible refine wpList_box (o := ⟨some 3, _, _, _, _, _⟩) (cs := [.int .i64 1, .int .i64 pl, .int .i64 sl, .int .i64 num, .slice A n c]) rfl (.tmp 1) rfl rfl ?_)
    intro w1 hk1 hb1 hs1
    have e0 : w1.cell? ⟨w.heap.size, 0, none⟩ = some (.int .i64 1) := hk1.cell? 0
    have e1 : w1.cell? ⟨w.heap.size, 1, none⟩ = some (.int .i64 pl) := hk1.cell? 1
    have e2 : w1.cell? ⟨w.heap.size, 2, none⟩ = some (.int .i64 sl) := hk1.cell? 2
    have e3 : w1.cell? ⟨w.heap.size, 3, none⟩ = some (.int .i64 num) := hk1.cell? 3
    have e4 : w1.cell? ⟨w.heap.size, 4, none⟩ = some (.slice A n c) := hk1.cell? 4
    have H1 : Kp _ := ⟨H.out.grow hb1⟩
    clear hk1 hb1 hs1
    go_wp2_with fail
    refine (st_read H1.out hk pl sl HW.out.1).mono ?_
    rintro e w2 ⟨A', n', c', rfl, S⟩
    have S : Kp _ := ⟨S⟩
    go_wp2
    refine bodyPost_ret (v := _) (results_tmp2 rfl _ _ _) rfl ?_
    exact ⟨A', n', c', rfl, S.out⟩
  by_cases k2 : kd = 2
  · subst k2
    go_enter Try.func23, Try.ntmps23
    go_wp2_with (with_reducible refine wpList_box (o := ⟨some 3, _, _, _, _, _⟩) (cs := [.int .i64 2, .int .i64 pl, .int .i64 sl, .int .i64 num, .slice A n c]) rfl (.tmp 1) rfl rfl ?_)
    intro w1 hk1 hb1 hs1
    have e0 : w1.cell? ⟨w.heap.size, 0, none⟩ = some (.int .i64 2) := hk1.cell? 0
    have e1 : w1.cell? ⟨w.heap.size, 1, none⟩ = some (.int .i64 pl) := hk1.cell? 1
    have e2 : w1.cell? ⟨w.heap.size, 2, none⟩ = some (.int .i64 sl) := hk1.cell? 2
    have e3 : w1.cell? ⟨w.heap.size, 3, none⟩ = some (.int .i64 num) := hk1.cell? 3
    have e4 : w1.cell? ⟨w.heap.size, 4, none⟩ = some (.slice A n c) := hk1.cell? 4
    have H1 : Kp _ := ⟨H.out.grow hb1⟩
    clear hk1 hb1 hs1
    go_wp2_with fail
    refine (st_write H1.out hk pl sl HW.out.1 A n c bs HM.out).mono ?_
    rintro e w2 ⟨rfl, S⟩
    have S : Kp _ := ⟨S⟩
    go_wp2
    refine bodyPost_ret (v := _) (results_tmp2 rfl _ _ _) rfl ?_
    exact ⟨none, 0, 0, rfl, S.out.holdNil⟩
  by_cases k3 : kd = 3
  · subst k3
    go_enter Try.func23, Try.ntmps23
    go_wp2_with (with_reducible refine wpList_box (o := ⟨some 3, _, _, _, _, _⟩) (cs := [.int .i64 3, .int .i64 pl, .int .i64 sl, .int .i64 num, .slice A n c]) rfl (.tmp 1) rfl rfl ?_)
    intro w1 hk1 hb1 hs1
    have e0 : w1.cell? ⟨w.heap.size, 0, none⟩ = some (.int .i64 3) := hk1.cell? 0
    have e1 : w1.cell? ⟨w.heap.size, 1, none⟩ = some (.int .i64 pl) := hk1.cell? 1
    have e2 : w1.cell? ⟨w.heap.size, 2, none⟩ = some (.int .i64 sl) := hk1.cell? 2
    have e3 : w1.cell? ⟨w.heap.size, 3, none⟩ = some (.int .i64 num) := hk1.cell? 3
    have e4 : w1.cell? ⟨w.heap.size, 4, none⟩ = some (.slice A n c) := hk1.cell? 4
    have H1 : Kp _ := ⟨H.out.grow hb1⟩
    clear hk1 hb1 hs1
    go_wp2_with fail
    refine (st_look H1.out hk pl).mono ?_
    rintro e w2 ⟨A', n', c', rfl, S⟩
    have S : Kp _ := ⟨S⟩
    go_wp2
    refine bodyPost_ret (v := _) (results_tmp2 rfl _ _ _) rfl ?_
    exact ⟨A', n', c', rfl, S.out⟩
  by_cases k4 : kd = 4
  · subst k4
    go_enter Try.func23, Try.ntmps23
    go_wp2_with (with_reducible refine wpList_box (o := ⟨some 3, _, _, _, _, _⟩) (cs := [.int .i64 4, .int .i64 pl, .int .i64 sl, .int .i64 num, .slice A n c]) rfl (.tmp 1) rfl rfl ?_)
    intro w1 hk1 hb1 hs1
    have e0 : w1.cell? ⟨w.heap.size, 0, none⟩ = some (.int .i64 4) := hk1.cell? 0
    have e1 : w1.cell? ⟨w.heap.size, 1, none⟩ = some (.int .i64 pl) := hk1.cell? 1
    have e2 : w1.cell? ⟨w.heap.size, 2, none⟩ = some (.int .i64 sl) := hk1.cell? 2
    have e3 : w1.cell? ⟨w.heap.size, 3, none⟩ = some (.int .i64 num) := hk1.cell? 3
    have e4 : w1.cell? ⟨w.heap.size, 4, none⟩ = some (.slice A n c) := hk1.cell? 4
    have H1 : Kp _ := ⟨H.out.grow hb1⟩
    clear hk1 hb1 hs1
    go_wp2_with fail
    refine (st_seal H1.out hk pl A n c bs HM.out).mono ?_
    rintro e w2 ⟨rfl, S⟩
    have S : Kp _ := ⟨S⟩
    go_wp2
    refine bodyPost_ret (v := _) (results_tmp2 rfl _ _ _) rfl ?_
    exact ⟨none, 0, 0, rfl, S.out.holdNil⟩
  by_cases k5 : kd = 5
  · subst k5
    go_enter Try.func23, Try.ntmps23
    go_wp2_with (with_reducible refine wpList_box (o := ⟨some 3, _, _, _, _, _⟩) (cs := [.int .i64 5, .int .i64 pl, .int .i64 sl, .int .i64 num, .slice A n c]) rfl (.tmp 1) rfl rfl ?_)
    intro w1 hk1 hb1 hs1
    have e0 : w1.cell? ⟨w.heap.size, 0, none⟩ = some (.int .i64 5) := hk1.cell? 0
    have e1 : w1.cell? ⟨w.heap.size, 1, none⟩ = some (.int .i64 pl) := hk1.cell? 1
    have e2 : w1.cell? ⟨w.heap.size, 2, none⟩ = some (.int .i64 sl) := hk1.cell? 2
    have e3 : w1.cell? ⟨w.heap.size, 3, none⟩ = some (.int .i64 num) := hk1.cell? 3
    have e4 : w1.cell? ⟨w.heap.size, 4, none⟩ = some (.slice A n c) := hk1.cell? 4
    have H1 : Kp _ := ⟨H.out.grow hb1⟩
    clear hk1 hb1 hs1
    go_wp2_with fail
    refine (st_bump H1.out hk).mono ?_
    rintro e w2 ⟨rfl, S⟩
    have S : Kp _ := ⟨S⟩
    go_wp2
    refine bodyPost_ret (v := _) (results_tmp2 rfl _ _ _) rfl ?_
    exact ⟨none, 0, 0, rfl, S.out.holdNil⟩
  by_cases k6 : kd = 6
  · subst k6
    go_enter Try.func23, Try.ntmps23
    go_wp2_with (with_reducible refine wpList_box (o := ⟨some 3, _, _, _, _, _⟩) (cs := [.int .i64 6, .int .i64 pl, .int .i64 sl, .int .i64 num, .slice A n c]) rfl (.tmp 1) rfl rfl ?_)
    intro w1 hk1 hb1 hs1
    have e0 : w1.cell? ⟨w.heap.size, 0, none⟩ = some (.int .i64 6) := hk1.cell? 0
    have e1 : w1.cell? ⟨w.heap.size, 1, none⟩ = some (.int .i64 pl) := hk1.cell? 1
    have e2 : w1.cell? ⟨w.heap.size, 2, none⟩ = some (.int .i64 sl) := hk1.cell? 2
    have e3 : w1.cell? ⟨w.heap.size, 3, none⟩ = some (.int .i64 num) := hk1.cell? 3
    have e4 : w1.cell? ⟨w.heap.size, 4, none⟩ = some (.slice A n c) := hk1.cell? 4
    have H1 : Kp _ := ⟨H.out.grow hb1⟩
    clear hk1 hb1 hs1
    go_wp2_with fail
    refine (st_lie H1.out hk num HW.out.2 A n c bs HM.out).mono ?_
    rintro e w2 ⟨rfl, S⟩
    have S : Kp _ := ⟨S⟩
    go_wp2
    refine bodyPost_ret (v := _) (results_tmp2 rfl _ _ _) rfl ?_
    exact ⟨none, 0, 0, rfl, S.out.holdNil⟩
  by_cases k7 : kd = 7
  · subst k7
    go_enter Try.func23, Try.ntmps23
    go_wp2_with (with_reducible refine wpList_box (o := ⟨some 3, _, _, _, _, _⟩) (cs := [.int .i64 7, .int .i64 pl, .int .i64 sl, .int .i64 num, .slice A n c]) rfl (.tmp 1) rfl rfl ?_)
    intro w1 hk1 hb1 hs1
    have e0 : w1.cell? ⟨w.heap.size, 0, none⟩ = some (.int .i64 7) := hk1.cell? 0
    have e1 : w1.cell? ⟨w.heap.size, 1, none⟩ = some (.int .i64 pl) := hk1.cell? 1
    have e2 : w1.cell? ⟨w.heap.size, 2, none⟩ = some (.int .i64 sl) := hk1.cell? 2
    have e3 : w1.cell? ⟨w.heap.size, 3, none⟩ = some (.int .i64 num) := hk1.cell? 3
    have e4 : w1.cell? ⟨w.heap.size, 4, none⟩ = some (.slice A n c) := hk1.cell? 4
    have H1 : Kp _ := ⟨H.out.grow hb1⟩
    clear hk1 hb1 hs1
    go_wp2_with fail
    refine (st_arm H1.out num).mono ?_
    rintro e w2 ⟨rfl, S⟩
    have S : Kp _ := ⟨S⟩
    go_wp2
    refine bodyPost_ret (v := _) (results_tmp2 rfl _ _ _) rfl ?_
    exact ⟨none, 0, 0, rfl, S.out.holdNil⟩
  by_cases k8 : kd = 8
  · subst k8
    go_enter Try.func23, Try.ntmps23
    go_wp2_with (with_reducible refine wpList_box (o := ⟨some 3, _, _, _, _, _⟩) (cs := [.int .i64 8, .int .i64 pl, .int .i64 sl, .int .i64 num, .slice A n c]) rfl (.tmp 1) rfl rfl ?_)
    intro w1 hk1 hb1 hs1
    have e0 : w1.cell? ⟨w.heap.size, 0, none⟩ = some (.int .i64 8) := hk1.cell? 0
    have e1 : w1.cell? ⟨w.heap.size, 1, none⟩ = some (.int .i64 pl) := hk1.cell? 1
    have e2 : w1.cell? ⟨w.heap.size, 2, none⟩ = some (.int .i64 sl) := hk1.cell? 2
    have e3 : w1.cell? ⟨w.heap.size, 3, none⟩ = some (.int .i64 num) := hk1.cell? 3
    have e4 : w1.cell? ⟨w.heap.size, 4, none⟩ = some (.slice A n c) := hk1.cell? 4
    have H1 : Kp _ := ⟨H.out.grow hb1⟩
    clear hk1 hb1 hs1
    go_wp2_with fail
    refine (st_restart H1.out).mono ?_
    rintro e w2 ⟨rfl, S⟩
    have S : Kp _ := ⟨S⟩
    go_wp2
    refine bodyPost_ret (v := _) (results_tmp2 rfl _ _ _) rfl ?_
    exact ⟨none, 0, 0, rfl, S.out.holdNil⟩
  by_cases k9 : kd = 9
  · subst k9
    have hu : IntKind.u64.wrap num = ((u64N num : Nat) : Int) := by unfold u64N; rw [Int.toNat_of_nonneg (Int.emod_nonneg _ (by decide))]; rfl
    have HU : Kp (u64N num < 18446744073709551616) := ⟨by unfold u64N; have := Int.emod_lt_of_pos num (show (0 : Int) < 18446744073709551616 by decide); omega⟩
    go_enter Try.func23, Try.ntmps23
    go_wp2_with (with_reducible refine wpList_box (o := ⟨some 3, _, _, _, _, _⟩) (cs := [.int .i64 9, .int .i64 pl, .int .i64 sl, .int .i64 num, .slice A n c]) rfl (.tmp 1) rfl rfl ?_)
    intro w1 hk1 hb1 hs1
    have e0 : w1.cell? ⟨w.heap.size, 0, none⟩ = some (.int .i64 9) := hk1.cell? 0
    have e1 : w1.cell? ⟨w.heap.size, 1, none⟩ = some (.int .i64 pl) := hk1.cell? 1
    have e2 : w1.cell? ⟨w.heap.size, 2, none⟩ = some (.int .i64 sl) := hk1.cell? 2
    have e3 : w1.cell? ⟨w.heap.size, 3, none⟩ = some (.int .i64 num) := hk1.cell? 3
    have e4 : w1.cell? ⟨w.heap.size, 4, none⟩ = some (.slice A n c) := hk1.cell? 4
    have H1 : Kp _ := ⟨H.out.grow hb1⟩
    clear hk1 hb1 hs1
    go_wp2_with fail
    refine (st_set H1.out (u64N num) HU.out).mono ?_
    rintro e w2 ⟨rfl, S⟩
    have S : Kp _ := ⟨S⟩
    go_wp2
    refine bodyPost_ret (v := _) (results_tmp2 rfl _ _ _) rfl ?_
    exact ⟨none, 0, 0, rfl, S.out.holdNil⟩
  go_enter Try.func23, Try.ntmps23
  go_wp2_with (with_reducible refine wpList_box (o := ⟨some 3, _, _, _, _, _⟩) (cs := [.int .i64 kd, .int .i64 pl, .int .i64 sl, .int .i64 num, .slice A n c]) rfl (.tmp 1) rfl rfl ?_)
  intro w1 hk1 hb1 hs1
  have e0 : w1.cell? ⟨w.heap.size, 0, none⟩ = some (.int .i64 kd) := hk1.cell? 0
  have e1 : w1.cell? ⟨w.heap.size, 1, none⟩ = some (.int .i64 pl) := hk1.cell? 1
  have e2 : w1.cell? ⟨w.heap.size, 2, none⟩ = some (.int .i64 sl) := hk1.cell? 2
  have e3 : w1.cell? ⟨w.heap.size, 3, none⟩ = some (.int .i64 num) := hk1.cell? 3
  have e4 : w1.cell? ⟨w.heap.size, 4, none⟩ = some (.slice A n c) := hk1.cell? 4
  have H1 : Kp _ := ⟨H.out.grow hb1⟩
  clear hk1 hb1 hs1
  have HKD : Kp (didW t ⟨kd, pl, sl, num, bs⟩ = t ∧ didL t ⟨kd, pl, sl, num, bs⟩ = [] ∧ didB t ⟨kd, pl, sl, num, bs⟩ = false) := ⟨by simp [didW, didL, didB, k1, k2, k3, k4, k5, k6, k7, k8, k9]⟩
  have q1 : (kd == 1) = false := by rw [beq_eq_false_iff_ne]; exact k1
  have q2 : (kd == 2) = false := by rw [beq_eq_false_iff_ne]; exact k2
  have q3 : (kd == 3) = false := by rw [beq_eq_false_iff_ne]; exact k3
  have q4 : (kd == 4) = false := by rw [beq_eq_false_iff_ne]; exact k4
  have q5 : (kd == 5) = false := by rw [beq_eq_false_iff_ne]; exact k5
  have q6 : (kd == 6) = false := by rw [beq_eq_false_iff_ne]; exact k6
  have q7 : (kd == 7) = false := by rw [beq_eq_false_iff_ne]; exact k7
  have q8 : (kd == 8) = false := by rw [beq_eq_false_iff_ne]; exact k8
  have q9 : (kd == 9) = false := by rw [beq_eq_false_iff_ne]; exact k9
  clear k1 k2 k3 k4 k5 k6 k7 k8 k9
  go_wp2
  refine bodyPost_ret (v := _) (results_tmp2 rfl _ _ _) rfl ?_
  rw [HKD.out.1, HKD.out.2.1, HKD.out.2.2]
  exact ⟨none, 0, 0, rfl, (H1.out.more (Nat.le_succ k)).holdNil⟩
end
end Go.Proofs.Ytpbpegoobgfjcaa

namespace Go.Proofs.Ytpbpegoobgfjcaa
open Go.RowKit

/-- A slice of n things of s cells each reads as xs; none of its cells lies in a block of M. -/
structure RwM (w : World) (M : Nat → Prop) (A : Option Addr) (n c s : Nat) (xs : List Value) : Prop where
  len : xs.length = n * s
  cap : n ≤ c
  max : c ≤ maxLen
  nil : A = none → c = 0
  cells : 0 < n → ∃ b o, A = some ⟨b, o, none⟩ ∧ b < w.heap.size ∧ ¬ M b ∧ ∀ j u, xs[j]? = some u → w.cell? ⟨b, o + j, none⟩ = some u
section
variable {S M M' : Nat → Prop} {w w' : World} {A : Option Addr} {n c s : Nat} {xs : List Value} {v : Value}
theorem RwM.zero (w : World) (M : Nat → Prop) (s : Nat) : RwM w M none 0 0 s [] := ⟨by simp, Nat.le_refl _, Nat.zero_le _, fun _ => rfl, fun h => absurd h (by omega)⟩
theorem RwM.chg (h : RwM w M A n c s xs) (hc : Chg S w w') (hS : ∀ k, S k → M k) (hM : ∀ k, M' k → M k ∨ w.heap.size ≤ k) : RwM w' M' A n c s xs := by
  refine ⟨h.len, h.cap, h.max, h.nil, fun h0 => ?_⟩
  obtain ⟨b, o, hA, hb, hm, hcell⟩ := h.cells h0
  refine ⟨b, o, hA, Nat.lt_of_lt_of_le hb hc.size, fun h9 => ?_, fun j u hu => ?_⟩
  · rcases hM _ h9 with h1 | h1
    · exact hm h1
    · omega
  · rw [← hcell j u hu]
    exact World.cell?_of_block (w := w) (hc.block b hb (fun e => hm (hS _ e)))
theorem RwM.below (h : RwM w M A n c s xs) (hb : Below w.heap.size w w') : RwM w' M A n c s xs := h.chg (S := fun _ => False) (Chg.of_below _ hb) (fun _ h => h.elim) (fun _ h => .inl h)
theorem RwM.weak (h : RwM w M A n c s xs) (hM : ∀ k, M' k → M k) : RwM w M' A n c s xs := h.chg (S := fun _ => False) (Chg.refl _ _) (fun _ h => h.elim) (fun k hk => .inl (hM k hk))
theorem RwM.le (h : RwM w M A n c s xs) : n ≤ 9223372036854775807 := by have := h.cap; have := h.max; simp only [maxLen] at this; omega
theorem RwM.of_own {base : Nat} {e : TypeId} (h : w.ownsRow base e s v n xs) (hM : ∀ k, M k → k < base) : ∃ A c, v = .slice A n c ∧ RwM w M A n c s xs := by
  have hl := h.1
  rcases h.2 with ⟨rfl, rfl⟩ | ⟨g, cap, cur, rfl, hg, hh, hn, hm, hs, ht⟩
  · obtain rfl : xs = [] := List.eq_nil_of_length_eq_zero (by rw [hl]; simp)
    exact ⟨none, 0, rfl, RwM.zero _ _ _⟩
  · refine ⟨some ⟨g, 0, none⟩, cap, rfl, hl, hn, hm, (fun h => by cases h), fun h0 => ⟨g, 0, rfl, (Array.getElem?_eq_some_iff.1 hh).1, fun h9 => ?_, fun j u hu => ?_⟩⟩
    · have := hM _ h9
      omega
    · have := h.cells (g := g) rfl j _ hu
      rwa [Addr.add_lit] at this
theorem RwM.at (h : RwM w M A n c s xs) (h0 : 0 < n) : ∃ b o, A = some ⟨b, o, none⟩ ∧ ∀ j u, xs[j]? = some u → w.cell? ⟨b, o + j, none⟩ = some u := by
  obtain ⟨b, o, h1, _, _, h2⟩ := h.cells h0
  exact ⟨b, o, h1, h2⟩
end
section
variable {P : Program} {w : World} {ops : Array Oper} {rest : List Oper} {o : Oper} {a : Act} {Q : Exit → Act → World → Prop} {t e : TypeId} {z : Value} {bytes size : Nat} {M : Nat → Prop}
theorem ownS_grown {base n : Nat} {v : Value} {xs : List Value} {w1 w2 : World} (hown : w1.ownsRow base e size v n xs) (hbase : base ≤ w1.heap.size) (hg : w1.grownBy w2 v.ownBlock) : Below base w1 w2 := by
  refine ⟨hg.os, hg.tape, hg.output, hg.size, fun k hk => hg.block k (by omega) (fun e => ?_)⟩
  rcases hown.2 with ⟨rfl, _⟩ | ⟨g, cap, cur, rfl, hb, _⟩
  · cases e
  · have := Option.some.inj e
    simp at this
    omega
theorem ownS_below {w w' : World} {base n : Nat} {v : Value} {xs : List Value} (h : w.ownsRow base e size v n xs) (hb : Below w.heap.size w w') : w'.ownsRow base e size v n xs :=
  h.kept (row := none) ⟨hb.os, hb.tape, hb.output, hb.size, fun j hj _ => hb.block j hj⟩ (by cases v.ownBlock <;> simp)
/-- append of a row's things -/
theorem wpList_appM (ht : P.underlying t = some (.slice e)) (hinf : (P.info? e).map (fun i => (i.zero, i.size, i.bytes)) = some (some z, size, bytes)) (hzs : z.cells.size = size) (hpos : 0 < size) (hgd : o.guard = none) (s x : Operand)
    (ho : o.op = .call { callee := .builtin .append, args := #[s, x], argTypes := #[t, t] })
    (base : Nat) (v : Value) (n : Nat) (xs : List Value) (hs : a.eval s = v) (hown : w.ownsRow base e size v n xs)
    (A : Option Addr) (m c : Nat) (ys : List Value) (hx : a.eval x = .slice A m c) (hy : RwM w M A m c size ys) (h1 : ∀ u ∈ ys, u.oneCell' = true)
    (h63 : n + m ≤ maxLen) (hbytes : (n + m) * bytes ≤ 140737488355328) (hbase : base ≤ w.heap.size)
    (h : ∀ v' w', w'.ownsRow base e size v' (n + m) (xs ++ ys) → Below base w w' → wpList P ops Q rest (a.put o.dst v') w') :
    wpList P ops Q (o :: rest) a w := by
  obtain ⟨i, hi, hz, hsize, hby⟩ := info_parts hinf
  cases A with
  | some ad =>
    exact wpList_append_own_at w hgd s x t ho base e i z size bytes ht hi hz hsize hby hzs hpos v n _ hs hown ad m c ys hx hy.len (fun j u hu => by
        have hj := (List.getElem?_eq_some_iff.1 hu).1
        have hl := hy.len
        have hm : 0 < m := by
          rcases Nat.eq_zero_or_pos m with h9 | h9
          · rw [h9] at hl; omega
          · exact h9
        obtain ⟨b, o', hA, hc⟩ := hy.at hm
        obtain rfl := Option.some.inj hA
        rw [Addr.add_lit]
        exact hc j u hu) h1 h63 hbytes hbase
      (fun v' w' h2 h3 _ _ => h v' w' h2 (ownS_grown hown hbase h3))
  | none =>
    have hc0 := hy.nil rfl
    have hm0 : m = 0 := by have := hy.cap; omega
    subst hm0 hc0
    obtain rfl : ys = [] := List.eq_nil_of_length_eq_zero (by rw [hy.len]; simp)
    refine wpList_plain hgd fun K hK => ?_
    have hrun := run_append_owned_none (P := P) w base t o.type e i size ht hi v n xs hown
    unfold Oper.wp
    simp [execOp, ho, resolve, invoke, builtin, hs, hx, hrun, Result.andThen]
    exact hK _ _ (h v w (by simpa using hown) (Below.refl _ _))
end

/-! ### a world as the document keeps it -/
structure Ta where
  sA : Option Addr
  sn : Nat
  sc : Nat
  eA : Option Addr
  ec : Nat
  lA : Option Addr
  ln : Nat
  lc : Nat
  tA : Option Addr
  tn : Nat
  tc : Nat
  pw : Nat
def tvL (a : Ta) (t : Wd) : List Value :=
  [.int .i64 (t.n : Int), .slice a.sA a.sn a.sc, .slice a.eA 2 a.ec, .int .u64 (t.ctr : Int), .slice a.lA a.ln a.lc, .int .i64 (t.reads : Int), .bool t.lim, .int .i64 (a.pw : Int), .bool t.lost, .slice a.tA a.tn a.tc]
theorem tvL_length (a : Ta) (t : Wd) : (tvL a t).length = 10 := rfl
theorem tvL_one (a : Ta) (t : Wd) : ∀ u ∈ tvL a t, u.oneCell' = true := by
  intro u hu
  simp only [tvL, List.mem_cons, List.not_mem_nil, or_false] at hu
  rcases hu with rfl | rfl | rfl | rfl | rfl | rfl | rfl | rfl | rfl | rfl <;> rfl
abbrev Hd2 := Int × Option Addr × Nat × Nat
structure LieL (w : World) (M : Nat → Prop) (hs : List Hd2) (L : List (Int × List UInt8)) : Prop where
  len : hs.length = L.length
  each : ∀ j (h : j < hs.length), hs[j].1 = (L[j]'(by have := len; omega)).1 ∧ BsM w M hs[j].2.1 hs[j].2.2.1 hs[j].2.2.2 (L[j]'(by have := len; omega)).2
def lastLie (L : List (Int × List UInt8)) (z : Int) : Option (List UInt8) := L.foldl (fun acc x => if x.1 = z then some x.2 else acc) none
theorem lastLie_snoc (L : List (Int × List UInt8)) (x : Int × List UInt8) (z : Int) : lastLie (L ++ [x]) z = if x.1 = z then some x.2 else lastLie L z := by
  simp [lastLie, List.foldl_append]
structure SlT (w : World) (M : Nat → Prop) (A : Option Addr) (sn sc n : Nat) (sl : Int × Int → List UInt8) (vs : List Value) : Prop where
  row : RwM w M A sn sc 1 vs
  num : sn = 2 * n
  each : ∀ i, i < n → ∀ s, s < 2 → ∃ v, vs[2 * i + s]? = some v ∧ BsV w M v (sl ((i : Int), (s : Int))) ∧ (sl ((i : Int), (s : Int))).length = 272
structure SeT (w : World) (M : Nat → Prop) (A : Option Addr) (c : Nat) (s0 s1 : List UInt8) (v0 v1 : Value) : Prop where
  row : RwM w M A 2 c 1 [v0, v1]
  one : BsV w M v0 s0
  two : BsV w M v1 s1
structure LiT (w : World) (M : Nat → Prop) (A : Option Addr) (n c : Nat) (hs : List Hd2) (L : List (Int × List UInt8)) (reads : Nat) (lies : Int → Option (List UInt8)) : Prop where
  row : RwM w M A n c 2 (hdCells hs)
  lie : LieL w M hs L
  last : ∀ z : Int, (reads : Int) ≤ z → lastLie L z = lies z
structure TrT (w : World) (M : Nat → Prop) (A : Option Addr) (n c : Nat) (tr : List Tr) (L : List Hd4) : Prop where
  row : RwM w M A n c 4 (trCells L)
  heads : TrL w M L tr
structure TvM (w : World) (M : Nat → Prop) (a : Ta) (t : Wd) : Prop where
  slots : ∃ vs, SlT w M a.sA a.sn a.sc t.n t.sl vs
  seals : ∃ v0 v1, SeT w M a.eA a.ec t.s0 t.s1 v0 v1
  lies : ∃ hs L, LiT w M a.lA a.ln a.lc hs L t.reads t.lies
  trace : ∃ L, TrT w M a.tA a.tn a.tc t.tr L
  pow : t.lim = true → a.pw = t.left
  pmax : a.pw ≤ 1000000
  big : t.n ≤ 4096
  num : t.ctr < 18446744073709551616
section
variable {S M M' : Nat → Prop} {w w' : World} {a : Ta} {t : Wd}
theorem LieL.chg {hs : List Hd2} {L : List (Int × List UInt8)} (h : LieL w M hs L) (hc : Chg S w w') (hS : ∀ k, S k → M k) (hM : ∀ k, M' k → M k ∨ w.heap.size ≤ k) : LieL w' M' hs L := ⟨h.len, fun j hj => ⟨(h.each j hj).1, (h.each j hj).2.chg hc hS hM⟩⟩
theorem TvM.chg (h : TvM w M a t) (hc : Chg S w w') (hS : ∀ k, S k → M k) (hM : ∀ k, M' k → M k ∨ w.heap.size ≤ k) : TvM w' M' a t := by
  refine ⟨?_, ?_, ?_, ?_, h.pow, h.pmax, h.big, h.num⟩
  · obtain ⟨vs, h1⟩ := h.slots
    exact ⟨vs, h1.row.chg hc hS hM, h1.num, fun i hi s hs => by obtain ⟨v, e, h2, h3⟩ := h1.each i hi s hs; exact ⟨v, e, h2.chg hc hS hM, h3⟩⟩
  · obtain ⟨v0, v1, h1⟩ := h.seals
    exact ⟨v0, v1, h1.row.chg hc hS hM, h1.one.chg hc hS hM, h1.two.chg hc hS hM⟩
  · obtain ⟨hs, L, h1⟩ := h.lies
    exact ⟨hs, L, h1.row.chg hc hS hM, h1.lie.chg hc hS hM, h1.last⟩
  · obtain ⟨L, h1⟩ := h.trace
    exact ⟨L, h1.row.chg hc hS hM, h1.heads.chg hc hS hM⟩
theorem TvM.below (h : TvM w M a t) (hb : Below w.heap.size w w') : TvM w' M a t := h.chg (S := fun _ => False) (Chg.of_below _ hb) (fun _ h => h.elim) (fun _ h => .inl h)
theorem TvM.ts (h : TvM w M a t) : Ts w a.tA a.tn a.tc t.tr := by
  obtain ⟨L, h1⟩ := h.trace
  have hl := h1.row.len
  rw [trCells_length] at hl
  have hl2 := h1.heads.len
  refine ⟨by omega, h1.row.cap, h1.row.max, h1.row.nil, fun h0 => ?_⟩
  obtain ⟨b, o, hA, hb, _, hc⟩ := h1.row.cells h0
  refine ⟨b, o, hA, hb, fun j hj => ?_⟩
  have hjL : j < L.length := by omega
  have he := h1.heads.each j hjL
  have k : ∀ i, i < 4 → ∀ u, (hd4 L[j])[i]? = some u → w.cell? ⟨b, o + j * 4 + i, none⟩ = some u := fun i hi u hu => by
    rw [Nat.add_assoc]
    exact hc _ _ ((trCells_at L j hjL i hi).trans hu)
  exact ⟨_, _, _, k 0 (by omega) _ (by rw [← he.kind]; rfl), k 1 (by omega) _ (by rw [← he.pl]; rfl), k 2 (by omega) _ (by rw [← he.slot]; rfl), k 3 (by omega) _ rfl, he.bytes.bs⟩
end
theorem rwT : Rw Try.prog 42 (match (Try.prog).underlying 42 with | some d => d | none => .bool) 10 := ⟨by kernel_rfl, by kernel_rfl, by kernel_rfl⟩
def zeroT : List Value := tvL ⟨none, 0, 0, none, 0, none, 0, 0, none, 0, 0, 0⟩ (newW 0)
def zeroT' : List Value := [.int .i64 0, .slice none 0 0, .slice none 0 0, .int .u64 0, .slice none 0 0, .int .i64 0, .bool false, .int .i64 0, .bool false, .slice none 0 0]
theorem tyT : Ty Try.prog 42 zeroT' := ⟨by kernel_rfl⟩
end Go.Proofs.Ytpbpegoobgfjcaa

namespace Go.Proofs.Ytpbpegoobgfjcaa
open Go.RowKit
section
variable {P : Program} {w : World} {a : Act} {t : TypeId}
theorem ret_arrB {fn : Func} {R : Ending → World → Prop} {p q : Tmp} {d : TypeDesc} {n : Nat} (hr : fn.results = #[.cell p t, .tmp q]) (E : Rw P t d n) {g : Nat} {t' : TypeId} {cs : List Value} {v2 : Value} (hx : a.tmps.getD p undef = .pointer (some ⟨g, 0, none⟩)) (hq : a.tmps.getD q undef = v2) (hb : Blk w g t' cs) (hn : cs.length = n) (hd : a.defers = [])
    (h : R (.returned (.tuple #[.agg cs.toArray, v2])) w) : bodyPost P fn R .ret a w := by
  have hl := run_load_rw (w := w) E hb (off := 0) (by omega)
  simp only [Instr.loadAt, Instr.sureAddr, Sem.run_bind, Sem.run_pure, Result.andThen_ok] at hl
  have e : (cs.drop 0).take n = cs := by rw [List.drop_zero, List.take_of_length_le (by omega)]
  rw [e] at hl
  have hx' : a.tmps[p]?.getD undef = .pointer (some ⟨g, 0, none⟩) := by simpa using hx
  have hq' : a.tmps[q]?.getD undef = v2 := by simpa using hq
  exact bodyPost_ret (v := .tuple #[.agg cs.toArray, v2]) (by simp only [results, hr]; simp [hx', hq', asAddr, hl]) hd h
theorem ret_arrC {fn : Func} {R : Ending → World → Prop} {p q r : Tmp} {d : TypeDesc} {n : Nat} (hr : fn.results = #[.cell p t, .tmp q, .tmp r]) (E : Rw P t d n) {g : Nat} {t' : TypeId} {cs : List Value} {v2 v3 : Value} (hx : a.tmps.getD p undef = .pointer (some ⟨g, 0, none⟩)) (hq : a.tmps.getD q undef = v2) (hq3 : a.tmps.getD r undef = v3) (hb : Blk w g t' cs) (hn : cs.length = n) (hd : a.defers = [])
    (h : R (.returned (.tuple #[.agg cs.toArray, v2, v3])) w) : bodyPost P fn R .ret a w := by
  have hl := run_load_rw (w := w) E hb (off := 0) (by omega)
  simp only [Instr.loadAt, Instr.sureAddr, Sem.run_bind, Sem.run_pure, Result.andThen_ok] at hl
  have e : (cs.drop 0).take n = cs := by rw [List.drop_zero, List.take_of_length_le (by omega)]
  rw [e] at hl
  have hx' : a.tmps[p]?.getD undef = .pointer (some ⟨g, 0, none⟩) := by simpa using hx
  have hq' : a.tmps[q]?.getD undef = v2 := by simpa using hq
  have hr' : a.tmps[r]?.getD undef = v3 := by simpa using hq3
  exact bodyPost_ret (v := .tuple #[.agg cs.toArray, v2, v3]) (by simp only [results, hr]; simp [hx', hq', hr', asAddr, hl]) hd h
end
theorem RwM.new {M : Nat → Prop} {w : World} {e : TypeId} {cs : List Value} {s : Nat} (hl : cs.length = s) (hM : ∀ k, M k → k < w.heap.size) : RwM (w.alloc (.cells cs.toArray e)) M (some ⟨w.heap.size, 0, none⟩) 1 1 s cs :=
  ⟨by rw [hl, Nat.one_mul], Nat.le_refl _, by simp only [maxLen]; omega, (fun h => by cases h), fun _ => ⟨_, 0, rfl, by simp, (fun h => by have := hM _ h; omega), fun j u hu => by
    rw [(Blk.new w e cs).cell? (0 + j), Nat.zero_add]; exact hu⟩⟩
theorem tr_built (k p s : Int) (A : Option Addr) (n c : Nat) : (Try.prog).built 61 [(0, .int .i64 k), (1, .int .i64 p), (2, .int .i64 s), (3, .slice A n c)] = some (hd4 (k, p, s, A, n, c)).toArray := by kernel_rfl
section
variable {M : Nat → Prop} {w : World} {a : Ta} {t : Wd}
set_option maxRecDepth 100000 in
set_option maxHeartbeats 1000000 in
theorem rcounter_any (w : World) (a : Ta) (t : Wd) :
    Calls Try.prog 28 #[.agg (tvL a t).toArray] w fun e w' => e = .returned (.int .u64 (ctrW t : Int)) ∧ Below w.heap.size w w' := by
  have HV : Kp (ctrW t = if t.lost = true then 0 else t.ctr) := ⟨rfl⟩
  cases hl : t.lost
  all_goals
    go_enter Try.func28, Try.ntmps28
    go_wp2_with (with_reducible refine wpList_box (o := ⟨some 1, _, _, _, _, _⟩) (cs := tvL a t) rfl (.tmp 0) rfl rfl ?_)
    intro w1 hk1 hb1 hs1
    have e8 : w1.cell? ⟨w.heap.size, 8, none⟩ = some (.bool t.lost) := hk1.cell? 8
    have e3 : w1.cell? ⟨w.heap.size, 3, none⟩ = some (.int .u64 t.ctr) := hk1.cell? 3
    clear hk1 hs1
    go_wp2
    go_ret
    exact ⟨by rw [HV.out, hl]; rfl, hb1⟩
set_option maxRecDepth 100000 in
set_option maxHeartbeats 1000000 in
theorem there_any (w : World) (a : Ta) (t : Wd) (x y : Int) :
    Calls Try.prog 54 #[.agg (tvL a t).toArray, .int .i64 x, .int .i64 y] w fun e w' => e = .returned (.bool (thereW t (x, y))) ∧ Below w.heap.size w w' := by
  have HV : Kp (thereW t (x, y) = (!t.lost && (decide (0 ≤ x) && decide (x < (t.n : Int)) && decide (0 ≤ y) && decide (y < 2)))) := ⟨rfl⟩
  go_enter Try.func54, Try.ntmps54
  go_wp2_with (with_reducible refine wpList_box (o := ⟨some 3, _, _, _, _, _⟩) (cs := tvL a t) rfl (.tmp 0) rfl rfl ?_)
  intro w1 hk1 hb1 hs1
  have e8 : w1.cell? ⟨w.heap.size, 8, none⟩ = some (.bool t.lost) := hk1.cell? 8
  have e0 : w1.cell? ⟨w.heap.size, 0, none⟩ = some (.int .i64 t.n) := hk1.cell? 0
  clear hk1 hs1
  cases hl : t.lost
  all_goals
    rw [hl] at e8
    go_wp2
    all_goals
      go_ret
      refine ⟨congrArg (fun b => Ending.returned (Value.bool b)) ?_, hb1⟩
      rw [HV.out, hl, Bool.eq_iff_iff]
      simp
      try omega
set_option maxRecDepth 100000 in
set_option maxHeartbeats 1000000 in
theorem rnote_any (h : TvM w M a t) (hM : ∀ k, M k → k < w.heap.size) (hlen : t.tr.length ≤ 1000000) (x : Tr) (hx : TrOk x) (A : Option Addr) (n c : Nat) (hb : BsM w M A n c x.bytes) :
    Calls Try.prog 56 #[.agg (tvL a t).toArray, .int .i64 x.kind, .int .i64 x.pl, .int .i64 x.slot, .slice A n c] w fun e w' => ∃ a', e = .returned (.agg (tvL a' { t with tr := t.tr ++ [x] }).toArray) ∧ Below w.heap.size w w' ∧ a'.ln = a.ln ∧ TvM w' M a' { t with tr := t.tr ++ [x] } := by
  obtain ⟨L, hL⟩ := h.trace
  have HT : Kp _ := ⟨hL⟩
  have H : Kp _ := ⟨h⟩
  have HB : Kp _ := ⟨hb⟩
  have htn : a.tn = t.tr.length := h.ts.len.symm
  have h40 : a.tn ≤ 1000000 := by omega
  clear h hb hL htn
  go_enter Try.func56, Try.ntmps56
  go_wp2_with (with_reducible refine wpList_box (o := ⟨some 5, _, _, _, _, _⟩) (cs := tvL a t) rfl (.tmp 0) rfl rfl ?_)
  intro w1 hk1 hb1 hs1
  have HK1 : Kp _ := ⟨hk1⟩
  clear hk1 hs1
  go_wp2_with (with_reducible refine wpList_alloc (o := ⟨some 10, _, _, _, _, _⟩) tyT rfl rfl ?_)
  intro w2 hk2 hb2 hs2
  have hgl : w.heap.size < w1.heap.size := HK1.out.lt
  have HK2 : Kp _ := ⟨HK1.out.below hb2 HK1.out.lt⟩
  have HR : Kp _ := ⟨hk2⟩
  have hB2 : Below w.heap.size w w2 := hb1.trans (hb2.mono hb1.size)
  have e9 : w2.cell? ⟨w.heap.size, 9, none⟩ = some (.slice a.tA a.tn a.tc) := HK2.out.cell? 9
  have HT2 : Kp _ := ⟨HT.out.row.below hB2⟩
  clear hk2 hb2 hs2 HK1 hb1
  go_wp2_with (at_builtin; refine wpList_appM Try.underlying40 infoTr rfl (by decide) rfl _ _ rfl w2.heap.size _ 0 [] rfl (World.ownsRow_nil _ _ _ _) a.tA a.tn a.tc (trCells L) rfl HT2.out (trCells_one _) (by simp only [maxLen]; omega) (by omega) (Nat.le_refl _) ?_)
  intro v3 w3 hown3 hb3
  obtain ⟨A3, n3, c3, rfl⟩ := own_slice hown3
  have HO3 : Kp _ := ⟨hown3⟩
  have HK3 : Kp _ := ⟨HK2.out.below hb3 HK2.out.lt⟩
  have HR3 : Kp _ := ⟨HR.out.below hb3 HR.out.lt⟩
  have hB3 : Below w.heap.size w w3 := hB2.trans (hb3.mono hB2.size)
  have hM3 : ∀ k, M k → k < w3.heap.size := fun k hk => by have := hM k hk; have := hB3.size; omega
  have hl2 : w.heap.size < w2.heap.size := HK2.out.lt
  have hl3 : w1.heap.size < w2.heap.size := HR.out.lt
  clear hown3 HK2 HR HT2 e9
  have hMs : w2.heap.size ≤ w3.heap.size := hb3.size
  have HX : Kp _ := ⟨hx⟩
  have HN : Kp (a.tn = t.tr.length) := ⟨H.out.ts.len.symm⟩
  go_wp2_with (at_builtin; refine wpList_appM Try.underlying40 infoTr rfl (by decide) rfl _ _ rfl w2.heap.size _ a.tn (trCells L) rfl (ownS_below HO3.out ((Below.refl _ _).alloc (Nat.le_refl _) _)) (some ⟨w3.heap.size, 0, none⟩) 1 1 (hd4 (x.kind, x.pl, x.slot, A, n, c)) rfl (RwM.new rfl hM3) (hd4_one _) (by simp only [maxLen]; omega) (by omega) (by simp; omega) ?_)
  intro v4 w4 hown4 hb4
  have hB34 : Below w2.heap.size w3 w4 := ((Below.refl _ _).alloc hMs _).trans hb4
  obtain ⟨A4, c4, rfl, hrow⟩ := RwM.of_own (M := fun k => k < w2.heap.size) hown4 (fun k hk => hk)
  have HK4 : Kp _ := ⟨HK3.out.below hB34 hl2⟩
  have HR4 : Kp _ := ⟨HR3.out.below hB34 hl3⟩
  have HRow : Kp _ := ⟨hrow⟩
  have hB4 : Below w.heap.size w w4 := hB2.trans ((hb3.trans hB34).mono hB2.size)
  have f9 := HK4.out.frozen 9
  have c9 : w4.cell? ⟨w.heap.size, 9, none⟩ = some (.slice a.tA a.tn a.tc) := HK4.out.cell? 9
  have HK5 : Kp (Blk (w4.setCell ⟨w.heap.size, 9, none⟩ (.slice A4 (a.tn + 1) c4)) w.heap.size 42 (tvL { a with tA := A4, tn := a.tn + 1, tc := c4 } { t with tr := t.tr ++ [x] })) := ⟨HK4.out.set 9 _⟩
  have HR5 : Kp (Blk (w4.setCell ⟨w.heap.size, 9, none⟩ (.slice A4 (a.tn + 1) c4)) w1.heap.size 42 zeroT') := ⟨HR4.out.other (by show w1.heap.size ≠ w.heap.size; omega) _⟩
  have hB5 : Below w.heap.size w (w4.setCell ⟨w.heap.size, 9, none⟩ (.slice A4 (a.tn + 1) c4)) := hB4.setCell (Nat.le_refl _) _
  have HZ : Kp (zeroT'.length = 10) := ⟨rfl⟩
  have HL10 : Kp _ := ⟨tvL_length { a with tA := A4, tn := a.tn + 1, tc := c4 } { t with tr := t.tr ++ [x] }⟩
  have HO10 : Kp _ := ⟨tvL_one { a with tA := A4, tn := a.tn + 1, tc := c4 } { t with tr := t.tr ++ [x] }⟩
  clear HK4 HR4 hB4 hB34
  go_wp2_with (first
    | (with_reducible refine wpList_loadAll (o := ⟨some 26, _, _, _, _, _⟩) rwT rfl (.tmp 5) rfl rfl HK5.out HL10.out ?_)
    | (with_reducible refine wpList_storeAll (o := ⟨none, _, _, _, _, _⟩) (vs := tvL { a with tA := A4, tn := a.tn + 1, tc := c4 } { t with tr := t.tr ++ [x] }) rwT rfl (.tmp 10) (.tmp 26) rfl rfl HR5.out HZ.out HL10.out HO10.out rfl ?_))
  intro w6 hk6 ho6
  have HK6 : Kp _ := ⟨hk6⟩
  clear hk6
  go_wp2
  refine ret_arr rfl rwT rfl HK6.out (tvL_length _ _) rfl ?_
  have hB6 : Below w.heap.size w w6 := hB5.trans (ho6.below (by omega))
  have C6 : Chg (fun k => k < w2.heap.size) w4 w6 := (Chg.of_only (Only.setCell w4 ⟨w.heap.size, 9, none⟩ (.slice A4 (a.tn + 1) c4)) hl2).trans (Chg.of_only (S := fun k => k < w2.heap.size) ho6 hl3) (fun _ _ h => h)
  have h6 := H.out.below hB6
  refine ⟨_, rfl, hB6, rfl, h6.slots, h6.seals, h6.lies, ⟨L ++ [(x.kind, x.pl, x.slot, A, n, c)], ⟨?_, ?_⟩⟩, h6.pow, h6.pmax, h6.big, h6.num⟩
  · rw [trCells_append]
    have hq := (HRow.out.chg (M' := fun k => k < w2.heap.size) C6 (fun _ h => h) (fun _ h => .inl h)).weak (M' := M) (fun k hk => by have := hM k hk; show k < w2.heap.size; omega)
    simpa [trCells] using hq
  · exact (HT.out.heads.chg (S := fun _ => False) (Chg.of_below _ hB6) (fun _ h => h.elim) (fun _ h => .inl h)).snoc ⟨HX.out, rfl, rfl, rfl, HB.out.below hB6⟩
end
end Go.Proofs.Ytpbpegoobgfjcaa
