/- What a World has, in memory and as plain data.
   A range over a map, by its keys, whatever is done in its rounds to other blocks: laws of the walk.
   The contract of bytes.Clone, and of traced.
   A struct or an array, built of one part. No program is named here. -/
import Derived.Test.YtpbpegoobgfjcaaG02
import Derived.DeepKeys4
import Derived.Maps.RangeWalk
import Derived.Test.YtpbpegoobgfjcaaG01
import Derived.Laws.Tables
namespace Go.Proofs.Ytpbpegoobgfjcaa
open Go.RowKit

/-- Nothing but the blocks of S has turned; there may be new ones. -/
structure Chg (S : Nat → Prop) (w w' : World) : Prop where
  os : w'.os = w.os
  tape : w'.tape = w.tape
  output : w'.output = w.output
  size : w.heap.size ≤ w'.heap.size
  block : ∀ k, k < w.heap.size → ¬ S k → w'.heap[k]? = w.heap[k]?
section
variable {S S2 : Nat → Prop} {w w' w2 : World} {B g : Nat}
theorem Chg.refl (S : Nat → Prop) (w : World) : Chg S w w := ⟨rfl, rfl, rfl, Nat.le_refl _, fun _ _ _ => rfl⟩
theorem Chg.trans (h : Chg S w w') (h2 : Chg S2 w' w2) (hs : ∀ k, k < w.heap.size → S2 k → S k) : Chg S w w2 :=
  ⟨h2.os.trans h.os, h2.tape.trans h.tape, h2.output.trans h.output, Nat.le_trans h.size h2.size, fun k hk hn => (h2.block k (Nat.lt_of_lt_of_le hk h.size) (fun e => hn (hs k hk e))).trans (h.block k hk hn)⟩
theorem Chg.more (h : Chg S w w') (hs : ∀ k, S k → S2 k) : Chg S2 w w' := ⟨h.os, h.tape, h.output, h.size, fun k hk hn => h.block k hk (fun e => hn (hs k e))⟩
theorem Chg.of_below (S : Nat → Prop) (h : Below w.heap.size w w') : Chg S w w' := ⟨h.os, h.tape, h.output, h.size, fun k hk _ => h.block k hk⟩
theorem Chg.of_only (h : Only g w w') (hg : S g) : Chg S w w' := ⟨h.os, h.tape, h.output, by rw [h.size]; exact Nat.le_refl _, fun k _ hn => h.block k (fun e => hn (e ▸ hg))⟩
theorem Chg.of_grown {row : Option Nat} (h : w.grownBy w' row) (hr : ∀ g, row = some g → S g) : Chg S w w' := ⟨h.os, h.tape, h.output, h.size, fun k hk hn => h.block k hk (fun e => hn (hr k e.symm))⟩
theorem Chg.below (h : Chg S w w') (hS : ∀ k, S k → B ≤ k) (hB : B ≤ w.heap.size) : Below B w w' := ⟨h.os, h.tape, h.output, h.size, fun k hk => h.block k (by omega) (fun e => by have := hS k e; omega)⟩
theorem Chg.drew (h : Chg S w w') : Chg S w w'.drew := ⟨h.os, h.tape, h.output, h.size, h.block⟩
theorem Chg.drew0 (S : Nat → Prop) (w : World) : Chg S w w.drew := (Chg.refl S w).drew
theorem Chg.thenBelow (h : Chg S w w') (h2 : Below w'.heap.size w' w2) : Chg S w w2 := h.trans (Chg.of_below (fun _ => False) h2) (fun _ _ h => h.elim)
theorem Blk.chg {t : TypeId} {cs : List Value} (h : Blk w g t cs) (hc : Chg S w w') (hg : ¬ S g) : Blk w' g t cs := ⟨(hc.block g h.lt hg).trans h.heap⟩
end

/-- A byte slice none of whose cells lies in a block of M. -/
structure BsM (w : World) (M : Nat → Prop) (A : Option Addr) (n c : Nat) (l : List UInt8) : Prop where
  bs : Bs w w.heap.size A n c l
  apart : ∀ ad, A = some ad → 0 < n → ¬ M ad.block
  fit : n ≤ 4294967296
def BsV (w : World) (M : Nat → Prop) (v : Value) (l : List UInt8) : Prop := ∃ A n c, v = .slice A n c ∧ BsM w M A n c l
section
variable {S M M' : Nat → Prop} {w w' : World} {A : Option Addr} {n c : Nat} {l : List UInt8} {v : Value}
theorem BsM.chg (h : BsM w M A n c l) (hc : Chg S w w') (hS : ∀ k, S k → M k) (hM : ∀ k, M' k → M k ∨ w.heap.size ≤ k) : BsM w' M' A n c l := by
  refine ⟨⟨h.bs.len, h.bs.cap, h.bs.max, h.bs.nil, fun h0 => ?_⟩, fun ad hA h0 hm => ?_, h.fit⟩
  · obtain ⟨b, o, hA, hb, hcell⟩ := h.bs.cells h0
    have hn := h.apart _ hA h0
    refine ⟨b, o, hA, Nat.lt_of_lt_of_le hb hc.size, fun j hj => ?_⟩
    rw [← hcell j hj]
    exact World.cell?_of_block (w := w) (hc.block b hb (fun e => hn (hS _ e)))
  · obtain ⟨b, o, hA', hb, _⟩ := h.bs.cells h0
    rw [hA'] at hA
    obtain rfl := Option.some.inj hA
    rcases hM _ hm with h1 | h1
    · exact h.apart _ hA' h0 h1
    · simp at h1; omega
theorem BsM.below (h : BsM w M A n c l) (hb : Below w.heap.size w w') : BsM w' M A n c l := h.chg (S := fun _ => False) (Chg.of_below _ hb) (fun _ h => h.elim) (fun _ h => .inl h)
theorem BsM.zero (w : World) (M : Nat → Prop) : BsM w M none 0 0 [] := ⟨Bs.zero _ _, fun _ _ h => absurd h (by omega), by omega⟩
theorem BsM.of_bs {B : Nat} (h : Bs w B A n c l) (hB : B ≤ w.heap.size) (hM : ∀ k, M k → B ≤ k) (hn : n ≤ 4294967296) : BsM w M A n c l :=
  ⟨h.more hB, fun ad hA h0 hm => by
    obtain ⟨b, o, hA', hb, _⟩ := h.cells h0
    rw [hA'] at hA
    obtain rfl := Option.some.inj hA
    have := hM _ hm
    simp at this; omega, hn⟩
theorem BsM.of_own {base : Nat} {e : TypeId} (h : w.ownsRow base e 1 v n (cells8 l)) (hM : ∀ k, M k → k < base) (hn : n ≤ 4294967296) : ∃ A c, v = .slice A n c ∧ BsM w M A n c l := by
  obtain ⟨A, c, rfl, hb⟩ := Bs.of_own h
  refine ⟨A, c, rfl, hb, fun ad hA _ hm => ?_, hn⟩
  rcases h.2 with ⟨e1, _⟩ | ⟨g, cap, cur, e1, hg, _⟩
  · injection e1 with e2 _ _
    rw [hA] at e2; cases e2
  · injection e1 with e2 _ _
    rw [hA] at e2
    obtain rfl := Option.some.inj e2
    have := hM _ hm
    simp at this; omega
theorem BsM.cut (h : BsM w M A n c l) {i k : Nat} (hik : i ≤ k) (hk : k ≤ n) : BsM w M (if c = i then A else A.map (·.add i)) (k - i) (c - i) ((l.take k).drop i) := by
  refine ⟨h.bs.cut hik hk, fun ad hA h0 hm => ?_, by have := h.fit; omega⟩
  have := h.bs.cap
  rw [if_neg (by omega)] at hA
  cases hA1 : A with
  | none => rw [hA1] at hA; cases hA
  | some a0 =>
    rw [hA1] at hA
    obtain rfl := Option.some.inj hA
    exact h.apart a0 hA1 (by omega) (by have e : (a0.add i).block = a0.block := by unfold Addr.add; split <;> rfl
                                        rw [← e]; exact hm)
theorem BsM.cutH (h : BsM w M A n c l) {k : Nat} (hk : k ≤ n) : BsM w M A k c (l.take k) :=
  ⟨⟨by have := h.bs.len; simp; omega, by have := h.bs.cap; omega, h.bs.max, h.bs.nil, fun h0 => by
    obtain ⟨b, o, hA, hb, hc⟩ := h.bs.cells (by omega)
    exact ⟨b, o, hA, hb, fun j hj => by rw [hc j (by simp at hj; omega)]; simp⟩⟩, fun ad hA h0 => h.apart ad hA (by omega), by have := h.fit; omega⟩
theorem BsV.chg (h : BsV w M v l) (hc : Chg S w w') (hS : ∀ k, S k → M k) (hM : ∀ k, M' k → M k ∨ w.heap.size ≤ k) : BsV w' M' v l := by
  obtain ⟨A, n, c, rfl, hb⟩ := h
  exact ⟨A, n, c, rfl, hb.chg hc hS hM⟩
end

/-! ### rows of traces -/
abbrev Hd4 := Int × Int × Int × Option Addr × Nat × Nat
def hd4 (x : Hd4) : List Value := [.int .i64 x.1, .int .i64 x.2.1, .int .i64 x.2.2.1, .slice x.2.2.2.1 x.2.2.2.2.1 x.2.2.2.2.2]
def trCells : List Hd4 → List Value
  | [] => []
  | x :: r => hd4 x ++ trCells r
theorem trCells_length : ∀ L : List Hd4, (trCells L).length = L.length * 4
  | [] => rfl
  | x :: r => by simp [trCells, hd4, trCells_length r]; omega
theorem trCells_append : ∀ L M : List Hd4, trCells (L ++ M) = trCells L ++ trCells M
  | [], M => rfl
  | x :: r, M => by simp [trCells, trCells_append r M]
theorem hd4_one (x : Hd4) : ∀ u ∈ hd4 x, u.oneCell' = true := by
  intro u hu
  simp only [hd4, List.mem_cons, List.not_mem_nil, or_false] at hu
  rcases hu with rfl | rfl | rfl | rfl <;> rfl
theorem trCells_one : ∀ (L : List Hd4), ∀ u ∈ trCells L, u.oneCell' = true
  | [], u, hu => by cases hu
  | x :: r, u, hu => by
    rw [trCells] at hu
    rcases List.mem_append.1 hu with h | h
    · exact hd4_one x u h
    · exact trCells_one r u h
theorem trCells_at : ∀ (L : List Hd4) (j : Nat) (h : j < L.length) (i : Nat), i < 4 → (trCells L)[j * 4 + i]? = (hd4 L[j])[i]?
  | x :: r, 0, h, i, hi => by
    have hl : (hd4 x).length = 4 := rfl
    rw [trCells, Nat.zero_mul, Nat.zero_add, List.getElem?_append_left (by rw [hl]; exact hi)]
    rfl
  | x :: r, j + 1, h, i, hi => by
    have hl : (hd4 x).length = 4 := rfl
    rw [trCells, List.getElem?_append_right (by rw [hl]; omega), hl, show (j + 1) * 4 + i - 4 = j * 4 + i by omega]
    exact trCells_at r j (by simpa using h) i hi
theorem trCells_mid : ∀ (L : List Hd4) (j : Nat) (h : j < L.length), ((trCells L).drop (j * 4)).take 4 = hd4 L[j]
  | x :: r, 0, h => by rw [trCells]; rfl
  | x :: r, j + 1, h => by
    have hl : (hd4 x).length = 4 := rfl
    rw [trCells, List.drop_append, List.drop_of_length_le (by rw [hl]; omega), List.nil_append, hl, show (j + 1) * 4 - 4 = j * 4 by omega]
    exact trCells_mid r j (by simpa using h)

/-- what is traced, as plain data -/
structure Tr where
  kind : Int
  pl : Int
  slot : Int
  bytes : List UInt8
/-- a header reads as what is traced -/
structure TrOk (t : Tr) : Prop where
  kind : t.kind = 1 ∨ t.kind = 2 ∨ t.kind = 3 ∧ t.slot = 0 ∨ t.kind = 4 ∧ t.slot = 0 ∨ t.kind = 5 ∧ t.pl = 0 ∧ t.slot = 0 ∧ t.bytes = []
  pl : (Lit.int .i64 t.pl).wf = true
  slot : (Lit.int .i64 t.slot).wf = true
structure TrH (w : World) (M : Nat → Prop) (x : Hd4) (t : Tr) : Prop where
  ok : TrOk t
  kind : x.1 = t.kind
  pl : x.2.1 = t.pl
  slot : x.2.2.1 = t.slot
  bytes : BsM w M x.2.2.2.1 x.2.2.2.2.1 x.2.2.2.2.2 t.bytes
structure TrL (w : World) (M : Nat → Prop) (L : List Hd4) (tr : List Tr) : Prop where
  len : L.length = tr.length
  each : ∀ j (h : j < L.length), TrH w M L[j] (tr[j]'(by have := len; omega))
section
variable {S M M' : Nat → Prop} {w w' : World} {x : Hd4} {t : Tr} {L : List Hd4} {tr : List Tr}
theorem TrH.chg (h : TrH w M x t) (hc : Chg S w w') (hS : ∀ k, S k → M k) (hM : ∀ k, M' k → M k ∨ w.heap.size ≤ k) : TrH w' M' x t := ⟨h.ok, h.kind, h.pl, h.slot, h.bytes.chg hc hS hM⟩
theorem TrL.chg (h : TrL w M L tr) (hc : Chg S w w') (hS : ∀ k, S k → M k) (hM : ∀ k, M' k → M k ∨ w.heap.size ≤ k) : TrL w' M' L tr := ⟨h.len, fun j hj => (h.each j hj).chg hc hS hM⟩
theorem TrL.nil (w : World) (M : Nat → Prop) : TrL w M [] [] := ⟨rfl, fun j h => absurd h (by simp)⟩
theorem TrL.snoc (h : TrL w M L tr) (hx : TrH w M x t) : TrL w M (L ++ [x]) (tr ++ [t]) := by
  have hl := h.len
  refine ⟨by simp [hl], fun j hj => ?_⟩
  by_cases hjl : j < L.length
  · simp only [List.getElem_append_left hjl, List.getElem_append_left (show j < tr.length by omega)]
    exact h.each j hjl
  · have e : j = L.length := by simp at hj; omega
    subst e
    simp only [List.getElem_append_right (Nat.le_refl _), Nat.sub_self, List.getElem_cons_zero]
    have e2 : (tr ++ [t])[L.length]'(by simp; omega) = t := by
      rw [List.getElem_append_right (by omega)]; simp [hl]
    rw [e2]
    exact hx
end

/-! ### a World -/
structure Wd where
  n : Nat
  sl : Int × Int → List UInt8
  s0 : List UInt8
  s1 : List UInt8
  ctr : Nat
  lim : Bool
  lost : Bool
  left : Nat
  reads : Nat
  lies : Int → Option (List UInt8)
  nl : Nat
  tr : List Tr
structure Ad where
  ms : Nat
  ml : Option Nat
  v0 : Value
  v1 : Value
  vt : Value
def wdCells (ad : Ad) (t : Wd) : List Value :=
  [.map (some ad.ms), ad.v0, ad.v1, .int .u64 (t.ctr : Int), .bool t.lim, .bool t.lost, .int .i64 (t.left : Int), .int .i64 (t.reads : Int), .map ad.ml, ad.vt]
theorem wdCells_length (ad : Ad) (t : Wd) : (wdCells ad t).length = 10 := rfl

def okI (z : Int) : Prop := (Lit.int .i64 z).wf = true
def kvI (z : Int) : Value := .int .i64 z
def okP (x : Int × Int) : Prop := (Lit.int .i64 x.1).wf = true ∧ (Lit.int .i64 x.2).wf = true
def kvP (x : Int × Int) : Value := .agg #[.int .i64 x.1, .int .i64 x.2]
theorem keyI : KeyT Try.prog 3 kvI okI :=
  ⟨Maps.int_keyed Try.underlying3, fun x hx => ⟨_, Maps.keyOf_int_mk Try.underlying3 hx⟩, fun x y h => by injection h⟩
theorem keyP : KeyT Try.prog 80 kvP okP := by
  refine ⟨Maps.Keyed.of_law (deep_law_laid (m := 5) (by kernel_rfl) (by decide) (of_decide_eq_true (by kernel_rfl)) (by kernel_rfl) (by kernel_rfl)), fun x hx => ?_, fun x y h => ?_⟩
  · obtain ⟨h1, h2⟩ := hx
    have e1 : (Try.prog).keyType 80 = true := by kernel_rfl
    have e2 : (Try.prog).cellsOf 80 = 2 := by kernel_rfl
    have e5 : decide ((Try.prog).types.size = 0) = false := by kernel_rfl
    have e3 : ∃ m, (Try.prog).types.size = m + 1 := ⟨(Try.prog).types.size - 1, by have := of_decide_eq_false e5; omega⟩
    have e4 : (Try.prog).cellsOf 3 = 1 := by kernel_rfl
    obtain ⟨m, hm⟩ := e3
    refine ⟨.string (keyBytes [.int .i64 x.1, .int .i64 x.2]), ?_⟩
    unfold keyOf kvP
    simp only [Try.underlying80]
    rw [if_pos (by simp [e1, Value.formed, Try.underlying80, e2]), hm]
    unfold Program.keyLits
    simp only [Try.underlying80, Value.cells]
    rw [if_pos ⟨by rw [e2]; rfl, by simp⟩]
    simp [e4, Program.keyLits, Try.underlying3, h1, h2]
  · simp only [kvP, Value.agg.injEq, Array.mk.injEq, List.cons.injEq, Value.int.injEq] at h
    exact Prod.ext h.1.2 h.2.1.2

/-- is there such a slot? -/
def inR (n : Nat) (x : Int × Int) : Bool := decide (0 ≤ x.1) && decide (x.1 < (n : Int)) && decide (0 ≤ x.2) && decide (x.2 < 2)
def ptr (g : Nat) : Value := .pointer (some ⟨g, 0, none⟩)

structure Sl (w : World) (O : Nat → Prop) (ms n : Nat) (sl : Int × Int → List UInt8) (p : Int × Int → Option Nat) : Prop where
  om : O ms
  map : MapI w Try.prog 80 kvP okP ms (2 * n) (fun x => (p x).map ptr)
  has : ∀ x, (p x).isSome = inR n x
  own : ∀ x g, p x = some g → O g
  blk : ∀ x g, p x = some g → Blk w g 78 (cells8 (sl x))
  len : ∀ x g, p x = some g → (sl x).length = 272
  inj : ∀ x y g, p x = some g → p y = some g → x = y
def LieAt (w : World) (M : Nat → Prop) : Option Value → Option (List UInt8) → Prop
  | none, none => True
  | some v, some l => BsV w M v l
  | _, _ => False
def Li (w : World) (O M : Nat → Prop) (ml : Option Nat) (lies : Int → Option (List UInt8)) (nl : Nat) : Prop :=
  (ml = none ∧ ∀ z, okI z → lies z = none) ∨ ∃ g m f, ml = some g ∧ O g ∧ MapI w Try.prog 3 kvI okI g m f ∧ m ≤ nl ∧ ∀ z, okI z → LieAt w M (f z) (lies z)
structure Tc (w : World) (O M : Nat → Prop) (vt : Value) (tr : List Tr) (L : List Hd4) : Prop where
  own : w.ownsRow 0 61 4 vt tr.length (trCells L)
  mine : ∀ g, vt.ownBlock = some g → O g
  heads : TrL w M L tr

structure Parts (w : World) (O M : Nat → Prop) (b : Nat) (ad : Ad) (t : Wd) (p : Int × Int → Option Nat) (L : List Hd4) : Prop where
  sub : ∀ k, O k → M k
  lt : ∀ k, M k → k < w.heap.size
  ob : O b
  blk : Blk w b 75 (wdCells ad t)
  slots : Sl w O ad.ms t.n t.sl p
  lies : Li w O M ad.ml t.lies t.nl
  seal0 : BsV w M ad.v0 t.s0
  seal1 : BsV w M ad.v1 t.s1
  trace : Tc w O M ad.vt t.tr L
  big : t.n ≤ 4096
  pow : t.left ≤ 1000000
  num : t.ctr < 18446744073709551616
  read : t.reads ≤ 2000000
  two : ad.ml ≠ some ad.ms
/-- The World in block b has what t says; O are its blocks that may turn, M those of all Worlds. -/
def WIs (w : World) (O M : Nat → Prop) (b : Nat) (t : Wd) : Prop := ∃ ad p L, Parts w O M b ad t p L

/-- what a method leaves: of what was there only blocks of O have turned; O' are the World's then -/
structure Nx (w : World) (O : Nat → Prop) (w' : World) (O' : Nat → Prop) : Prop where
  chg : Chg O w w'
  sub : ∀ k, O k → O' k
  new : ∀ k, O' k → O k ∨ w.heap.size ≤ k
  lt : ∀ k, O' k → k < w'.heap.size
def Or2 (M O' : Nat → Prop) : Nat → Prop := fun k => M k ∨ O' k

section
variable {S O O' M M' : Nat → Prop} {w w' : World} {b : Nat} {ad : Ad} {t t' : Wd} {p : Int × Int → Option Nat} {L : List Hd4}
def IsMapB (w : World) (k : Nat) : Prop := ∃ es c, w.heap[k]? = some (.map es c)
def IsRow (w : World) (e : TypeId) (k : Nat) : Prop := ∃ cs, w.heap[k]? = some (.cells cs e (0, 0))
theorem IsMapB.ne {g : Nat} {e : TypeId} {k : Nat} (h : IsMapB w k) (hr : IsRow w e g) : k ≠ g := fun x => by
  subst x
  obtain ⟨_, _, h⟩ := h; obtain ⟨_, hr⟩ := hr
  rw [h] at hr; cases hr
theorem IsRow.ne {g k : Nat} {e e' : TypeId} (h : IsRow w e k) (hr : IsRow w e' g) (he : e ≠ e') : k ≠ g := fun x => by
  subst x
  obtain ⟨_, h⟩ := h; obtain ⟨_, hr⟩ := hr
  rw [h] at hr
  injection hr with hr
  injection hr with _ h2 _
  exact he h2
theorem Blk.row {g : Nat} {e : TypeId} {cs : List Value} (h : Blk w g e cs) : IsRow w e g := ⟨_, h.heap⟩
theorem Tc.row {vt : Value} {tr : List Tr} (h : Tc w O M vt tr L) {g : Nat} (hg : vt.ownBlock = some g) : IsRow w 61 g := by
  rcases h.own.2 with ⟨rfl, _⟩ | ⟨g', cap, cur, rfl, _, hh, _⟩
  · cases hg
  · obtain rfl : g' = g := Option.some.inj hg
    exact ⟨_, hh⟩
theorem Sl.stay {ms n : Nat} {sl : Int × Int → List UInt8} (h : Sl w O ms n sl p) (hO : ∀ k, O k → O' k) (hk : ∀ k, O k → IsMapB w k ∨ IsRow w 78 k → w'.heap[k]? = w.heap[k]?) : Sl w' O' ms n sl p :=
  ⟨hO _ h.om, h.map.stay (hk _ h.om (.inl h.map.heap)), h.has, fun x g hg => hO _ (h.own x g hg), fun x g hg => ⟨(hk g (h.own x g hg) (.inr (h.blk x g hg).row)).trans (h.blk x g hg).heap⟩, h.len, h.inj⟩
theorem LieAt.chg {f : Option Value} {l : Option (List UInt8)} (h : LieAt w M f l) (hc : Chg S w w') (hS : ∀ k, S k → M k) (hM : ∀ k, M' k → M k ∨ w.heap.size ≤ k) : LieAt w' M' f l := by
  cases f <;> cases l <;> simp only [LieAt] at h ⊢
  exact h.chg hc hS hM
theorem Li.stay {ml : Option Nat} {lies : Int → Option (List UInt8)} {nl : Nat} (h : Li w O M ml lies nl) (hO : ∀ k, O k → O' k) (hk : ∀ k, O k → IsMapB w k → w'.heap[k]? = w.heap[k]?) (hc : Chg S w w') (hS : ∀ k, S k → M k) (hM : ∀ k, M' k → M k ∨ w.heap.size ≤ k) : Li w' O' M' ml lies nl := by
  rcases h with h | ⟨g, m, f, h1, h2, h3, h4, h5⟩
  · exact .inl h
  · exact .inr ⟨g, m, f, h1, hO _ h2, h3.stay (hk g h2 h3.heap), h4, fun z hz => (h5 z hz).chg hc hS hM⟩
theorem Li.congr {ml : Option Nat} {lies lies' : Int → Option (List UInt8)} {nl : Nat} (h : Li w O M ml lies nl) (he : ∀ z, okI z → lies' z = lies z) : Li w O M ml lies' nl := by
  rcases h with ⟨h1, h2⟩ | ⟨g, m, f, h1, h2, h3, h4, h5⟩
  · exact .inl ⟨h1, fun z hz => (he z hz).trans (h2 z hz)⟩
  · exact .inr ⟨g, m, f, h1, h2, h3, h4, fun z hz => by rw [he z hz]; exact h5 z hz⟩
theorem own4_stay {base e size n : Nat} {v : Value} {xs : List Value} (h : w.ownsRow base e size v n xs) (hk : ∀ g, v.ownBlock = some g → w'.heap[g]? = w.heap[g]?) : w'.ownsRow base e size v n xs := by
  refine ⟨h.1, ?_⟩
  rcases h.2 with h1 | ⟨g, cap, cur, rfl, h2, h3, h4⟩
  · exact .inl h1
  · exact .inr ⟨g, cap, cur, rfl, h2, (hk g rfl).trans h3, h4⟩
theorem Tc.stay {vt : Value} {tr : List Tr} (h : Tc w O M vt tr L) (hO : ∀ k, O k → O' k) (hk : ∀ k, O k → IsRow w 61 k → w'.heap[k]? = w.heap[k]?) (hc : Chg S w w') (hS : ∀ k, S k → M k) (hM : ∀ k, M' k → M k ∨ w.heap.size ≤ k) : Tc w' O' M' vt tr L :=
  ⟨own4_stay h.own (fun g hg => hk g (h.mine g hg) (h.row hg)), fun g hg => hO _ (h.mine g hg), h.heads.chg hc hS hM⟩

/-- all stays but the World's own block, of which some numbers turn -/
theorem Parts.own (h : Parts w O M b ad t p L) (ho : Only b w w') (hk : Blk w' b 75 (wdCells ad t')) (hn : t'.n = t.n) (hs : t'.sl = t.sl) (h0 : t'.s0 = t.s0) (h1 : t'.s1 = t.s1) (hl : t'.lies = t.lies) (hnl : t'.nl = t.nl) (htr : t'.tr = t.tr)
    (hp : t'.left ≤ 1000000) (hc : t'.ctr < 18446744073709551616) (hr : t'.reads ≤ 2000000) : Parts w' O M b ad t' p L := by
  have C : Chg O w w' := Chg.of_only ho h.ob
  refine ⟨h.sub, fun k hk => Nat.lt_of_lt_of_le (h.lt k hk) C.size, h.ob, hk, ?_, ?_, ?_, ?_, ?_, by rw [hn]; exact h.big, hp, hc, hr, h.two⟩
  · rw [hn, hs]
    refine h.slots.stay (fun _ h => h) (fun k _ hkk => ho.block k ?_)
    rcases hkk with hkk | hkk
    · exact hkk.ne h.blk.row
    · exact hkk.ne h.blk.row (by decide)
  · rw [hl, hnl]; exact h.lies.stay (fun _ h => h) (fun k _ hkk => ho.block k (hkk.ne h.blk.row)) C h.sub (fun _ h => .inl h)
  · rw [h0]; exact h.seal0.chg C h.sub (fun _ h => .inl h)
  · rw [h1]; exact h.seal1.chg C h.sub (fun _ h => .inl h)
  · rw [htr]; exact h.trace.stay (fun _ h => h) (fun k _ hkk => ho.block k (hkk.ne h.blk.row (by decide))) C h.sub (fun _ h => .inl h)
/-- all stays where nothing that was there turns, or nothing of O -/
theorem Parts.chg (h : Parts w O M b ad t p L) (hc : Chg S w w') (hS : ∀ k, S k → ¬ O k) (hSM : ∀ k, S k → M k) (hM : ∀ k, M' k → M k ∨ w.heap.size ≤ k) (hMM : ∀ k, M k → M' k) (hlt : ∀ k, M' k → k < w'.heap.size) : Parts w' O M' b ad t p L := by
  have hk : ∀ k, O k → w'.heap[k]? = w.heap[k]? := fun k hk => hc.block k (h.lt _ (h.sub _ hk)) (fun e => hS k e hk)
  refine ⟨fun k hk => hMM _ (h.sub k hk), hlt, h.ob, ⟨(hk b h.ob).trans h.blk.heap⟩, h.slots.stay (fun _ h => h) (fun k h1 _ => hk k h1), h.lies.stay (fun _ h => h) (fun k h1 _ => hk k h1) hc hSM hM, h.seal0.chg hc hSM hM, h.seal1.chg hc hSM hM,
    h.trace.stay (fun _ h => h) (fun k h1 _ => hk k h1) hc hSM hM, h.big, h.pow, h.num, h.read, h.two⟩
theorem Parts.below (h : Parts w O M b ad t p L) (hb : Below w.heap.size w w') : Parts w' O M b ad t p L :=
  h.chg (S := fun _ => False) (Chg.of_below _ hb) (fun _ h => h.elim) (fun _ h => h.elim) (fun _ h => .inl h) (fun _ h => h) (fun k hk => Nat.lt_of_lt_of_le (h.lt k hk) hb.size)
/-- the lies alone turn -/
theorem Parts.lied (h : Parts w O M b ad t p L) {g m : Nat} {f : Int → Option Value} {lies : Int → Option (List UInt8)} {nl : Nat} (hg : ad.ml = some g) (ho : Only g w w') (hI : MapI w' Try.prog 3 kvI okI g m f) (hm : m ≤ nl) (hf : ∀ z, okI z → LieAt w M (f z) (lies z)) : Parts w' O M b ad { t with lies := lies, nl := nl } p L := by
  have hgm : IsMapB w g ∧ O g := by
    rcases h.lies with ⟨h1, _⟩ | ⟨g', m', f', h1, h2, h3, _⟩
    · rw [hg] at h1; cases h1
    · rw [hg] at h1
      obtain rfl := Option.some.inj h1
      exact ⟨h3.heap, h2⟩
  have hne : ad.ms ≠ g := fun e => h.two (by rw [hg, e])
  have C : Chg O w w' := Chg.of_only ho hgm.2
  refine ⟨h.sub, fun k hk => Nat.lt_of_lt_of_le (h.lt k hk) C.size, h.ob, h.blk.only ho (fun e => hgm.1.ne h.blk.row e.symm), ?_, ?_, h.seal0.chg C h.sub (fun _ h => .inl h), h.seal1.chg C h.sub (fun _ h => .inl h), ?_, h.big, h.pow, h.num, h.read, h.two⟩
  · exact ⟨h.slots.om, h.slots.map.stay (ho.block _ hne), h.slots.has, h.slots.own, fun x k hk => (h.slots.blk x k hk).only ho (fun e => hgm.1.ne (h.slots.blk x k hk).row e.symm), h.slots.len, h.slots.inj⟩
  · exact .inr ⟨g, m, f, hg, hgm.2, hI, hm, fun z hz => (hf z hz).chg C h.sub (fun _ h => .inl h)⟩
  · exact h.trace.stay (fun _ h => h) (fun k _ hkk => ho.block k (fun e => hgm.1.ne hkk e.symm)) C h.sub (fun _ h => .inl h)
theorem Nx.refl (O : Nat → Prop) (w : World) (h : ∀ k, O k → k < w.heap.size) : Nx w O w O := ⟨Chg.refl _ _, fun _ h => h, fun _ h => .inl h, h⟩
theorem Nx.same (hc : Chg O w w') (h : ∀ k, O k → k < w.heap.size) : Nx w O w' O := ⟨hc, fun _ h => h, fun _ h => .inl h, fun k hk => Nat.lt_of_lt_of_le (h k hk) hc.size⟩
theorem Nx.trans {w2 : World} {O2 : Nat → Prop} (h : Nx w O w' O') (h2 : Nx w' O' w2 O2) : Nx w O w2 O2 :=
  ⟨h.chg.trans h2.chg (fun k hk ho => (h.new k ho).elim id (fun h1 => absurd hk (by omega))), fun k hk => h2.sub k (h.sub k hk), fun k hk => by
    rcases h2.new k hk with h1 | h1
    · exact h.new k h1
    · exact .inr (Nat.le_trans h.chg.size h1), h2.lt⟩
theorem or2_lt (h : ∀ k, M k → k < w.heap.size) (hx : Nx w O w' O') : ∀ k, Or2 M O' k → k < w'.heap.size := fun k hk => by
  rcases hk with h1 | h1
  · exact Nat.lt_of_lt_of_le (h k h1) hx.chg.size
  · exact hx.lt k h1
theorem or2_new (hs : ∀ k, O k → M k) (hx : Nx w O w' O') : ∀ k, Or2 M O' k → M k ∨ w.heap.size ≤ k := fun k hk => by
  rcases hk with h1 | h1
  · exact .inl h1
  · rcases hx.new k h1 with h2 | h2
    · exact .inl (hs k h2)
    · exact .inr h2
/-- what is held stays over a method -/
theorem BsM.nx {A : Option Addr} {n c : Nat} {l : List UInt8} (h : BsM w M A n c l) (hs : ∀ k, O k → M k) (hx : Nx w O w' O') : BsM w' (Or2 M O') A n c l := h.chg hx.chg hs (or2_new hs hx)
end
end Go.Proofs.Ytpbpegoobgfjcaa

namespace Go.Proofs.Ytpbpegoobgfjcaa
open Go.RowKit
open Go.Maps (Keyed)

/-- Block b is a map of n entries, at x stands f x; block r ranges over it; todo x: x is still to come; cnt: how many are. -/
structure RngI (w : World) (P : Program) (k : TypeId) {κ : Type} (kv : κ → Value) (ok : κ → Prop) (b r n : Nat) (f : κ → Option Value) (todo : κ → Bool) (cnt : Nat) : Prop where
  is : ∃ (D : DataW Value) (left : Lit → Bool), w.ranges P k Rv b r n D left cnt ∧ Maps.size D = n ∧ (∀ x, ok x → ∀ kl, keyOf P k (kv x) = some kl → Maps.has D kl = (f x).isSome ∧ ∀ z, D.atKey kl (.held z) = .held ((f x).getD z)) ∧ ∀ x, ok x → ∀ kl, keyOf P k (kv x) = some kl → left kl = todo x
section
variable {P : Program} {w : World} {k t e : TypeId} {κ : Type} {kv : κ → Value} {ok : κ → Prop} {b r n cnt : Nat} {f : κ → Option Value} {todo : κ → Bool}
theorem RngI.stay {w' : World} (h : RngI w P k kv ok b r n f todo cnt) (hb : w'.heap[b]? = w.heap[b]?) (hr : w'.heap[r]? = w.heap[r]?) : RngI w' P k kv ok b r n f todo cnt := by
  obtain ⟨D, left, ⟨es, clock, since, seen, c0, h1, h2, h3, h4, h5, h6⟩, hs, hf, ht⟩ := h.is
  exact ⟨D, left, ⟨es, clock, since, seen, c0, hb.trans h1, h2, h3, h4, hr.trans h5, h6⟩, hs, hf, ht⟩
theorem RngI.left (h : RngI w P k kv ok b r n f todo cnt) : w.rangeLeft b r = cnt := by
  obtain ⟨D, left, h1, _⟩ := h.is
  exact h1.left_eq
theorem RngI.iter (h : RngI w P k kv ok b r n f todo cnt) : ∃ m s x c, w.heap[r]? = some (.mapIter m s x c) := by
  obtain ⟨D, left, ⟨es, clock, since, seen, c0, h1, h2, h3, h4, h5, h6⟩, hs, hf, ht⟩ := h.is
  exact ⟨_, _, _, _, h5⟩
theorem RngI.lt (h : RngI w P k kv ok b r n f todo cnt) : r < w.heap.size := by
  obtain ⟨m, s, x, c, hh⟩ := h.iter
  exact (Array.getElem?_eq_some_iff.1 hh).1
theorem RngI.map (h : RngI w P k kv ok b r n f todo cnt) : MapI w P k kv ok b n f := by
  obtain ⟨D, left, h1, hs, hf, _⟩ := h.is
  exact ⟨D, h1.owns, hs, hf⟩
theorem one_out {α : Type} (q : α → Bool) : ∀ l : List α, l.Pairwise (fun x y => ¬ (q x = true ∧ q y = true)) → (∃ x ∈ l, q x = true) → (l.filter (fun x => !q x)).length + 1 = l.length
  | [], _, h => by obtain ⟨_, h, _⟩ := h; cases h
  | a :: l, hp, h => by
    obtain ⟨h1, h2⟩ := List.pairwise_cons.1 hp
    by_cases ha : q a = true
    · have e : l.filter (fun x => !q x) = l := List.filter_eq_self.2 (fun x hx => by
        have := h1 x hx
        simp only [ha, true_and] at this
        simpa using this)
      rw [List.filter_cons_of_neg (by simp [ha]), e, List.length_cons]
    · have e := one_out q l h2 (by
        obtain ⟨x, hx, hq⟩ := h
        rcases List.mem_cons.1 hx with rfl | hx
        · exact absurd hq ha
        · exact ⟨x, hx, hq⟩)
      rw [List.filter_cons_of_pos (by simp [ha]), List.length_cons, List.length_cons, e]
/-- the step takes one -/
theorem ranges_one {w' : World} {D : DataW Value} {left : Lit → Bool} {kl : Lit} {cnt' : Nat} (K : Keyed P k) (h : w.ranges P k Rv b r n D left cnt) (h' : w'.ranges P k Rv b r n D (fun z => left z && !z.sameKey kl) cnt') (hb : w'.heap[b]? = w.heap[b]?) (hl : left kl = true) : cnt' + 1 = cnt := by
  obtain ⟨es, clock, since, seen, c0, h1, F, _, _, _, _, hc, hl1, hl2, _⟩ := h
  obtain ⟨es', clock', since', seen', c0', h1', F', _, _, _, _, hc', hl1', _, _⟩ := h'
  rw [hb, h1] at h1'
  have he : es' = es := by injection (Option.some.inj h1') with e _; exact e.symm
  subst he
  have e1 : ∀ s : Array Nat, (leftOf es' s).size = (es'.toList.filter fun e => !s.contains e.born).length := fun s => by
    unfold leftOf
    rw [← Array.toList_filter, Array.length_toList]
  rw [← hc, ← hc', e1, e1]
  have e2 : (es'.toList.filter fun e => !seen'.contains e.born) = (es'.toList.filter fun e => !seen.contains e.born).filter (fun e => !(WideElems.rg P k Rv e).1.sameKey kl) := by
    rw [List.filter_filter]
    refine List.filter_congr fun x hx => ?_
    rw [← hl1' x hx, ← hl1 x hx, Bool.and_comm]
  rw [e2]
  refine one_out _ _ ?_ ?_
  · refine List.Pairwise.sublist List.filter_sublist (List.Pairwise.imp_of_mem (fun {x y} hx hy hne hxy => ?_) ((MapKept.stamped_iff es' clock).1 F.stamped).2.2)
    exact hne (Maps.fit_key_inj K F hx hy ((WideAt.sameKey_eq hxy.1).trans (WideAt.sameKey_eq hxy.2).symm))
  · obtain ⟨x, hx, hxk⟩ := hl2 kl hl
    refine ⟨x, List.mem_filter.2 ⟨hx, ?_⟩, ?_⟩
    · rw [← hl1 x hx, hxk]; exact hl
    · obtain ⟨y, hy⟩ := F.reads x hx
      rw [← hxk, WideElems.rg_of hy]
      exact WideAt.sameKey_self (K.key (WideElems.rd_key hy))
variable {ops : Array Oper} {rest : List Oper} {o : Oper} {a : Act} {Q : Exit → Act → World → Prop}
theorem wpList_rangeI (h : MapI w P k kv ok b n f) (T : KeyT P k kv ok) (hg : o.guard = none) (m : Operand) (t : TypeId) (hop : o.op = Op.range t m) (e : TypeId) (ht : P.underlying t = some (.map k e)) (hm : a.eval m = .map (some b))
    (hK : ∀ w', RngI w' P k kv ok b w.heap.size n f (fun x => (f x).isSome) n → w.grownBy w' none → w'.heap.size = w.heap.size + 1 → wpList P ops Q rest (a.put o.dst (.pointer (some ⟨w.heap.size, 0, none⟩))) w') : wpList P ops Q (o :: rest) a w := by
  obtain ⟨D, h1, h2, h3⟩ := h.is
  refine wpList_range_own w hg m t hop k e T.K ht Rv b n D hm h1 (fun w' hr hg' hs => hK w' ⟨D, _, ?_, h2, h3, fun x hx kl hkl => (h3 x hx kl hkl).1⟩ hg' hs)
  rw [h2] at hr
  exact hr
theorem wpList_nextI [DecidableEq κ] (h : RngI w P k kv ok b r n f todo cnt) (T : KeyT P k kv ok) (inv : ∀ key kl, keyOf P k key = some kl → ∃ x, ok x ∧ key = kv x) (hg : o.guard = none) (it : Operand) (hop : o.op = Op.next it false) (hit : a.eval it = .pointer (some ⟨r, 0, none⟩))
    (hDone : cnt = 0 → (∀ x, ok x → todo x = false) → wpList P ops Q rest (a.put o.dst (.tuple #[.bool false])) w)
    (hMore : ∀ (x : κ) (v : Value) (w' : World) (cnt' : Nat), ok x → todo x = true → f x = some v → RngI w' P k kv ok b r n f (fun y => todo y && !decide (y = x)) cnt' → cnt' + 1 = cnt → w.grownBy w' (some r) → w'.heap.size = w.heap.size →
      (Instr.entry (.pointer (some ⟨r, 0, none⟩))).run P w' = .ok (.tuple #[kv x, v]) w' → wpList P ops Q rest (a.put o.dst (.tuple #[.bool true, kv x, v])) w') : wpList P ops Q (o :: rest) a w := by
  obtain ⟨D, left, h1, h2, h3, h4⟩ := h.is
  refine wpList_next_ranges w hg it hop k T.K Rv kv (fun v : Value => v) (fun key kl hk => by obtain ⟨x, _, hx⟩ := inv key kl hk; exact ⟨x, hx⟩) (fun v y _ => ⟨v, rfl⟩) b r n D left cnt hit h1 (fun h0 hl => hDone h0 fun x hx => ?_) (fun x v kl y w' cnt' hkl hlk hy hat hr _ hgr hsz hen => ?_)
  · obtain ⟨kl, hkl⟩ := T.lit x hx
    rw [← h4 x hx kl hkl]; exact hl kl
  · obtain ⟨x', hx', he⟩ := inv _ _ hkl
    obtain rfl := T.inj _ _ he
    have hyv : y = (.held v, []) := by
      simp only [Rv, Option.some.injEq] at hy
      exact hy.symm
    have hfx : f x = some v := by
      have e1 : ∀ z, (f x).getD z = v := fun z => by
        have h5 := (h3 x hx' kl hkl).2 z
        rw [hat, hyv] at h5
        injection h5 with h5
        exact h5.symm
      cases hf : f x with
      | some u => rw [hf] at e1; exact congrArg some (e1 v)
      | none =>
        rw [hf] at e1
        have h6 := (e1 (.bool true)).trans (e1 (.bool false)).symm
        simp at h6
    refine hMore x v w' cnt' hx' (by rw [← h4 x hx' kl hkl]; exact hlk) hfx ⟨D, _, hr, h2, h3, fun z hz kz hkz => ?_⟩ (ranges_one T.K h1 hr (hgr.block b h1.owns.lt (fun e => h1.ne (Option.some.inj e).symm)) hlk) hgr hsz hen
    show (left kz && !kz.sameKey kl) = (todo z && !decide (z = x))
    rw [h4 z hz kz hkz]
    by_cases hzx : z = x
    · subst hzx
      obtain rfl : kz = kl := by rw [hkl] at hkz; exact (Option.some.inj hkz).symm
      rw [WideAt.sameKey_self (T.K.key hkl)]
      simp
    · rw [Maps.sameKey_ne (MapI.keys_ne T hzx hkz hkl)]
      simp [hzx]
end

theorem invI : ∀ key kl, keyOf Try.prog 3 key = some kl → ∃ x, okI x ∧ key = kvI x := fun key kl h => by
  obtain ⟨x, h1, _, h2⟩ := Maps.keyOf_int_inv Try.underlying3 h
  exact ⟨x, h2, h1⟩
theorem keyInt {m : Nat} {v : Value} {l : List Lit} (h : (Try.prog).keyLits (m + 1) 3 [v] = some l) : ∃ n, v = .int .i64 n ∧ (Lit.int .i64 n).wf = true := by
  unfold Program.keyLits at h
  cases v <;> simp [Try.underlying3] at h
  obtain ⟨⟨rfl, h2⟩, _⟩ := h
  exact ⟨_, rfl, h2⟩
set_option maxRecDepth 20000 in
theorem invP : ∀ key kl, keyOf Try.prog 80 key = some kl → ∃ x, okP x ∧ key = kvP x := fun key kl h => by
  have e2 : (Try.prog).cellsOf 80 = 2 := by kernel_rfl
  have e5 : decide ((Try.prog).types.size = 0) = false := by kernel_rfl
  have e3 : ∃ m, (Try.prog).types.size = m + 1 := ⟨(Try.prog).types.size - 1, by have := of_decide_eq_false e5; omega⟩
  have e4 : (Try.prog).cellsOf 3 = 1 := by kernel_rfl
  obtain ⟨m, hm⟩ := e3
  unfold keyOf at h
  simp only [Try.underlying80] at h
  split at h
  · rename_i hc
    rw [hm] at h
    simp only [Bool.and_eq_true] at hc
    obtain ⟨_, hf⟩ := hc
    cases key with
    | agg cs =>
      obtain ⟨l⟩ := cs
      have hl : l.length = 2 := by
        simpa only [Value.formed, Try.underlying80, e2, beq_iff_eq, List.size_toArray] using hf
      obtain ⟨u, v, rfl⟩ : ∃ u v, l = [u, v] := by
        match l, hl with
        | [u, v], _ => exact ⟨u, v, rfl⟩
      unfold Program.keyLits at h
      simp only [Try.underlying80, Value.cells] at h
      rw [if_pos ⟨by rw [e2]; rfl, by simp⟩] at h
      simp only [List.mapM_cons, List.mapM_nil, e4, List.drop_zero, List.take_succ_cons, List.take_zero, List.drop_succ_cons] at h
      cases hu : (Try.prog).keyLits (m + 1) 3 [u] with
      | none => simp [hu] at h
      | some l1 =>
        cases hv : (Try.prog).keyLits (m + 1) 3 [v] with
        | none => simp [hu, hv] at h
        | some l2 =>
          obtain ⟨x, rfl, hx⟩ := keyInt hu
          obtain ⟨y, rfl, hy⟩ := keyInt hv
          exact ⟨(x, y), ⟨hx, hy⟩, rfl⟩
    | _ => simp [Value.formed, Try.underlying80] at hf
  · cases h
end Go.Proofs.Ytpbpegoobgfjcaa

namespace Go.Proofs.Ytpbpegoobgfjcaa
open Go.RowKit

set_option maxRecDepth 100000 in
set_option maxHeartbeats 400000 in
theorem clone_any (A : Option Addr) (n c : Nat) (l : List UInt8) (w : World) (ha : Bs w w.heap.size A n c l) (hn : n ≤ 4294967296) :
    Calls Try.prog 39 #[.slice A n c] w fun e w' => ∃ v, e = .returned v ∧ w'.ownsRow w.heap.size 5 1 v n (cells8 l) ∧ Below w.heap.size w w' := by
  have HA : Kp _ := ⟨ha⟩
  have HL : Kp _ := ⟨ha.len⟩
  have heq := fun w => Lib.run_eql_slice_nil (P := Try.prog) w 22 5 A n c 0 0 Try.underlying22
  cases hA : A with
  | none =>
    have h0 : n = 0 := by have := ha.nil hA; have := ha.cap; omega
    have hl : l = [] := List.eq_nil_of_length_eq_zero (by have := ha.len; omega)
    have hc : c = 0 := ha.nil hA
    rw [hA] at heq
    clear ha HA HL hA
    subst h0 hl hc
    go_enter Try.func39, Try.ntmps39
    go_wp2
    go_ret
    exact ⟨_, rfl, own_nil _ _ _, Below.refl _ _⟩
  | some ad =>
    subst hA
    clear ha
    have hb1 : Below w.heap.size w (w.alloc (.cells #[] 5)) := (Below.refl _ _).alloc (Nat.le_refl _) _
    have HO : Kp ((w.alloc (.cells #[] 5)).ownsRow w.heap.size 5 1 (.slice (some ⟨w.heap.size, 0, none⟩) 0 0) 0 []) :=
      ⟨rfl, .inr ⟨w.heap.size, 0, #[], rfl, Nat.le_refl _, by show (w.heap.push _)[w.heap.size]? = _; simp, Nat.le_refl _, Nat.zero_le _, rfl, rfl⟩⟩
    have HA1 : Kp _ := ⟨HA.out.below hb1⟩
    go_enter Try.func39, Try.ntmps39
    go_wp2_with (at_builtin; refine wpList_app el8 rfl _ _ rfl w.heap.size _ 0 [] rfl HO.out (some ad) n c (cells8 l) rfl (by rw [cells8_length, HL.out]) (fun h => by cases h) HA1.out.news (cells8_one _) (by simp only [maxLen]; omega) (by omega) (by simp) ?_)
    intro v2 w2 hown2 hg2 _
    have hb2 : Below w.heap.size w w2 := hb1.trans (below_of_grown HO.out (by simp) hg2)
    have H2 : Kp (w2.ownsRow w.heap.size 5 1 v2 n (cells8 l)) := ⟨by simpa using hown2⟩
    clear hown2 hg2
    go_wp2
    go_ret
    exact ⟨_, rfl, H2.out, hb2⟩
end Go.Proofs.Ytpbpegoobgfjcaa

namespace Go.Proofs.Ytpbpegoobgfjcaa
open Go.RowKit

section
variable {P : Program} {w : World} {ops : Array Oper} {rest : List Oper} {o : Oper} {a : Act} {Q : Exit → Act → World → Prop} {t : TypeId}
theorem wpList_build1 (hg : o.guard = none) (i : Nat) (x : Operand) (hop : o.op = .build t #[(i, x)]) {v : Value} (hx : a.eval x = v) {cs : List Value} (hb : P.built t [(i, v)] = some cs.toArray)
    (h : wpList P ops Q rest (a.put o.dst (.agg cs.toArray)) w) : wpList P ops Q (o :: rest) a w := by
  refine wpList_plain hg fun K hK => ?_
  unfold Oper.wp execOp
  have hr := run_build (P := P) w t #[(i, v)] cs.toArray (by simpa using hb)
  simp only [hop, Sem.run_bind, List.map_toArray, List.map_cons, List.map_nil, hx, hr, Result.andThen_ok]
  exact hK _ _ h
/-- a whole block, read, guarded -/
theorem wpList_loadAll_g {d : TypeDesc} {n : Nat} (E : Rw P t d n) (hg : Region.wanted o (yielded ops a.tmps) = true) (x : Operand) (hop : o.op = .load t x) {g : Nat} {t' : TypeId} {cs : List Value} (hx : a.eval x = .pointer (some ⟨g, 0, none⟩)) (hb : Blk w g t' cs) (hn : cs.length = n)
    (h : wpList P ops Q rest (a.put o.dst (.agg cs.toArray)) w) : wpList P ops Q (o :: rest) a w := by
  refine wpList_step fun K hK => ?_
  rw [if_pos hg]
  have hr := run_load_rw E hb (off := 0) (by omega)
  rw [List.drop_zero, List.take_of_length_le (by omega)] at hr
  unfold Oper.wp
  simp only [execOp, hop, hx, Sem.run_bind, hr, Result.andThen_ok, Sem.run_pure]
  exact hK _ _ h
/-- a new variable of many cells, in a region whose order is open -/
theorem step_alloc {K : Act → World → Prop} {C : Prop} {zs : List Value} (E : Ty P t zs) (hgd : o.guard = none) (hop : o.op = .alloc t)
    (h : ∀ w', Blk w' w.heap.size t zs → Below w.heap.size w w' → K (a.put o.dst (.pointer (some ⟨w.heap.size, 0, none⟩))) w') :
    if Region.wanted o (yielded ops a.tmps) = true then Oper.wp P o a w K Q else C := by
  have hw : Region.wanted o (yielded ops a.tmps) = true := by simp [Region.wanted, hgd]
  rw [if_pos hw]
  unfold Oper.wp
  simp only [execOp, hop, Sem.run_bind, run_alloc_ty E, Result.andThen_ok, Sem.run_pure]
  exact h _ (Blk.new w t zs) ((Below.refl _ _).alloc (Nat.le_refl _) _)
/-- many cells, read, as what they are known to be -/
theorem wpList_loadv {d : TypeDesc} {n : Nat} (E : Rw P t d n) (hg : o.guard = none) (x : Operand) (hop : o.op = .load t x) {g off : Nat} {t' : TypeId} {cs vs : List Value} (hx : a.eval x = .pointer (some ⟨g, off, none⟩)) (hb : Blk w g t' cs) (hfit : off + n ≤ cs.length) (hv : (cs.drop off).take n = vs)
    (h : wpList P ops Q rest (a.put o.dst (.agg vs.toArray)) w) : wpList P ops Q (o :: rest) a w := by
  subst hv
  exact wpList_load E hg x hop hx hb hfit h
end
end Go.Proofs.Ytpbpegoobgfjcaa
