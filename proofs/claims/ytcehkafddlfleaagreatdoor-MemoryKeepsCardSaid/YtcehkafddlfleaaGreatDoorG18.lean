/- 
   
   
   
   
    -/
import Derived.Test.YtcehkafddlfleaaGreatDoorG09
import Derived.Test.YtcehkafddlfleaaGreatDoorG08
import Derived.Test.YtcehkafddlfleaaGreatDoorG01
import Derived.Test.YtcehkafddlfleaaGreatDoorG14
import Derived.DeepKeys4
import Derived.Deep.LoopGhost
import Derived.Maps.RangeWalk
namespace Go.Proofs.YtcehkafddlfleaaGreatDoor
open Go.RowKit
structure Chg (S : Nat → Prop) (w w' : World) : Prop where
 os : w'.os = w.os
 tape : w'.tape = w.tape
 output : w'.output = w.output
 size : w.heap.size ≤ w'.heap.size
 block : ∀ k, k < w.heap.size → ¬ S k → w'.heap[k]? = w.heap[k]?
section
variable {S S2 : Nat → Prop} {w w' w2 : World} {B g : Nat}
theorem Chg.refl (S : Nat → Prop) (w : World) : Chg S w w := ⟨rfl, rfl, rfl, Nat.le_refl _, fun _ _ _ => rfl⟩
theorem Chg.trans (h : Chg S w w') (h2 : Chg S2 w' w2) (hs : ∀ k, k < w.heap.size → S2 k → S k) : Chg S w w2 :=
 ⟨h2.os.trans h.os, h2.tape.trans h.tape, h2.output.trans h.output, Nat.le_trans h.size h2.size, fun k hk hn => (h2.block k (Nat.lt_of_lt_of_le hk h.size) (fun e => hn (hs k hk e))).trans (h.block k hk hn)⟩
theorem Chg.more (h : Chg S w w') (hs : ∀ k, S k → S2 k) : Chg S2 w w' := ⟨h.os, h.tape, h.output, h.size, fun k hk hn => h.block k hk (fun e => hn (hs k e))⟩
theorem Chg.of_below (S : Nat → Prop) (h : Below w.heap.size w w') : Chg S w w' := ⟨h.os, h.tape, h.output, h.size, fun k hk _ => h.block k hk⟩
theorem Chg.of_only (h : Only g w w') (hg : S g) : Chg S w w' := ⟨h.os, h.tape, h.output, by rw [h.size]; exact Nat.le_refl _, fun k _ hn => h.block k (fun e => hn (e ▸ hg))⟩
theorem Chg.of_grown {row : Option Nat} (h : w.grownBy w' row) (hr : ∀ g, row = some g → S g) : Chg S w w' := ⟨h.os, h.tape, h.output, h.size, fun k hk hn => h.block k hk (fun e => hn (hr k e.symm))⟩
theorem Chg.below (h : Chg S w w') (hS : ∀ k, S k → B ≤ k) (hB : B ≤ w.heap.size) : Below B w w' := ⟨h.os, h.tape, h.output, h.size, fun k hk => h.block k (by omega) (fun e => by have := hS k e; omega)⟩
theorem Chg.drew (h : Chg S w w') : Chg S w w'.drew := ⟨h.os, h.tape, h.output, h.size, h.block⟩
theorem Chg.drew0 (S : Nat → Prop) (w : World) : Chg S w w.drew := (Chg.refl S w).drew
theorem Chg.thenBelow (h : Chg S w w') (h2 : Below w'.heap.size w' w2) : Chg S w w2 := h.trans (Chg.of_below (fun _ => False) h2) (fun _ _ h => h.elim)
theorem Blk.chg {t : TypeId} {cs : List Value} (h : Blk w g t cs) (hc : Chg S w w') (hg : ¬ S g) : Blk w' g t cs := ⟨(hc.block g h.lt hg).trans h.heap⟩
end
structure BsM (w : World) (M : Nat → Prop) (A : Option Addr) (n c : Nat) (l : List UInt8) : Prop where
 bs : Bs w w.heap.size A n c l
 apart : ∀ ad, A = some ad → 0 < n → ¬ M ad.block
 fit : n ≤ 4294967296
def BsV (w : World) (M : Nat → Prop) (v : Value) (l : List UInt8) : Prop := ∃ A n c, v = .slice A n c ∧ BsM w M A n c l
section
variable {S M M' : Nat → Prop} {w w' : World} {A : Option Addr} {n c : Nat} {l : List UInt8} {v : Value}
theorem BsM.chg (h : BsM w M A n c l) (hc : Chg S w w') (hS : ∀ k, S k → M k) (hM : ∀ k, M' k → M k ∨ w.heap.size ≤ k) : BsM w' M' A n c l := by
 refine ⟨⟨h.bs.len, h.bs.cap, h.bs.max, h.bs.nil, fun h0 => ?_⟩, fun ad hA h0 hm => ?_, h.fit⟩
 ·obtain ⟨b, o, hA, hb, hcell⟩ := h.bs.cells h0
  have hn := h.apart _ hA h0
  refine ⟨b, o, hA, Nat.lt_of_lt_of_le hb hc.size, fun j hj => ?_⟩
  rw [← hcell j hj]
  exact World.cell?_of_block (w := w) (hc.block b hb (fun e => hn (hS _ e)))
 ·obtain ⟨b, o, hA', hb, _⟩ := h.bs.cells h0
  rw [hA'] at hA
  obtain rfl := Option.some.inj hA
  rcases hM _ hm with h1 | h1
  ·exact h.apart _ hA' h0 h1
  ·simp at h1; omega
theorem BsM.below (h : BsM w M A n c l) (hb : Below w.heap.size w w') : BsM w' M A n c l := h.chg (S := fun _ => False) (Chg.of_below _ hb) (fun _ h => h.elim) (fun _ h => .inl h)
theorem BsM.zero (w : World) (M : Nat → Prop) : BsM w M none 0 0 [] := ⟨Bs.zero _ _, fun _ _ h => absurd h (by omega), by omega⟩
theorem BsM.of_bs {B : Nat} (h : Bs w B A n c l) (hB : B ≤ w.heap.size) (hM : ∀ k, M k → B ≤ k) (hn : n ≤ 4294967296) : BsM w M A n c l :=
 ⟨h.more hB, fun ad hA h0 hm => by
  obtain ⟨b, o, hA', hb, _⟩ := h.cells h0
  rw [hA'] at hA
  obtain rfl := Option.some.inj hA
  have := hM _ hm
  simp at this; omega, hn⟩
theorem BsM.of_own {base : Nat} {e : TypeId} (h : w.ownsRow base e 1 v n (cells8 l)) (hM : ∀ k, M k → k < base) (hn : n ≤ 4294967296) : ∃ A c, v = .slice A n c ∧ BsM w M A n c l := by
 obtain ⟨A, c, rfl, hb⟩ := Bs.of_own h
 refine ⟨A, c, rfl, hb, fun ad hA _ hm => ?_, hn⟩
 rcases h.2 with ⟨e1, _⟩ | ⟨g, cap, cur, e1, hg, _⟩
 ·injection e1 with e2 _ _
  rw [hA] at e2; cases e2
 ·injection e1 with e2 _ _
  rw [hA] at e2
  obtain rfl := Option.some.inj e2
  have := hM _ hm
  simp at this; omega
theorem BsM.cutH (h : BsM w M A n c l) {k : Nat} (hk : k ≤ n) : BsM w M A k c (l.take k) :=
 ⟨⟨by have := h.bs.len; simp; omega, by have := h.bs.cap; omega, h.bs.max, h.bs.nil, fun h0 => by
  obtain ⟨b, o, hA, hb, hc⟩ := h.bs.cells (by omega)
  exact ⟨b, o, hA, hb, fun j hj => by rw [hc j (by simp at hj; omega)]; simp⟩⟩, fun ad hA h0 => h.apart ad hA (by omega), by have := h.fit; omega⟩
theorem BsV.chg (h : BsV w M v l) (hc : Chg S w w') (hS : ∀ k, S k → M k) (hM : ∀ k, M' k → M k ∨ w.heap.size ≤ k) : BsV w' M' v l := by
 obtain ⟨A, n, c, rfl, hb⟩ := h
 exact ⟨A, n, c, rfl, hb.chg hc hS hM⟩
end
abbrev Hd4 := Int × Int × Int × Option Addr × Nat × Nat
def hd4 (x : Hd4) : List Value := [.int .i64 x.1, .int .i64 x.2.1, .int .i64 x.2.2.1, .slice x.2.2.2.1 x.2.2.2.2.1 x.2.2.2.2.2]
def trCells : List Hd4 → List Value
 | [] => []
 | x :: r => hd4 x ++ trCells r
theorem trCells_append : ∀ L M : List Hd4, trCells (L ++ M) = trCells L ++ trCells M
 | [], M => rfl
 | x :: r, M => by simp [trCells, trCells_append r M]
theorem hd4_one (x : Hd4) : ∀ u ∈ hd4 x, u.oneCell' = true := by
 intro u hu
 simp only [hd4, List.mem_cons, List.not_mem_nil, or_false] at hu
 rcases hu with rfl | rfl | rfl | rfl <;> rfl
structure Tr where
 kind : Int
 pl : Int
 slot : Int
 bytes : List UInt8
structure TrOk (t : Tr) : Prop where
 kind : t.kind = 1 ∨ t.kind = 2 ∨ t.kind = 3 ∧ t.slot = 0 ∨ t.kind = 4 ∧ t.slot = 0 ∨ t.kind = 5 ∧ t.pl = 0 ∧ t.slot = 0 ∧ t.bytes = []
 pl : (Lit.int .i64 t.pl).wf = true
 slot : (Lit.int .i64 t.slot).wf = true
structure TrH (w : World) (M : Nat → Prop) (x : Hd4) (t : Tr) : Prop where
 ok : TrOk t
 kind : x.1 = t.kind
 pl : x.2.1 = t.pl
 slot : x.2.2.1 = t.slot
 bytes : BsM w M x.2.2.2.1 x.2.2.2.2.1 x.2.2.2.2.2 t.bytes
structure TrL (w : World) (M : Nat → Prop) (L : List Hd4) (tr : List Tr) : Prop where
 len : L.length = tr.length
 each : ∀ j (h : j < L.length), TrH w M L[j] (tr[j]'(by have := len; omega))
section
variable {S M M' : Nat → Prop} {w w' : World} {x : Hd4} {t : Tr} {L : List Hd4} {tr : List Tr}
theorem TrH.chg (h : TrH w M x t) (hc : Chg S w w') (hS : ∀ k, S k → M k) (hM : ∀ k, M' k → M k ∨ w.heap.size ≤ k) : TrH w' M' x t := ⟨h.ok, h.kind, h.pl, h.slot, h.bytes.chg hc hS hM⟩
theorem TrL.chg (h : TrL w M L tr) (hc : Chg S w w') (hS : ∀ k, S k → M k) (hM : ∀ k, M' k → M k ∨ w.heap.size ≤ k) : TrL w' M' L tr := ⟨h.len, fun j hj => (h.each j hj).chg hc hS hM⟩
theorem TrL.nil (w : World) (M : Nat → Prop) : TrL w M [] [] := ⟨rfl, fun j h => absurd h (by simp)⟩
theorem TrL.snoc (h : TrL w M L tr) (hx : TrH w M x t) : TrL w M (L ++ [x]) (tr ++ [t]) := by
 have hl := h.len
 refine ⟨by simp [hl], fun j hj => ?_⟩
 by_cases hjl : j < L.length
 ·simp only [List.getElem_append_left hjl, List.getElem_append_left (show j < tr.length by omega)]
  exact h.each j hjl
 ·have e : j = L.length := by simp at hj; omega
  subst e
  simp only [List.getElem_append_right (Nat.le_refl _), Nat.sub_self, List.getElem_cons_zero]
  have e2 : (tr ++ [t])[L.length]'(by simp; omega) = t := by
   rw [List.getElem_append_right (by omega)]; simp [hl]
  rw [e2]
  exact hx
end
structure Wd where
 n : Nat
 sl : Int × Int → List UInt8
 s0 : List UInt8
 s1 : List UInt8
 ctr : Nat
 lim : Bool
 lost : Bool
 left : Nat
 reads : Nat
 lies : Int → Option (List UInt8)
 nl : Nat
 tr : List Tr
structure Ad where
 ms : Nat
 ml : Option Nat
 v0 : Value
 v1 : Value
 vt : Value
def wdCells (ad : Ad) (t : Wd) : List Value :=
 [.map (some ad.ms), ad.v0, ad.v1, .int .u64 (t.ctr : Int), .bool t.lim, .bool t.lost, .int .i64 (t.left : Int), .int .i64 (t.reads : Int), .map ad.ml, ad.vt]
def okI (z : Int) : Prop := (Lit.int .i64 z).wf = true
def kvI (z : Int) : Value := .int .i64 z
def okP (x : Int × Int) : Prop := (Lit.int .i64 x.1).wf = true ∧ (Lit.int .i64 x.2).wf = true
def kvP (x : Int × Int) : Value := .agg #[.int .i64 x.1, .int .i64 x.2]
theorem keyI : KeyT Tryz.prog 3 kvI okI :=
 ⟨Maps.int_keyed Tryz.underlying3, fun x hx => ⟨_, Maps.keyOf_int_mk Tryz.underlying3 hx⟩, fun x y h => by injection h⟩
theorem keyP : KeyT Tryz.prog 113 kvP okP := by
 refine ⟨Maps.Keyed.of_law (deep_law_laid (m := 5) (by kernel_rfl) (by decide) (of_decide_eq_true (by kernel_rfl)) (by kernel_rfl) (by kernel_rfl)), fun x hx => ?_, fun x y h => ?_⟩
 ·obtain ⟨h1, h2⟩ := hx
  have e1 : (Tryz.prog).keyType 113 = true := by kernel_rfl
  have e2 : (Tryz.prog).cellsOf 113 = 2 := by kernel_rfl
  have e5 : decide ((Tryz.prog).types.size = 0) = false := by kernel_rfl
  have e3 : ∃ m, (Tryz.prog).types.size = m + 1 := ⟨(Tryz.prog).types.size - 1, by have := of_decide_eq_false e5; omega⟩
  have e4 : (Tryz.prog).cellsOf 3 = 1 := by kernel_rfl
  obtain ⟨m, hm⟩ := e3
  refine ⟨.string (keyBytes [.int .i64 x.1, .int .i64 x.2]), ?_⟩
  unfold keyOf kvP
  simp only [Tryz.underlying113]
  rw [if_pos (by simp [e1, Value.formed, Tryz.underlying113, e2]), hm]
  unfold Program.keyLits
  simp only [Tryz.underlying113, Value.cells]
  rw [if_pos ⟨by rw [e2]; rfl, by simp⟩]
  simp [e4, Program.keyLits, Tryz.underlying3, h1, h2]
 ·simp only [kvP, Value.agg.injEq, Array.mk.injEq, List.cons.injEq, Value.int.injEq] at h
  exact Prod.ext h.1.2 h.2.1.2
def inR (n : Nat) (x : Int × Int) : Bool := decide (0 ≤ x.1) && decide (x.1 < (n : Int)) && decide (0 ≤ x.2) && decide (x.2 < 2)
def ptr (g : Nat) : Value := .pointer (some ⟨g, 0, none⟩)
structure Sl (w : World) (O : Nat → Prop) (ms n : Nat) (sl : Int × Int → List UInt8) (p : Int × Int → Option Nat) : Prop where
 om : O ms
 map : MapI w Tryz.prog 113 kvP okP ms (2 * n) (fun x => (p x).map ptr)
 has : ∀ x, (p x).isSome = inR n x
 own : ∀ x g, p x = some g → O g
 blk : ∀ x g, p x = some g → Blk w g 111 (cells8 (sl x))
 len : ∀ x g, p x = some g → (sl x).length = 272
 inj : ∀ x y g, p x = some g → p y = some g → x = y
def LieAt (w : World) (M : Nat → Prop) : Option Value → Option (List UInt8) → Prop
 | none, none => True
 | some v, some l => BsV w M v l
 | _, _ => False
def Li (w : World) (O M : Nat → Prop) (ml : Option Nat) (lies : Int → Option (List UInt8)) (nl : Nat) : Prop :=
 (ml = none ∧ ∀ z, okI z → lies z = none) ∨ ∃ g m f, ml = some g ∧ O g ∧ MapI w Tryz.prog 3 kvI okI g m f ∧ m ≤ nl ∧ ∀ z, okI z → LieAt w M (f z) (lies z)
structure Tc (w : World) (O M : Nat → Prop) (vt : Value) (tr : List Tr) (L : List Hd4) : Prop where
 own : w.ownsRow 0 131 4 vt tr.length (trCells L)
 mine : ∀ g, vt.ownBlock = some g → O g
 heads : TrL w M L tr
structure Parts (w : World) (O M : Nat → Prop) (b : Nat) (ad : Ad) (t : Wd) (p : Int × Int → Option Nat) (L : List Hd4) : Prop where
 sub : ∀ k, O k → M k
 lt : ∀ k, M k → k < w.heap.size
 ob : O b
 blk : Blk w b 108 (wdCells ad t)
 slots : Sl w O ad.ms t.n t.sl p
 lies : Li w O M ad.ml t.lies t.nl
 seal0 : BsV w M ad.v0 t.s0
 seal1 : BsV w M ad.v1 t.s1
 trace : Tc w O M ad.vt t.tr L
 big : t.n ≤ 4096
 pow : t.left ≤ 1000000
 num : t.ctr < 18446744073709551616
 read : t.reads ≤ 2000000
 two : ad.ml ≠ some ad.ms
def WIs (w : World) (O M : Nat → Prop) (b : Nat) (t : Wd) : Prop := ∃ ad p L, Parts w O M b ad t p L
structure Nx (w : World) (O : Nat → Prop) (w' : World) (O' : Nat → Prop) : Prop where
 chg : Chg O w w'
 sub : ∀ k, O k → O' k
 new : ∀ k, O' k → O k ∨ w.heap.size ≤ k
 lt : ∀ k, O' k → k < w'.heap.size
def Or2 (M O' : Nat → Prop) : Nat → Prop := fun k => M k ∨ O' k
section
variable {S O O' M M' : Nat → Prop} {w w' : World} {b : Nat} {ad : Ad} {t t' : Wd} {p : Int × Int → Option Nat} {L : List Hd4}
def IsMapB (w : World) (k : Nat) : Prop := ∃ es c, w.heap[k]? = some (.map es c)
def IsRow (w : World) (e : TypeId) (k : Nat) : Prop := ∃ cs, w.heap[k]? = some (.cells cs e (0, 0))
theorem IsMapB.ne {g : Nat} {e : TypeId} {k : Nat} (h : IsMapB w k) (hr : IsRow w e g) : k ≠ g := fun x => by
 subst x
 obtain ⟨_, _, h⟩ := h; obtain ⟨_, hr⟩ := hr
 rw [h] at hr; cases hr
theorem IsRow.ne {g k : Nat} {e e' : TypeId} (h : IsRow w e k) (hr : IsRow w e' g) (he : e ≠ e') : k ≠ g := fun x => by
 subst x
 obtain ⟨_, h⟩ := h; obtain ⟨_, hr⟩ := hr
 rw [h] at hr
 injection hr with hr
 injection hr with _ h2 _
 exact he h2
theorem Blk.row {g : Nat} {e : TypeId} {cs : List Value} (h : Blk w g e cs) : IsRow w e g := ⟨_, h.heap⟩
theorem Tc.row {vt : Value} {tr : List Tr} (h : Tc w O M vt tr L) {g : Nat} (hg : vt.ownBlock = some g) : IsRow w 131 g := by
 rcases h.own.2 with ⟨rfl, _⟩ | ⟨g', cap, cur, rfl, _, hh, _⟩
 ·cases hg
 ·obtain rfl : g' = g := Option.some.inj hg
  exact ⟨_, hh⟩
theorem Sl.stay {ms n : Nat} {sl : Int × Int → List UInt8} (h : Sl w O ms n sl p) (hO : ∀ k, O k → O' k) (hk : ∀ k, O k → IsMapB w k ∨ IsRow w 111 k → w'.heap[k]? = w.heap[k]?) : Sl w' O' ms n sl p :=
 ⟨hO _ h.om, h.map.stay (hk _ h.om (.inl h.map.heap)), h.has, fun x g hg => hO _ (h.own x g hg), fun x g hg => ⟨(hk g (h.own x g hg) (.inr (h.blk x g hg).row)).trans (h.blk x g hg).heap⟩, h.len, h.inj⟩
theorem LieAt.chg {f : Option Value} {l : Option (List UInt8)} (h : LieAt w M f l) (hc : Chg S w w') (hS : ∀ k, S k → M k) (hM : ∀ k, M' k → M k ∨ w.heap.size ≤ k) : LieAt w' M' f l := by
 cases f <;> cases l <;> simp only [LieAt] at h ⊢
 exact h.chg hc hS hM
theorem Li.stay {ml : Option Nat} {lies : Int → Option (List UInt8)} {nl : Nat} (h : Li w O M ml lies nl) (hO : ∀ k, O k → O' k) (hk : ∀ k, O k → IsMapB w k → w'.heap[k]? = w.heap[k]?) (hc : Chg S w w') (hS : ∀ k, S k → M k) (hM : ∀ k, M' k → M k ∨ w.heap.size ≤ k) : Li w' O' M' ml lies nl := by
 rcases h with h | ⟨g, m, f, h1, h2, h3, h4, h5⟩
 ·exact .inl h
 ·exact .inr ⟨g, m, f, h1, hO _ h2, h3.stay (hk g h2 h3.heap), h4, fun z hz => (h5 z hz).chg hc hS hM⟩
theorem Li.congr {ml : Option Nat} {lies lies' : Int → Option (List UInt8)} {nl : Nat} (h : Li w O M ml lies nl) (he : ∀ z, okI z → lies' z = lies z) : Li w O M ml lies' nl := by
 rcases h with ⟨h1, h2⟩ | ⟨g, m, f, h1, h2, h3, h4, h5⟩
 ·exact .inl ⟨h1, fun z hz => (he z hz).trans (h2 z hz)⟩
 ·exact .inr ⟨g, m, f, h1, h2, h3, h4, fun z hz => by rw [he z hz]; exact h5 z hz⟩
theorem own4_stay {base e size n : Nat} {v : Value} {xs : List Value} (h : w.ownsRow base e size v n xs) (hk : ∀ g, v.ownBlock = some g → w'.heap[g]? = w.heap[g]?) : w'.ownsRow base e size v n xs := by
 refine ⟨h.1, ?_⟩
 rcases h.2 with h1 | ⟨g, cap, cur, rfl, h2, h3, h4⟩
 ·exact .inl h1
 ·exact .inr ⟨g, cap, cur, rfl, h2, (hk g rfl).trans h3, h4⟩
theorem Tc.stay {vt : Value} {tr : List Tr} (h : Tc w O M vt tr L) (hO : ∀ k, O k → O' k) (hk : ∀ k, O k → IsRow w 131 k → w'.heap[k]? = w.heap[k]?) (hc : Chg S w w') (hS : ∀ k, S k → M k) (hM : ∀ k, M' k → M k ∨ w.heap.size ≤ k) : Tc w' O' M' vt tr L :=
 ⟨own4_stay h.own (fun g hg => hk g (h.mine g hg) (h.row hg)), fun g hg => hO _ (h.mine g hg), h.heads.chg hc hS hM⟩
theorem Parts.own (h : Parts w O M b ad t p L) (ho : Only b w w') (hk : Blk w' b 108 (wdCells ad t')) (hn : t'.n = t.n) (hs : t'.sl = t.sl) (h0 : t'.s0 = t.s0) (h1 : t'.s1 = t.s1) (hl : t'.lies = t.lies) (hnl : t'.nl = t.nl) (htr : t'.tr = t.tr)
  (hp : t'.left ≤ 1000000) (hc : t'.ctr < 18446744073709551616) (hr : t'.reads ≤ 2000000) : Parts w' O M b ad t' p L := by
 have C : Chg O w w' := Chg.of_only ho h.ob
 refine ⟨h.sub, fun k hk => Nat.lt_of_lt_of_le (h.lt k hk) C.size, h.ob, hk, ?_, ?_, ?_, ?_, ?_, by rw [hn]; exact h.big, hp, hc, hr, h.two⟩
 ·rw [hn, hs]
  refine h.slots.stay (fun _ h => h) (fun k _ hkk => ho.block k ?_)
  rcases hkk with hkk | hkk
  ·exact hkk.ne h.blk.row
  ·exact hkk.ne h.blk.row (by decide)
 ·rw [hl, hnl]; exact h.lies.stay (fun _ h => h) (fun k _ hkk => ho.block k (hkk.ne h.blk.row)) C h.sub (fun _ h => .inl h)
 ·rw [h0]; exact h.seal0.chg C h.sub (fun _ h => .inl h)
 ·rw [h1]; exact h.seal1.chg C h.sub (fun _ h => .inl h)
 ·rw [htr]; exact h.trace.stay (fun _ h => h) (fun k _ hkk => ho.block k (hkk.ne h.blk.row (by decide))) C h.sub (fun _ h => .inl h)
theorem Parts.chg (h : Parts w O M b ad t p L) (hc : Chg S w w') (hS : ∀ k, S k → ¬ O k) (hSM : ∀ k, S k → M k) (hM : ∀ k, M' k → M k ∨ w.heap.size ≤ k) (hMM : ∀ k, M k → M' k) (hlt : ∀ k, M' k → k < w'.heap.size) : Parts w' O M' b ad t p L := by
 have hk : ∀ k, O k → w'.heap[k]? = w.heap[k]? := fun k hk => hc.block k (h.lt _ (h.sub _ hk)) (fun e => hS k e hk)
 refine ⟨fun k hk => hMM _ (h.sub k hk), hlt, h.ob, ⟨(hk b h.ob).trans h.blk.heap⟩, h.slots.stay (fun _ h => h) (fun k h1 _ => hk k h1), h.lies.stay (fun _ h => h) (fun k h1 _ => hk k h1) hc hSM hM, h.seal0.chg hc hSM hM, h.seal1.chg hc hSM hM,
  h.trace.stay (fun _ h => h) (fun k h1 _ => hk k h1) hc hSM hM, h.big, h.pow, h.num, h.read, h.two⟩
theorem Parts.below (h : Parts w O M b ad t p L) (hb : Below w.heap.size w w') : Parts w' O M b ad t p L :=
 h.chg (S := fun _ => False) (Chg.of_below _ hb) (fun _ h => h.elim) (fun _ h => h.elim) (fun _ h => .inl h) (fun _ h => h) (fun k hk => Nat.lt_of_lt_of_le (h.lt k hk) hb.size)
theorem Parts.lied (h : Parts w O M b ad t p L) {g m : Nat} {f : Int → Option Value} {lies : Int → Option (List UInt8)} {nl : Nat} (hg : ad.ml = some g) (ho : Only g w w') (hI : MapI w' Tryz.prog 3 kvI okI g m f) (hm : m ≤ nl) (hf : ∀ z, okI z → LieAt w M (f z) (lies z)) : Parts w' O M b ad { t with lies := lies, nl := nl } p L := by
 have hgm : IsMapB w g ∧ O g := by
  rcases h.lies with ⟨h1, _⟩ | ⟨g', m', f', h1, h2, h3, _⟩
  ·rw [hg] at h1; cases h1
  ·rw [hg] at h1
   obtain rfl := Option.some.inj h1
   exact ⟨h3.heap, h2⟩
 have hne : ad.ms ≠ g := fun e => h.two (by rw [hg, e])
 have C : Chg O w w' := Chg.of_only ho hgm.2
 refine ⟨h.sub, fun k hk => Nat.lt_of_lt_of_le (h.lt k hk) C.size, h.ob, h.blk.only ho (fun e => hgm.1.ne h.blk.row e.symm), ?_, ?_, h.seal0.chg C h.sub (fun _ h => .inl h), h.seal1.chg C h.sub (fun _ h => .inl h), ?_, h.big, h.pow, h.num, h.read, h.two⟩
 ·exact ⟨h.slots.om, h.slots.map.stay (ho.block _ hne), h.slots.has, h.slots.own, fun x k hk => (h.slots.blk x k hk).only ho (fun e => hgm.1.ne (h.slots.blk x k hk).row e.symm), h.slots.len, h.slots.inj⟩
 ·exact .inr ⟨g, m, f, hg, hgm.2, hI, hm, fun z hz => (hf z hz).chg C h.sub (fun _ h => .inl h)⟩
 ·exact h.trace.stay (fun _ h => h) (fun k _ hkk => ho.block k (fun e => hgm.1.ne hkk e.symm)) C h.sub (fun _ h => .inl h)
theorem Nx.refl (O : Nat → Prop) (w : World) (h : ∀ k, O k → k < w.heap.size) : Nx w O w O := ⟨Chg.refl _ _, fun _ h => h, fun _ h => .inl h, h⟩
theorem Nx.same (hc : Chg O w w') (h : ∀ k, O k → k < w.heap.size) : Nx w O w' O := ⟨hc, fun _ h => h, fun _ h => .inl h, fun k hk => Nat.lt_of_lt_of_le (h k hk) hc.size⟩
theorem Nx.trans {w2 : World} {O2 : Nat → Prop} (h : Nx w O w' O') (h2 : Nx w' O' w2 O2) : Nx w O w2 O2 :=
 ⟨h.chg.trans h2.chg (fun k hk ho => (h.new k ho).elim id (fun h1 => absurd hk (by omega))), fun k hk => h2.sub k (h.sub k hk), fun k hk => by
  rcases h2.new k hk with h1 | h1
  ·exact h.new k h1
  ·exact .inr (Nat.le_trans h.chg.size h1), h2.lt⟩
theorem or2_lt (h : ∀ k, M k → k < w.heap.size) (hx : Nx w O w' O') : ∀ k, Or2 M O' k → k < w'.heap.size := fun k hk => by
 rcases hk with h1 | h1
 ·exact Nat.lt_of_lt_of_le (h k h1) hx.chg.size
 ·exact hx.lt k h1
theorem or2_new (hs : ∀ k, O k → M k) (hx : Nx w O w' O') : ∀ k, Or2 M O' k → M k ∨ w.heap.size ≤ k := fun k hk => by
 rcases hk with h1 | h1
 ·exact .inl h1
 ·rcases hx.new k h1 with h2 | h2
  ·exact .inl (hs k h2)
  ·exact .inr h2
theorem BsM.nx {A : Option Addr} {n c : Nat} {l : List UInt8} (h : BsM w M A n c l) (hs : ∀ k, O k → M k) (hx : Nx w O w' O') : BsM w' (Or2 M O') A n c l := h.chg hx.chg hs (or2_new hs hx)
end
end Go.Proofs.YtcehkafddlfleaaGreatDoor

namespace Go.Proofs.YtcehkafddlfleaaGreatDoor
open Go.RowKit
set_option maxRecDepth 100000 in
set_option maxHeartbeats 400000 in
theorem clone_any (A : Option Addr) (n c : Nat) (l : List UInt8) (w : World) (ha : Bs w w.heap.size A n c l) (hn : n ≤ 4294967296) :
  Calls Tryz.prog 57 #[.slice A n c] w fun e w' => ∃ v, e = .returned v ∧ w'.ownsRow w.heap.size 5 1 v n (cells8 l) ∧ Below w.heap.size w w' := by
 have HA : Kp _ := ⟨ha⟩
 have HL : Kp _ := ⟨ha.len⟩
 have heq := fun w => Lib.run_eql_slice_nil (P := Tryz.prog) w 29 5 A n c 0 0 Tryz.underlying29
 cases hA : A with
 | none =>
  have h0 : n = 0 := by have := ha.nil hA; have := ha.cap; omega
  have hl : l = [] := List.eq_nil_of_length_eq_zero (by have := ha.len; omega)
  have hc : c = 0 := ha.nil hA
  rw [hA] at heq
  clear ha HA HL hA
  subst h0 hl hc
  go_enter Tryz.func57, Tryz.ntmps57
  go_wp2
  go_ret
  exact ⟨_, rfl, own_nil _ _ _, Below.refl _ _⟩
 | some ad =>
  subst hA
  clear ha
  have hb1 : Below w.heap.size w (w.alloc (.cells #[] 5)) := (Below.refl _ _).alloc (Nat.le_refl _) _
  have HO : Kp ((w.alloc (.cells #[] 5)).ownsRow w.heap.size 5 1 (.slice (some ⟨w.heap.size, 0, none⟩) 0 0) 0 []) :=
   ⟨rfl, .inr ⟨w.heap.size, 0, #[], rfl, Nat.le_refl _, by show (w.heap.push _)[w.heap.size]? = _; simp, Nat.le_refl _, Nat.zero_le _, rfl, rfl⟩⟩
  have HA1 : Kp _ := ⟨HA.out.below hb1⟩
  go_enter Tryz.func57, Tryz.ntmps57
  go_wp2_with (at_builtin; refine wpList_app el8 rfl _ _ rfl w.heap.size _ 0 [] rfl HO.out (some ad) n c (cells8 l) rfl (by rw [cells8_length, HL.out]) (fun h => by cases h) HA1.out.news (cells8_one _) (by simp only [maxLen]; omega) (by omega) (by simp) ?_)
  intro v2 w2 hown2 hg2 _
  have hb2 : Below w.heap.size w w2 := hb1.trans (below_of_grown HO.out (by simp) hg2)
  have H2 : Kp (w2.ownsRow w.heap.size 5 1 v2 n (cells8 l)) := ⟨by simpa using hown2⟩
  clear hown2 hg2
  go_wp2
  go_ret
  exact ⟨_, rfl, H2.out, hb2⟩
end Go.Proofs.YtcehkafddlfleaaGreatDoor

namespace Go.Proofs.YtcehkafddlfleaaGreatDoor
open Go.RowKit
def takeOk (t : Wd) : Bool := !t.lim || decide (0 < t.left)
def takeW (t : Wd) : Wd := if t.lim = true then (if t.left = 0 then { t with lost := true } else { t with left := t.left - 1 }) else t
set_option maxHeartbeats 400000 in
theorem take_any (b : Nat) (ad : Ad) (t : Wd) (w : World) (hb : Blk w b 108 (wdCells ad t)) (hp : t.left ≤ 1000000) :
  Calls Tryz.prog 189 #[.pointer (some ⟨b, 4, none⟩)] w fun e w' => e = .returned (.bool (takeOk t)) ∧ Blk w' b 108 (wdCells ad (takeW t)) ∧ Only b w w' := by
 have c4 : w.cell? ⟨b, 4, none⟩ = some (.bool t.lim) := by rw [hb.cell? 4]; rfl
 have c5 : w.cell? ⟨b, 5, none⟩ = some (.bool t.lost) := by rw [hb.cell? 5]; rfl
 have c6 : w.cell? ⟨b, 6, none⟩ = some (.int .i64 (t.left : Int)) := by rw [hb.cell? 6]; rfl
 have f5 := hb.frozen 5
 have f6 := hb.frozen 6
 have HB : Kp _ := ⟨hb⟩
 have HP : Kp _ := ⟨hp⟩
 clear hb hp
 by_cases hl : t.lim = true
 ·rw [hl] at c4
  by_cases h0 : t.left = 0
  ·have hi : ((t.left : Int) == 0) = true := by rw [beq_iff_eq]; omega
   have HL : Kp _ := ⟨hl⟩
   have H0 : Kp _ := ⟨h0⟩
   clear hl h0
   go_enter Tryz.func189, Tryz.ntmps189
   go_wp2
   go_ret
   have e : takeW t = { t with lost := true } := by unfold takeW; rw [if_pos HL.out, if_pos H0.out]
   refine ⟨by unfold takeOk; rw [HL.out, H0.out]; rfl, ?_, Only.setCell w ⟨b, 5, none⟩ _⟩
   rw [e]
   exact HB.out.set 5 (.bool true)
  ·have hi : ((t.left : Int) == 0) = false := by rw [beq_eq_false_iff_ne]; omega
   obtain ⟨m, hm⟩ : ∃ m, t.left = m + 1 := ⟨t.left - 1, by omega⟩
   have hw2 : wrap64 ((t.left : Int) - 1) = (m : Int) := by rw [show (t.left : Int) - 1 = (m : Int) by omega]; have := HP.out; unfold wrap64; omega
   have HL : Kp _ := ⟨hl⟩
   have H0 : Kp _ := ⟨hm⟩
   clear hl h0 hm
   go_enter Tryz.func189, Tryz.ntmps189
   go_wp2
   go_ret
   have e : takeW t = { t with left := m } := by unfold takeW; rw [if_pos HL.out, if_neg (by have := H0.out; omega), H0.out]; rfl
   refine ⟨by unfold takeOk; rw [HL.out, H0.out]; rfl, ?_, Only.setCell w ⟨b, 6, none⟩ _⟩
   rw [e]
   exact HB.out.set 6 (.int .i64 (m : Int))
 ·have hl' : t.lim = false := by simpa using hl
  rw [hl'] at c4
  have HL : Kp _ := ⟨hl'⟩
  clear hl hl'
  go_enter Tryz.func189, Tryz.ntmps189
  go_wp2
  go_ret
  have e : takeW t = t := by unfold takeW; rw [if_neg (by rw [HL.out]; decide)]
  rw [e]
  exact ⟨by unfold takeOk; rw [HL.out]; rfl, HB.out, Only.refl _ _⟩
end Go.Proofs.YtcehkafddlfleaaGreatDoor

namespace Go.Proofs.YtcehkafddlfleaaGreatDoor
open Go.RowKit
set_option maxHeartbeats 400000 in
theorem runs_any (b : Nat) (ad : Ad) (t : Wd) (w : World) (hb : Blk w b 108 (wdCells ad t)) :
  Calls Tryz.prog 120 #[.pointer (some ⟨b, 0, none⟩)] w fun e w' => e = .returned (.bool (!t.lost)) ∧ w' = w := by
 have c5 : w.cell? ⟨b, 5, none⟩ = some (.bool t.lost) := by rw [hb.cell? 5]; rfl
 clear hb
 go_enter Tryz.func120, Tryz.ntmps120
 go_wp2
 go_ret
 exact ⟨rfl, rfl⟩
set_option maxHeartbeats 400000 in
theorem dead_any (b : Nat) (ad : Ad) (t : Wd) (w : World) (hb : Blk w b 108 (wdCells ad t)) :
  Calls Tryz.prog 88 #[.pointer (some ⟨b, 0, none⟩)] w fun e w' => e = .returned (.bool t.lost) ∧ w' = w := by
 have c5 : w.cell? ⟨b, 5, none⟩ = some (.bool t.lost) := by rw [hb.cell? 5]; rfl
 clear hb
 go_enter Tryz.func88, Tryz.ntmps88
 go_wp2
 go_ret
 exact ⟨rfl, rfl⟩
def slotV (t : Wd) (p : Int × Int → Option Nat) (x : Int × Int) : Value := if t.lost = true then .pointer none else ((p x).map ptr).getD (.pointer none)
set_option maxHeartbeats 400000 in
theorem wslot_any {O M : Nat → Prop} {b : Nat} {ad : Ad} {t : Wd} {p : Int × Int → Option Nat} {L : List Hd4} {w : World} (h : Parts w O M b ad t p L) (x y : Int) (hx : okP (x, y)) :
  Calls Tryz.prog 197 #[.pointer (some ⟨b, 0, none⟩), .int .i64 x, .int .i64 y] w fun e w' => e = .returned (slotV t p (x, y)) ∧ w' = w := by
 have c0 : w.cell? ⟨b, 0, none⟩ = some (.map (some ad.ms)) := by rw [h.blk.cell? 0]; rfl
 have HB : Kp _ := ⟨h.blk⟩
 have HM : Kp _ := ⟨h.slots.map⟩
 have HX : Kp _ := ⟨hx⟩
 clear h hx
 by_cases hl : t.lost = true
 ·go_enter Tryz.func197, Tryz.ntmps197
  go_wp2_with fail
  refine (runs_any b ad t w HB.out).mono ?_
  rintro e w1 ⟨rfl, rfl⟩
  go_wp2
  go_ret
  exact ⟨by unfold slotV; rw [if_pos hl]; rfl, rfl⟩
 ·have hl' : t.lost = false := by simpa using hl
  go_enter Tryz.func197, Tryz.ntmps197
  go_wp2_with fail
  refine (runs_any b ad t w HB.out).mono ?_
  rintro e w1 ⟨rfl, rfl⟩
  go_wp2_with (with_reducible refine wpList_lookI (o := ⟨some 17, _, _, _, _, _⟩) HM.out keyP rfl (.tmp 13) (.tmp 16) rfl Tryz.underlying97 (z := .pointer none) (by kernel_rfl) rfl (x, y) HX.out rfl ?_)
  go_ret
  exact ⟨by unfold slotV; rw [if_neg hl]; rfl, rfl⟩
set_option maxHeartbeats 400000 in
theorem hasSeal_any (b : Nat) (ad : Ad) (t : Wd) (w : World) (hb : Blk w b 108 (wdCells ad t)) (i : Int) :
  Calls Tryz.prog 147 #[.pointer (some ⟨b, 0, none⟩), .int .i64 i] w fun e w' => e = .returned (.bool (!t.lost && (decide (0 ≤ i) && decide (i < 2)))) ∧ w' = w := by
 have HB : Kp _ := ⟨hb⟩
 clear hb
 cases hl : t.lost
 ·rcases (by omega : i < 0 ∨ (0 ≤ i ∧ i < 2) ∨ 2 ≤ i) with h | ⟨h, h2⟩ | h
  all_goals
   go_enter Tryz.func147, Tryz.ntmps147
   go_wp2_with fail
   refine (runs_any b ad t w HB.out).mono ?_
   rintro e w1 ⟨rfl, rfl⟩
   go_wp2
   go_ret
   refine ⟨?_, rfl⟩
   simp
   try omega
 ·go_enter Tryz.func147, Tryz.ntmps147
  go_wp2_with fail
  refine (runs_any b ad t w HB.out).mono ?_
  rintro e w1 ⟨rfl, rfl⟩
  go_wp2
  go_ret
  exact ⟨rfl, rfl⟩
end Go.Proofs.YtcehkafddlfleaaGreatDoor

namespace Go.Proofs.YtcehkafddlfleaaGreatDoor
open Go.RowKit
def layK (t : Wd) (n : Nat) : Nat := if t.lim = true then min n t.left else n
def layW (t : Wd) (n : Nat) : Wd := if t.lim = true then (if n ≤ t.left then { t with left := t.left - n } else { t with left := 0, lost := true }) else t
theorem layK_le (t : Wd) (n : Nat) : layK t n ≤ n := by unfold layK; split <;> omega
theorem layW_zero (t : Wd) : layW t 0 = t := by unfold layW; split <;> simp
theorem layK_zero (t : Wd) : layK t 0 = 0 := by unfold layK; split <;> simp
theorem lay_more (t : Wd) (n : Nat) (h : takeOk t = true) : layK t (n + 1) = layK (takeW t) n + 1 ∧ layW t (n + 1) = layW (takeW t) n := by
 unfold takeOk at h
 by_cases hl : t.lim = true
 ·rw [hl] at h
  have h0 : 0 < t.left := by simpa using h
  have e : takeW t = { t with left := t.left - 1 } := by unfold takeW; rw [if_pos hl, if_neg (by omega)]
  rw [e]
  unfold layK layW
  simp only [hl, if_true]
  refine ⟨by omega, ?_⟩
  by_cases hn : n + 1 ≤ t.left
  ·rw [if_pos hn, if_pos (by omega)]
   congr 1; omega
  ·rw [if_neg hn, if_neg (by omega)]
 ·have e : takeW t = t := by unfold takeW; rw [if_neg hl]
  rw [e]
  unfold layK layW
  simp [hl]
theorem lay_none (t : Wd) (n : Nat) (h : takeOk t = false) : layK t (n + 1) = 0 ∧ layW t (n + 1) = takeW t := by
 unfold takeOk at h
 by_cases hl : t.lim = true
 ·rw [hl] at h
  have h0 : t.left = 0 := by simpa using h
  have e : takeW t = { t with lost := true } := by unfold takeW; rw [if_pos hl, if_pos h0]
  rw [e]
  unfold layK layW
  simp only [hl, if_true]
  refine ⟨by omega, ?_⟩
  rw [if_neg (by omega)]
  cases t; simp at h0; simp [h0]
 ·simp [hl] at h
theorem takeW_left (t : Wd) (h : t.left ≤ 1000000) : (takeW t).left ≤ 1000000 := by
 unfold takeW
 split
 ·split
  ·exact h
  ·simp; omega
 ·exact h
def laid (l old : List UInt8) (k : Nat) : List UInt8 := l.take k ++ old.drop k
theorem laid_zero (l old : List UInt8) : laid l old 0 = old := by simp [laid]
theorem laid_length (l old : List UInt8) (k : Nat) (h1 : k ≤ l.length) (h2 : k ≤ old.length) : (laid l old k).length = old.length := by simp [laid]; omega
theorem laid_set (l old : List UInt8) (k : Nat) (h1 : k < l.length) (h2 : k < old.length) : (cells8 (laid l old k)).set k (.int .u8 (l[k].toNat : Int)) = cells8 (laid l old (k + 1)) := by
 unfold laid
 have hl : (cells8 (l.take k)).length = k := by rw [cells8_length]; simp; omega
 rw [cells8_append, List.set_append_right _ _ (by omega), hl, Nat.sub_self, cells8_append, List.take_succ_eq_append_getElem h1, cells8_append]
 rw [List.drop_eq_getElem_cons h2]
 show _ ++ (Value.int .u8 (old[k].toNat : Int) :: cells8 (old.drop (k + 1))).set 0 _ = _
 rw [List.set_cons_zero, List.append_assoc]
 rfl
structure Two6 (b g : Nat) (w w' : World) : Prop where
 os : w'.os = w.os
 tape : w'.tape = w.tape
 output : w'.output = w.output
 size : w'.heap.size = w.heap.size
 block : ∀ k, k ≠ b → k ≠ g → w'.heap[k]? = w.heap[k]?
theorem Two6.refl (b g : Nat) (w : World) : Two6 b g w w := ⟨rfl, rfl, rfl, rfl, fun _ _ _ => rfl⟩
theorem Two6.first {b g : Nat} {w w' w2 : World} (h : Two6 b g w w') (h2 : Only b w' w2) : Two6 b g w w2 :=
 ⟨h2.os.trans h.os, h2.tape.trans h.tape, h2.output.trans h.output, h2.size.trans h.size, fun k h3 h4 => (h2.block k h3).trans (h.block k h3 h4)⟩
theorem Two6.second {b g : Nat} {w w' w2 : World} (h : Two6 b g w w') (h2 : Only g w' w2) : Two6 b g w w2 :=
 ⟨h2.os.trans h.os, h2.tape.trans h.tape, h2.output.trans h.output, h2.size.trans h.size, fun k h3 h4 => (h2.block k h4).trans (h.block k h3 h4)⟩
structure BsT (w : World) (b g : Nat) (A : Option Addr) (n c : Nat) (l : List UInt8) : Prop where
 bs : Bs w w.heap.size A n c l
 apart : ∀ ad, A = some ad → 0 < n → ad.block ≠ b ∧ ad.block ≠ g
theorem BsT.two {b g : Nat} {w w' : World} {A : Option Addr} {n c : Nat} {l : List UInt8} (h : BsT w b g A n c l) (h2 : Two6 b g w w') : BsT w' b g A n c l := by
 refine ⟨⟨h.bs.len, h.bs.cap, h.bs.max, h.bs.nil, fun h0 => ?_⟩, h.apart⟩
 obtain ⟨k, o, hA, hb, hc⟩ := h.bs.cells h0
 obtain ⟨n1, n2⟩ := h.apart _ hA h0
 refine ⟨k, o, hA, by rw [h2.size]; exact hb, fun j hj => ?_⟩
 rw [← hc j hj]
 exact World.cell?_of_block (w := w) (h2.block k n1 n2)
set_option maxHeartbeats 1000000 in
theorem lay_any (b g : Nat) (hbg : b ≠ g) (ad : Ad) (t : Wd) (e : TypeId) (A : Option Addr) (n c N C : Nat) (l old : List UInt8) (w : World) (hb : Blk w b 108 (wdCells ad t)) (hp : t.left ≤ 1000000)
  (hg : Blk w g e (cells8 old)) (hN : old.length = N) (hl : BsT w b g A n c l) (hn : n ≤ N) (hN1 : N ≤ 4294967296) :
  Calls Tryz.prog 198 #[.pointer (some ⟨b, 4, none⟩), .slice (some ⟨g, 0, none⟩) N C, .slice A n c] w fun e' w' =>
   e' = .returned (.int .i64 (layK t n : Int)) ∧ Blk w' b 108 (wdCells ad (layW t n)) ∧ Blk w' g e (cells8 (laid l old (layK t n))) ∧ Two6 b g w w' := by
 have HB : Kp _ := ⟨hb⟩
 have HP : Kp _ := ⟨hp⟩
 have HG : Kp _ := ⟨hg⟩
 have HN : Kp _ := ⟨hN⟩
 have HL : Kp _ := ⟨hl⟩
 have HLn : Kp (l.length = n) := ⟨hl.bs.len⟩
 clear hb hp hg hN hl
 go_enter Tryz.func198, Tryz.ntmps198
 go_wp2
 go_step3
 go_wp2
 go_step3
 go_wp2
 go_loopg [7, 12] n (fun gk v7 v12 wr => ∃ i : Nat, i + gk = n ∧ v7 = .int .i64 i ∧ v12 = .int .i64 i ∧ Kp (∃ tr, Blk wr b 108 (wdCells ad tr) ∧ tr.left ≤ 1000000 ∧ layK t n = i + layK tr (n - i) ∧ layW t n = layW tr (n - i)) ∧ Kp (Blk wr g e (cells8 (laid l old i))) ∧ Kp (Two6 b g w wr))
 case atStart => exact ⟨0, by omega, rfl, rfl, ⟨t, HB.out, HP.out, by simp, by simp⟩, by rw [laid_zero]; exact HG, ⟨Two6.refl _ _ _⟩⟩
 case round =>
  clear HB HG HP
  obtain ⟨i, hi, rfl, rfl, HT, HGr, HTw⟩ := hrel
  obtain ⟨tr, hbr, hpr, hk, hW⟩ := HT.out
  have HBr : Kp _ := ⟨hbr⟩
  have HPr : Kp _ := ⟨hpr⟩
  have HK : Kp _ := ⟨hk⟩
  have HW : Kp _ := ⟨hW⟩
  clear hbr hpr hk hW HT
  cases gk with
  | zero =>
   have hin : i = n := by omega
   have hlt : ¬ ((i : Int) < (n : Int)) := by omega
   have HE : Kp (layK t n = i ∧ layW t n = tr) := ⟨by
    have h1 := HK.out
    have h2 := HW.out
    rw [show n - i = 0 by omega, layK_zero] at h1
    rw [show n - i = 0 by omega, layW_zero] at h2
    exact ⟨h1, h2⟩⟩
   clear hin
   go_wp2
   go_ret
   refine ⟨?_, ?_, ?_, HTw.out⟩
   ·rw [HE.out.1]; rfl
   ·rw [HE.out.2]; exact HBr.out
   ·rw [HE.out.1]; exact HGr.out
  | succ g2 =>
   have hlt : (i : Int) < (n : Int) := by omega
   have hln : i < l.length := by rw [HLn.out]; omega
   obtain ⟨bl, ol, rfl, hbl, hcl⟩ := (HL.out.two HTw.out).bs.cells (by omega)
   have hci := hcl i hln
   have hap := HL.out.apart _ rfl (by omega)
   have HAp : Kp (bl ≠ b ∧ bl ≠ g) := ⟨hap⟩
   have HLo : Kp (i < (laid l old i).length) := ⟨by rw [laid_length _ _ _ (by omega) (by rw [HN.out]; omega), HN.out]; omega⟩
   have HI : Kp (i < l.length) := ⟨hln⟩
   have HX : Kp _ := ⟨laid_set l old i hln (by rw [HN.out]; omega)⟩
   generalize l[i] = x at *
   clear hcl hap hln
   go_wp2_with fail
   refine (take_any b ad tr _ HBr.out HPr.out).mono ?_
   rintro e1 w1 ⟨rfl, hb1, ho1⟩
   have HB1 : Kp _ := ⟨hb1⟩
   have HG1 : Kp _ := ⟨HGr.out.only ho1 (fun e => hbg e.symm)⟩
   have HT1 : Kp _ := ⟨HTw.out.first ho1⟩
   have cg : ∃ z, w1.cell? ⟨g, i, none⟩ = some (.int .u8 z) := by
    rw [HG1.out.cell? i, cells8_at _ _ HLo.out]; exact ⟨_, rfl⟩
   obtain ⟨z, cg⟩ := cg
   have fg := HG1.out.frozen i
   clear hb1 ho1 HBr HGr HTw hci hbl
   by_cases hto : takeOk tr = true
   ·have HM : Kp _ := ⟨lay_more tr (n - i - 1) hto⟩
    go_wp2
    go_roundg g2
    case measure => omega
    case rel =>
     have h1 := HM.out
     rw [show n - i - 1 + 1 = n - i by omega] at h1
     refine ⟨i + 1, by omega, by go_num, by go_num, ⟨takeW tr, ⟨(HB1.out.heap ▸ ?_)⟩, takeW_left _ HPr.out, ?_, ?_⟩, ⟨?_⟩, ⟨HT1.out.second (Only.setCell w1 ⟨g, i, none⟩ _)⟩⟩
     ·exact Below.heap_setCell _ _ _ _ hbg
     ·rw [HK.out, h1.1, show n - (i + 1) = n - i - 1 by omega]; omega
     ·rw [HW.out, h1.2, show n - (i + 1) = n - i - 1 by omega]
     ·have h2 := HG1.out.set i (.int .u8 (x.toNat : Int))
      rw [HX.out] at h2
      exact h2
   ·have hto' : takeOk tr = false := by simpa using hto
    have HM : Kp _ := ⟨lay_none tr (n - i - 1) hto'⟩
    clear hto cg fg
    have HE : Kp (layK t n = i ∧ layW t n = takeW tr) := ⟨by
     have h1 := HM.out
     rw [show n - i - 1 + 1 = n - i by omega] at h1
     exact ⟨by rw [HK.out, h1.1]; omega, by rw [HW.out, h1.2]⟩⟩
    clear HM HK HW
    go_wp2
    rw [Exit.noGoto_ret]
    go_ret
    refine ⟨?_, ?_, ?_, HT1.out⟩
    ·rw [HE.out.1]; rfl
    ·rw [HE.out.2]; exact HB1.out
    ·rw [HE.out.1]; exact HG1.out
end Go.Proofs.YtcehkafddlfleaaGreatDoor

namespace Go.Proofs.YtcehkafddlfleaaGreatDoor
open Go.RowKit
open Go.Maps (Keyed)
structure RngI (w : World) (P : Program) (k : TypeId) {κ : Type} (kv : κ → Value) (ok : κ → Prop) (b r n : Nat) (f : κ → Option Value) (todo : κ → Bool) (cnt : Nat) : Prop where
 is : ∃ (D : DataW Value) (left : Lit → Bool), w.ranges P k Rv b r n D left cnt ∧ Maps.size D = n ∧ (∀ x, ok x → ∀ kl, keyOf P k (kv x) = some kl → Maps.has D kl = (f x).isSome ∧ ∀ z, D.atKey kl (.held z) = .held ((f x).getD z)) ∧ ∀ x, ok x → ∀ kl, keyOf P k (kv x) = some kl → left kl = todo x
section
variable {P : Program} {w : World} {k t e : TypeId} {κ : Type} {kv : κ → Value} {ok : κ → Prop} {b r n cnt : Nat} {f : κ → Option Value} {todo : κ → Bool}
theorem RngI.stay {w' : World} (h : RngI w P k kv ok b r n f todo cnt) (hb : w'.heap[b]? = w.heap[b]?) (hr : w'.heap[r]? = w.heap[r]?) : RngI w' P k kv ok b r n f todo cnt := by
 obtain ⟨D, left, ⟨es, clock, since, seen, c0, h1, h2, h3, h4, h5, h6⟩, hs, hf, ht⟩ := h.is
 exact ⟨D, left, ⟨es, clock, since, seen, c0, hb.trans h1, h2, h3, h4, hr.trans h5, h6⟩, hs, hf, ht⟩
theorem RngI.left (h : RngI w P k kv ok b r n f todo cnt) : w.rangeLeft b r = cnt := by
 obtain ⟨D, left, h1, _⟩ := h.is
 exact h1.left_eq
theorem RngI.iter (h : RngI w P k kv ok b r n f todo cnt) : ∃ m s x c, w.heap[r]? = some (.mapIter m s x c) := by
 obtain ⟨D, left, ⟨es, clock, since, seen, c0, h1, h2, h3, h4, h5, h6⟩, hs, hf, ht⟩ := h.is
 exact ⟨_, _, _, _, h5⟩
theorem RngI.lt (h : RngI w P k kv ok b r n f todo cnt) : r < w.heap.size := by
 obtain ⟨m, s, x, c, hh⟩ := h.iter
 exact (Array.getElem?_eq_some_iff.1 hh).1
theorem RngI.map (h : RngI w P k kv ok b r n f todo cnt) : MapI w P k kv ok b n f := by
 obtain ⟨D, left, h1, hs, hf, _⟩ := h.is
 exact ⟨D, h1.owns, hs, hf⟩
variable {ops : Array Oper} {rest : List Oper} {o : Oper} {a : Act} {Q : Exit → Act → World → Prop}
end
end Go.Proofs.YtcehkafddlfleaaGreatDoor
