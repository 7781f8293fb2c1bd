/- Byte slices and lists of them as the walks read them: definitions and small lemmas; no program is named here.
   Arguments that came in, as the walks read them: byte slices, slices of numbers, lists of byte slices. No program is named here.
   Laws of the walk for append and make over rows of one-cell elements; no program is named here.
   Arrays and structs as whole blocks: laws of the walk for alloc, box, load and store of many cells at once; no program is named here. -/
import Derived.WalkKit
import Derived.WalkSpells
import Derived.WalkLawsBesides
import Derived.Lib.Hide
import Derived.Laws.BytesArg
import Derived.Laws.IdiomStrings
import Derived.Laws.CopyOwn
import Derived.Deep.Draws
import Derived.Deep.OwnRows
import Derived.Maps.AppendAt
import Derived.Deep.AppendLies
import Derived.ProofKit
import Derived.OpenShut
import Derived.ChangeOld
import Derived.Below
import Derived.Deep.Matrix
import Derived.SizedLaws
import Derived.Deep.MidRow
import Derived.Laws.CopyRow
import Derived.Still
namespace Go.Proofs.Ythpfiieaanioeaa
open Go.RowKit

/-- the cells of bytes -/
def cells8 (l : List UInt8) : List Value := l.map fun b => Value.int .u8 (b.toNat : Int)
theorem cells8_length (l : List UInt8) : (cells8 l).length = l.length := by simp [cells8]
theorem cells8_append (l m : List UInt8) : cells8 (l ++ m) = cells8 l ++ cells8 m := by simp [cells8]
theorem cells8_one (l : List UInt8) : ∀ u ∈ cells8 l, u.oneCell' = true := by
  intro u hu
  obtain ⟨_, _, rfl⟩ := List.mem_map.1 hu
  rfl
theorem cells8_at (l : List UInt8) (j : Nat) (h : j < l.length) : (cells8 l)[j]? = some (.int .u8 (l[j].toNat : Int)) := by
  simp [cells8, List.getElem?_eq_getElem h]
theorem cells8_some {l : List UInt8} {j : Nat} {u : Value} (h : (cells8 l)[j]? = some u) : ∃ hj : j < l.length, u = .int .u8 (l[j].toNat : Int) := by
  have hj : j < l.length := by
    have := (List.getElem?_eq_some_iff.1 h).1
    simpa [cells8] using this
  refine ⟨hj, ?_⟩
  rw [cells8_at l j hj] at h
  exact (Option.some.inj h).symm

/-- A slice of n of room c at A reads as the bytes l; its cells lie below block B. -/
structure Bs (w : World) (B : Nat) (A : Option Addr) (n c : Nat) (l : List UInt8) : Prop where
  len : l.length = n
  cap : n ≤ c
  max : c ≤ maxLen
  nil : A = none → c = 0
  cells : 0 < n → ∃ b o, A = some ⟨b, o, none⟩ ∧ b < B ∧ ∀ j (h : j < l.length), w.cell? ⟨b, o + j, none⟩ = some (.int .u8 (l[j].toNat : Int))

section
variable {w w' : World} {B B' : Nat} {A : Option Addr} {n c : Nat} {l : List UInt8}
theorem Bs.zero (w : World) (B : Nat) : Bs w B none 0 0 [] := ⟨rfl, Nat.le_refl _, Nat.zero_le _, fun _ => rfl, fun h => absurd h (by omega)⟩
theorem Bs.le (h : Bs w B A n c l) : n ≤ 9223372036854775807 := by have := h.cap; have := h.max; simp only [maxLen] at this; omega
theorem Bs.keep (h : Bs w B A n c l) (hk : ∀ p : Addr, p.block < B → w'.cell? p = w.cell? p) : Bs w' B A n c l :=
  ⟨h.len, h.cap, h.max, h.nil, fun h0 => by
    obtain ⟨b, o, hA, hb, hc⟩ := h.cells h0
    exact ⟨b, o, hA, hb, fun j hj => (hk _ hb).trans (hc j hj)⟩⟩
theorem Bs.more (h : Bs w B A n c l) (hB : B ≤ B') : Bs w B' A n c l :=
  ⟨h.len, h.cap, h.max, h.nil, fun h0 => by
    obtain ⟨b, o, hA, hb, hc⟩ := h.cells h0
    exact ⟨b, o, hA, by omega, hc⟩⟩
theorem Bs.below (h : Bs w B A n c l) (hb : Below B w w') : Bs w' B A n c l := h.keep fun _ hp => hb.cell hp
theorem Bs.below' (h : Bs w B A n c l) (hb : Below B' w w') (hB : B ≤ B') : Bs w' B A n c l := h.below (hb.mono hB)
theorem Bs.drew (h : Bs w B A n c l) : Bs w.drew B A n c l := h.keep fun _ _ => rfl
theorem Bs.drewN (h : Bs w B A n c l) (k : Nat) : Bs (w.drewN k) B A n c l := h.keep fun _ _ => rfl
theorem Bs.alloc (h : Bs w B A n c l) (hB : B ≤ w.heap.size) (o : Obj) : Bs (w.alloc o) B A n c l := h.below ((Below.refl _ _).alloc hB o)
theorem Bs.setCell (h : Bs w B A n c l) {p : Addr} (hB : B ≤ p.block) (u : Value) : Bs (w.setCell p u) B A n c l := h.below ((Below.refl _ _).setCell hB u)
theorem Bs.cell (h : Bs w B A n c l) {i : Nat} (hi : i < n) : ∃ b o, A = some ⟨b, o, none⟩ ∧ b < B ∧ w.cell? ⟨b, o + i, none⟩ = some (.int .u8 ((l[i]'(by have := h.len; omega)).toNat : Int)) := by
  obtain ⟨b, o, hA, hb, hc⟩ := h.cells (by omega)
  exact ⟨b, o, hA, hb, hc i (by have := h.len; omega)⟩
theorem Bs.news (h : Bs w B A n c l) : ∀ ad, A = some ad → ∀ j u, (cells8 l)[j]? = some u → w.cell? (ad.add j) = some u := by
  intro ad hA j u hu
  obtain ⟨hj, rfl⟩ := cells8_some hu
  obtain ⟨b, o, hA', _, hc⟩ := h.cells (by have := h.len; omega)
  rw [hA] at hA'
  obtain rfl := Option.some.inj hA'
  rw [Addr.add_lit]
  exact hc j hj
theorem Bs.of_own {base : Nat} {e : TypeId} {v : Value} (h : w.ownsRow base e 1 v n (cells8 l)) : ∃ A c, v = .slice A n c ∧ Bs w w.heap.size A n c l := by
  have hl : l.length = n := by have := h.1; rw [cells8_length] at this; omega
  rcases h.2 with ⟨rfl, rfl⟩ | ⟨g, cap, cur, rfl, hg, hh, hn, hm, hs, ht⟩
  · obtain rfl : l = [] := List.eq_nil_of_length_eq_zero hl
    exact ⟨none, 0, rfl, Bs.zero w _⟩
  · refine ⟨some ⟨g, 0, none⟩, cap, rfl, hl, hn, hm, (fun h => by cases h), fun h0 => ⟨g, 0, rfl, (Array.getElem?_eq_some_iff.1 hh).1, fun j hj => ?_⟩⟩
    have := h.cells (g := g) rfl j _ (cells8_at l j hj)
    rwa [Addr.add_lit] at this
/-- a piece of it -/
theorem Bs.cut (h : Bs w B A n c l) {i k : Nat} (hik : i ≤ k) (hk : k ≤ n) :
    Bs w B (if c = i then A else A.map (·.add i)) (k - i) (c - i) ((l.take k).drop i) := by
  have hl := h.len
  have hc := h.cap
  refine ⟨by simp; omega, by omega, by have := h.max; omega, fun hn => ?_, fun h0 => ?_⟩
  · by_cases e : c = i
    · omega
    · rw [if_neg e] at hn
      have : A = none := by simpa using hn
      have := h.nil this
      omega
  · obtain ⟨b, o, hA, hb, hcell⟩ := h.cells (by omega)
    refine ⟨b, o + i, ?_, hb, fun j hj => ?_⟩
    · rw [if_neg (by omega), hA]
      simp [Addr.add]
    · have hj' : i + j < l.length := by simp at hj; omega
      rw [Nat.add_assoc, hcell (i + j) hj']
      simp
/-- the text of it -/
theorem Bs.text {P : Program} (h : Bs w B A n c l) {src dst e : TypeId} (hs : P.underlying src = some (.slice e)) (he : P.underlying e = some (.int .u8)) (hd : P.underlying dst = some .string) :
    (convert src dst (.slice A n c)).run P w = .ok (.string ⟨l.toArray⟩) w := by
  have hl := h.len
  rcases Nat.eq_zero_or_pos n with h0 | h0
  · subst h0
    obtain rfl : l = [] := List.eq_nil_of_length_eq_zero hl
    cases A with
    | none => exact run_convert_bytes_nil w src e hs he _ _ _ hd
    | some a => exact run_convert_bytes_back w src dst e a c [] hs he hd (fun j hj => absurd hj (by simp))
  · obtain ⟨b, o, rfl, hb, hcell⟩ := h.cells h0
    rw [← hl]
    exact run_convert_bytes_back w src dst e ⟨b, o, none⟩ c l hs he hd (fun j hj => by rw [Addr.add_lit]; exact hcell j hj)
end

/-- A slice of n of room c at A reads as the lists ls of bytes; all lies below block B. -/
structure Ls (w : World) (B : Nat) (A : Option Addr) (n c : Nat) (ls : List (List UInt8)) : Prop where
  len : ls.length = n
  cap : n ≤ c
  max : c ≤ maxLen
  nil : A = none → c = 0
  cells : 0 < n → ∃ b o, A = some ⟨b, o, none⟩ ∧ b < B ∧ ∀ j (h : j < ls.length), ∃ A' n' c', w.cell? ⟨b, o + j, none⟩ = some (.slice A' n' c') ∧ Bs w B A' n' c' ls[j]
section
variable {w w' : World} {B B' : Nat} {A : Option Addr} {n c : Nat} {ls : List (List UInt8)}
theorem Ls.zero (w : World) (B : Nat) : Ls w B none 0 0 [] := ⟨rfl, Nat.le_refl _, Nat.zero_le _, fun _ => rfl, fun h => absurd h (by omega)⟩
theorem Ls.le (h : Ls w B A n c ls) : n ≤ 9223372036854775807 := by have := h.cap; have := h.max; simp only [maxLen] at this; omega
theorem Ls.keep (h : Ls w B A n c ls) (hk : ∀ p : Addr, p.block < B → w'.cell? p = w.cell? p) : Ls w' B A n c ls :=
  ⟨h.len, h.cap, h.max, h.nil, fun h0 => by
    obtain ⟨b, o, hA, hb, hc⟩ := h.cells h0
    refine ⟨b, o, hA, hb, fun j hj => ?_⟩
    obtain ⟨A', n', c', h1, h2⟩ := hc j hj
    exact ⟨A', n', c', (hk _ hb).trans h1, h2.keep hk⟩⟩
theorem Ls.more (h : Ls w B A n c ls) (hB : B ≤ B') : Ls w B' A n c ls :=
  ⟨h.len, h.cap, h.max, h.nil, fun h0 => by
    obtain ⟨b, o, hA, hb, hc⟩ := h.cells h0
    refine ⟨b, o, hA, by omega, fun j hj => ?_⟩
    obtain ⟨A', n', c', h1, h2⟩ := hc j hj
    exact ⟨A', n', c', h1, h2.more hB⟩⟩
theorem Ls.below (h : Ls w B A n c ls) (hb : Below B w w') : Ls w' B A n c ls := h.keep fun _ hp => hb.cell hp
theorem Ls.below' (h : Ls w B A n c ls) (hb : Below B' w w') (hB : B ≤ B') : Ls w' B A n c ls := h.below (hb.mono hB)
theorem Ls.drew (h : Ls w B A n c ls) : Ls w.drew B A n c ls := h.keep fun _ _ => rfl
theorem Ls.drewN (h : Ls w B A n c ls) (k : Nat) : Ls (w.drewN k) B A n c ls := h.keep fun _ _ => rfl
theorem Ls.alloc (h : Ls w B A n c ls) (hB : B ≤ w.heap.size) (o : Obj) : Ls (w.alloc o) B A n c ls := h.below ((Below.refl _ _).alloc hB o)
theorem Ls.at (h : Ls w B A n c ls) {i : Nat} (hi : i < n) : ∃ b o A' n' c', A = some ⟨b, o, none⟩ ∧ b < B ∧ w.cell? ⟨b, o + i, none⟩ = some (.slice A' n' c') ∧ Bs w B A' n' c' (ls[i]'(by have := h.len; omega)) := by
  obtain ⟨b, o, hA, hb, hc⟩ := h.cells (by omega)
  obtain ⟨A', n', c', h1, h2⟩ := hc i (by have := h.len; omega)
  exact ⟨b, o, A', n', c', hA, hb, h1, h2⟩
end

/-- A slice of n of room c at A reads as the numbers zs. -/
structure Zs (w : World) (B : Nat) (k : IntKind) (A : Option Addr) (n c : Nat) (zs : List Int) : Prop where
  len : zs.length = n
  cap : n ≤ c
  max : c ≤ maxLen
  nil : A = none → c = 0
  wf : ∀ z ∈ zs, (Lit.int k z).wf = true
  cells : 0 < n → ∃ b o, A = some ⟨b, o, none⟩ ∧ b < B ∧ ∀ j (h : j < zs.length), w.cell? ⟨b, o + j, none⟩ = some (.int k zs[j])
section
variable {w w' : World} {B B' : Nat} {k : IntKind} {A : Option Addr} {n c : Nat} {zs : List Int}
theorem Zs.le (h : Zs w B k A n c zs) : n ≤ 9223372036854775807 := by have := h.cap; have := h.max; simp only [maxLen] at this; omega
theorem Zs.keep (h : Zs w B k A n c zs) (hk : ∀ p : Addr, p.block < B → w'.cell? p = w.cell? p) : Zs w' B k A n c zs :=
  ⟨h.len, h.cap, h.max, h.nil, h.wf, fun h0 => by
    obtain ⟨b, o, hA, hb, hc⟩ := h.cells h0
    exact ⟨b, o, hA, hb, fun j hj => (hk _ hb).trans (hc j hj)⟩⟩
theorem Zs.more (h : Zs w B k A n c zs) (hB : B ≤ B') : Zs w B' k A n c zs :=
  ⟨h.len, h.cap, h.max, h.nil, h.wf, fun h0 => by
    obtain ⟨b, o, hA, hb, hc⟩ := h.cells h0
    exact ⟨b, o, hA, by omega, hc⟩⟩
theorem Zs.below (h : Zs w B k A n c zs) (hb : Below B w w') : Zs w' B k A n c zs := h.keep fun _ hp => hb.cell hp
theorem Zs.below' (h : Zs w B k A n c zs) (hb : Below B' w w') (hB : B ≤ B') : Zs w' B k A n c zs := h.below (hb.mono hB)
theorem Zs.drew (h : Zs w B k A n c zs) : Zs w.drew B k A n c zs := h.keep fun _ _ => rfl
theorem Zs.alloc (h : Zs w B k A n c zs) (hB : B ≤ w.heap.size) (o : Obj) : Zs (w.alloc o) B k A n c zs := h.below ((Below.refl _ _).alloc hB o)
theorem Zs.at (h : Zs w B k A n c zs) {i : Nat} (hi : i < n) : ∃ b o, A = some ⟨b, o, none⟩ ∧ b < B ∧ w.cell? ⟨b, o + i, none⟩ = some (.int k (zs[i]'(by have := h.len; omega))) := by
  obtain ⟨b, o, hA, hb, hc⟩ := h.cells (by omega)
  exact ⟨b, o, hA, hb, hc i (by have := h.len; omega)⟩
end

/-- a fact that no tactic looks into, and that none unfolds -/
structure Kp (p : Prop) : Prop where
  out : p
theorem below_next {w0 w1 w2 : World} (h1 : Below w0.heap.size w0 w1) (h2 : Below w1.heap.size w1 w2) : Below w0.heap.size w0 w2 := h1.trans (h2.mono h1.size)
theorem Bs.next {w0 w1 : World} {B : Nat} {A : Option Addr} {n c : Nat} {l : List UInt8} (h : Bs w0 B A n c l) (hb : Below w0.heap.size w0 w1) (hB : B ≤ w0.heap.size) : Bs w1 w1.heap.size A n c l :=
  (h.below (hb.mono hB)).more (Nat.le_trans hB hb.size)
theorem ret_eq {a b : Value} (h : a = b) : Ending.returned a = .returned b := by rw [h]
end Go.Proofs.Ythpfiieaanioeaa

namespace Go.Proofs.Ythpfiieaanioeaa
open Go.ChangeShapes Go.WideShapes Go.ChangeAt Go.RowKit Go.Deep

theorem spot_of_cell {w : World} {a : Addr} {v : Value} (h : w.cell? a = some v) : a.spot = none := by
  unfold World.cell? at h
  split at h
  · split at h
    · cases h
    · rename_i hs
      cases hsp : a.spot with
      | none => rfl
      | some x => simp [hsp] at hs
  · cases h
theorem add_none (a : Addr) : a.add 0 = a := by simp [Addr.add]
theorem addr_lit {a : Addr} (h : a.spot = none) : a = ⟨a.block, a.off, none⟩ := by
  obtain ⟨b, o, s⟩ := a
  simp at h; subst h; rfl

def bytesOfInts (zs : List Int) : List UInt8 := zs.map fun z => UInt8.ofNat z.toNat
theorem byte_back {z : Int} (h : (Lit.int .u8 z).wf = true) : (((UInt8.ofNat z.toNat).toNat : Nat) : Int) = z := by
  have hb : 0 ≤ z ∧ z ≤ 255 := by simpa [Lit.wf, IntKind.min, IntKind.max, IntKind.signed, IntKind.bits] using h
  have : (UInt8.ofNat z.toNat).toNat = z.toNat % 256 := rfl
  omega
theorem bs_of_cells {w : World} {a : Addr} {len cap : Nat} {zs : List Int} (hl : len ≤ cap) (hm : cap ≤ maxLen) (hz : zs.length = cap) (hcell : ∀ i, i < zs.length → w.cell? (a.add i) = some (.int .u8 (zs.getD i 0)))
    (hw : ∀ n ∈ zs, (Lit.int .u8 n).wf = true) : Bs w w.heap.size (some a) len cap (bytesOfInts (zs.take len)) := by
  refine ⟨by simp [bytesOfInts]; omega, hl, hm, (fun h => by cases h), fun h0 => ?_⟩
  have h1 := hcell 0 (by omega)
  rw [add_none] at h1
  have hs := spot_of_cell h1
  refine ⟨a.block, a.off, by rw [← addr_lit hs], World.block_lt_of_cell? w a h1, fun j hj => ?_⟩
  have hj' : j < zs.length := by simp [bytesOfInts] at hj; omega
  have h2 := hcell j hj'
  rw [addr_lit hs, Addr.add_lit] at h2
  rw [h2]
  simp only [bytesOfInts, List.getElem_map, List.getElem_take]
  rw [byte_back (hw _ (List.getElem_mem hj'))]
  simp [List.getD, List.getElem?_eq_getElem hj']

section
variable {H : Type} {P : Program} {enc : TypeId × Value → H} {W : World} {t e : TypeId} {a : Option Addr} {len cap : Nat} {d : DataW H} {p : List MemPlace}

theorem mem_weightsAll {n : Nat} {x : DataW H} : ∀ {l : List (DataW H)}, x ∈ l → n ∈ x.weights P e → n ∈ DataW.weightsAll P e l
  | [], h, _ => by cases h
  | y :: r, h, hn => by
    simp only [DataW.weightsAll, List.mem_append]
    rcases List.mem_cons.1 h with rfl | h
    · exact .inl hn
    · exact .inr (mem_weightsAll h hn)
theorem reach_of {ts : List TypeId} {ds : List (DataW H)} (h : (DataW.weightsEach P ts ds).all (· ≤ reachBytes) = true) {j : Nat} (ht : ts[j]? = some t) (hd : ds[j]? = some d) : ∀ n ∈ d.weights P t, n ≤ reachBytes := by
  intro n hn
  have := List.all_eq_true.1 h _ (DataW.weights_mem_each ht hd n hn)
  simpa using this
theorem slice_reach {elems spare : List (DataW H)} (ht : P.underlying t = some (.slice e)) (h : ∀ n ∈ (DataW.slice elems spare).weights P t, n ≤ reachBytes) : (elems.length + spare.length) * P.bytesOf e ≤ reachBytes :=
  h _ (by simp [DataW.weights, ht])
theorem slice_reach_in {elems spare : List (DataW H)} (ht : P.underlying t = some (.slice e)) (h : ∀ n ∈ (DataW.slice elems spare).weights P t, n ≤ reachBytes) : ∀ x ∈ elems, ∀ n ∈ x.weights P e, n ≤ reachBytes :=
  fun x hx n hn => h n (by simp only [DataW.weights, ht]; exact List.mem_cons_of_mem _ (List.mem_append_left _ (mem_weightsAll hx hn)))

/-- a byte slice -/
theorem bs_open (ht : P.underlying t = some (.slice e)) (he : P.underlying e = some (.int .u8)) (hc : P.cellsOf e = 1) (hb : P.bytesOf e = 1)
    (h : DataW.Trod enc P W 0 (fun _ => true) true t (.slice a len cap) d p) (hr : ∀ n ∈ d.weights P t, n ≤ reachBytes) : ∃ l, Bs W W.heap.size a len cap l ∧ cap ≤ 140737488351232 := by
  obtain ⟨fuel, hf⟩ := h
  rcases open_ints ht he hc hf with ⟨hcs, _⟩ | ⟨x, l, c, zs, hcs, _, hl, hm, hz, hx, hcell, hwz⟩
  · simp [Value.cells] at hcs
    obtain ⟨rfl, rfl, rfl⟩ := hcs
    exact ⟨[], Bs.zero _ _, by omega⟩
  · simp [Value.cells] at hcs
    obtain ⟨rfl, rfl, rfl⟩ := hcs
    obtain ⟨rfl, _⟩ := Prod.mk.inj hx
    have h1 := slice_reach ht hr
    rw [hb] at h1
    simp only [lits, List.length_map, List.length_take, List.length_drop, reachBytes] at h1
    have hz' : zs.length = cap := by simpa using hz
    exact ⟨_, bs_of_cells hl hm hz' hcell hwz, by omega⟩
/-- a slice of numbers -/
theorem zs_open {k : IntKind} {by_ : Nat} (ht : P.underlying t = some (.slice e)) (he : P.underlying e = some (.int k)) (hc : P.cellsOf e = 1) (hb : P.bytesOf e = by_)
    (h : DataW.Trod enc P W 0 (fun _ => true) true t (.slice a len cap) d p) (hr : ∀ n ∈ d.weights P t, n ≤ reachBytes) : ∃ zs, Zs W W.heap.size k a len cap zs ∧ cap * by_ ≤ 140737488351232 := by
  obtain ⟨fuel, hf⟩ := h
  rcases open_ints ht he hc hf with ⟨hcs, _⟩ | ⟨x, l, c, zs, hcs, _, hl, hm, hz, hx, hcell, hwz⟩
  · simp [Value.cells] at hcs
    obtain ⟨rfl, rfl, rfl⟩ := hcs
    exact ⟨[], ⟨rfl, Nat.le_refl _, Nat.zero_le _, fun _ => rfl, (fun z hz => by cases hz), fun h => absurd h (by omega)⟩, by omega⟩
  · simp [Value.cells] at hcs
    obtain ⟨rfl, rfl, rfl⟩ := hcs
    obtain ⟨rfl, _⟩ := Prod.mk.inj hx
    have hz' : zs.length = cap := by simpa using hz
    refine ⟨zs.take len, ⟨by simp; omega, hl, hm, (fun h => by cases h), fun z hz => hwz z (List.mem_of_mem_take hz), fun h0 => ?_⟩, ?_⟩
    · have h1 := hcell 0 (by omega)
      rw [add_none] at h1
      have hs := spot_of_cell h1
      refine ⟨x.block, x.off, by rw [← addr_lit hs], World.block_lt_of_cell? W x h1, fun j hj => ?_⟩
      have hj' : j < zs.length := by simp at hj; omega
      have h2 := hcell j hj'
      rw [addr_lit hs, Addr.add_lit] at h2
      rw [h2]
      simp [List.getD, List.getElem?_eq_getElem hj']
    · have h1 := slice_reach ht hr
      rw [hb] at h1
      simp only [lits, List.length_map, List.length_take, List.length_drop, reachBytes] at h1
      rwa [show min len zs.length + (zs.length - len) = cap by omega] at h1
/-- a list of byte slices -/
theorem ls_open {q : TypeId} (ht : P.underlying t = some (.slice e)) (he : P.underlying e = some (.slice q)) (hq : P.underlying q = some (.int .u8)) (ce : P.cellsOf e = 1) (cq : P.cellsOf q = 1) (be : P.bytesOf e = 24) (bq : P.bytesOf q = 1)
    (h : DataW.Trod enc P W 0 (fun _ => true) true t (.slice a len cap) d p) (hr : ∀ n ∈ d.weights P t, n ≤ reachBytes) :
    ∃ ls, Ls W W.heap.size a len cap ls ∧ cap * 24 ≤ 140737488351232 ∧ ∀ x ∈ ls, x.length ≤ 140737488351232 := by
  obtain ⟨fuel, hf⟩ := h
  rcases open_int_rows ht he hq ce cq hf with ⟨hcs, _⟩ | ⟨x, l, c, A, L, C, Z, hcs, _, hl, hm, hx, hrow⟩
  · simp [Value.cells] at hcs
    obtain ⟨rfl, rfl, rfl⟩ := hcs
    exact ⟨[], Ls.zero _ _, by omega, fun x hx => by cases hx⟩
  · simp [Value.cells] at hcs
    obtain ⟨rfl, rfl, rfl⟩ := hcs
    obtain ⟨rfl, _⟩ := Prod.mk.inj hx
    refine ⟨(List.range len).map fun r => bytesOfInts ((Z r).take (L r)), ⟨by simp, hl, hm, (fun h => by cases h), fun h0 => ?_⟩, ?_, fun y hy => ?_⟩
    · have h1 := (hrow 0 (by omega)).1
      rw [add_none] at h1
      have hs := spot_of_cell h1
      refine ⟨x.block, x.off, by rw [← addr_lit hs], World.block_lt_of_cell? W x h1, fun j hj => ?_⟩
      have hj' : j < len := by simpa using hj
      obtain ⟨hc, hL, hC, hZ, hw, hn, hA⟩ := hrow j (by omega)
      refine ⟨A j, L j, C j, ?_, ?_⟩
      · rw [addr_lit hs, Addr.add_lit] at hc
        exact hc
      · simp only [List.getElem_map, List.getElem_range]
        cases hAj : A j with
        | none =>
          have h2 := hn hAj
          have h3 : L j = 0 := by omega
          rw [h2, h3]
          simp [bytesOfInts]
          exact Bs.zero _ _
        | some a' =>
          refine bs_of_cells hL hC hZ (fun i hi => ?_) hw
          exact (hA a' hAj).2 i (by omega)
    · have h1 := slice_reach ht hr
      rw [be] at h1
      simp only [List.length_map, List.length_range, reachBytes] at h1
      rwa [show len + (cap - len) = cap by omega] at h1
    · obtain ⟨r, hr1, rfl⟩ := List.mem_map.1 hy
      have hr2 : r < len := by simpa using hr1
      obtain ⟨hc, hL, hC, hZ, hw, hn, hA⟩ := hrow r (by omega)
      have h1 := slice_reach_in ht hr (intRow .u8 (A r) (L r) (Z r)) (List.mem_map.2 ⟨r, hr1, rfl⟩)
      have hlen : (bytesOfInts ((Z r).take (L r))).length ≤ L r := by simp [bytesOfInts]; omega
      cases hAr : A r with
      | none => have := hn hAr; omega
      | some a' =>
        rw [hAr] at h1
        have h2 := slice_reach he h1
        rw [bq] at h2
        simp only [lits, List.length_map, List.length_take, List.length_drop, reachBytes] at h2
        omega
end
end Go.Proofs.Ythpfiieaanioeaa

namespace Go.Proofs.Ythpfiieaanioeaa
open Go.RowKit

/-- the element type e of the slice type t: its nought z, one cell, so many bytes -/
structure El (P : Program) (t e : TypeId) (z : Value) (bytes : Nat) : Prop where
  ty : P.underlying t = some (.slice e)
  info : (P.info? e).map (fun i => (i.zero, i.size, i.bytes)) = some (some z, 1, bytes)
  one : z.cells = #[z]

theorem own_nil (w : World) (base : Nat) (e : TypeId) : w.ownsRow base e 1 (.slice none 0 0) 0 [] := World.ownsRow_nil _ _ _ _

/-- what is owned stays, where nothing that was there turns -/
theorem own_below {w w' : World} {base : Nat} {e : TypeId} {v : Value} {n : Nat} {xs : List Value} (h : w.ownsRow base e 1 v n xs) (hb : Below w.heap.size w w') : w'.ownsRow base e 1 v n xs :=
  h.kept (row := none) ⟨hb.os, hb.tape, hb.output, hb.size, fun j hj _ => hb.block j hj⟩ (by cases v.ownBlock <;> simp)
/-- where a row lies -/
theorem own_form {w : World} {base : Nat} {e : TypeId} {v : Value} {n : Nat} {xs : List Value} (h : w.ownsRow base e 1 v n xs) :
    ∃ A c, v = .slice A n c ∧ n ≤ c ∧ c ≤ maxLen ∧ (A = none → c = 0 ∧ n = 0) ∧ (∀ ad, A = some ad → ∃ g, ad = ⟨g, 0, none⟩ ∧ base ≤ g ∧ g < w.heap.size) := by
  rcases h.2 with ⟨rfl, rfl⟩ | ⟨g, cap, cur, rfl, hg, hh, hn, hm, hs, ht⟩
  · exact ⟨none, 0, rfl, Nat.le_refl _, Nat.zero_le _, fun _ => ⟨rfl, rfl⟩, fun ad h => by cases h⟩
  · exact ⟨_, cap, rfl, hn, hm, fun h => (by cases h), fun ad h => ⟨g, (Option.some.inj h).symm, hg, (Array.getElem?_eq_some_iff.1 hh).1⟩⟩

section
variable {P : Program} {w : World} {ops : Array Oper} {rest : List Oper} {o : Oper} {a : Act} {Q : Exit → Act → World → Prop} {t e : TypeId} {z : Value} {bytes : Nat}

theorem own_some {w : World} {base : Nat} {e : TypeId} {v : Value} {n : Nat} {xs : List Value} (h : w.ownsRow base e 1 v n xs) (h0 : 0 < n) :
    ∃ g c, v = .slice (some ⟨g, 0, none⟩) n c ∧ n ≤ c ∧ base ≤ g ∧ g < w.heap.size := by
  obtain ⟨A, c, rfl, hc, _, hn, hs⟩ := own_form h
  cases A with
  | none => have := (hn rfl).2; omega
  | some ad =>
    obtain ⟨g, rfl, hg, hl⟩ := hs ad rfl
    exact ⟨g, c, rfl, hc, hg, hl⟩

/-- append, whatever is appended, to a row of the call's own -/
theorem wpList_app (E : El P t e z bytes) (hgd : o.guard = none) (s x : Operand)
    (ho : o.op = .call { callee := .builtin .append, args := #[s, x], argTypes := #[t, t] })
    (base : Nat) (v : Value) (n : Nat) (xs : List Value) (hs : a.eval s = v) (hown : w.ownsRow base e 1 v n xs)
    (A : Option Addr) (m c : Nat) (news : List Value) (hx : a.eval x = .slice A m c) (hl : news.length = m) (hnil : A = none → m = 0 ∧ c = 0)
    (hsrc : ∀ ad, A = some ad → ∀ j u, news[j]? = some u → w.cell? (ad.add j) = some u) (h1 : ∀ u ∈ news, u.oneCell' = true)
    (h63 : n + m ≤ maxLen) (hbytes : (n + m) * bytes ≤ 140737488355328) (hbase : base ≤ w.heap.size)
    (h : ∀ v' w', w'.ownsRow base e 1 v' (n + m) (xs ++ news) → w.grownBy w' v.ownBlock → (v'.ownBlock = v.ownBlock ∨ v'.ownBlock = some w.heap.size) → wpList P ops Q rest (a.put o.dst v') w') :
    wpList P ops Q (o :: rest) a w := by
  obtain ⟨i, hi, hz0, hz1, hz2⟩ := info_parts E.info
  cases A with
  | some ad =>
    exact wpList_append_own_at w hgd s x t ho base e i z 1 bytes E.ty hi hz0 hz1 hz2 (by rw [E.one]; rfl) (by decide) v n xs hs hown ad m c news hx (by omega) (hsrc ad rfl) h1 h63 hbytes hbase
      (fun v' w' h2 h3 _ h5 => h v' w' h2 h3 h5)
  | none =>
    obtain ⟨rfl, rfl⟩ := hnil rfl
    obtain rfl : news = [] := List.eq_nil_of_length_eq_zero hl
    refine wpList_plain hgd fun K hK => ?_
    have hrun := run_append_owned_none (P := P) w base t o.type e i 1 E.ty hi v n xs hown
    unfold Oper.wp
    simp [execOp, ho, resolve, invoke, builtin, hs, hx, hrun, Result.andThen]
    exact hK _ _ (h v w (by simpa using hown) (World.grownBy.refl _ _) (.inl rfl))

theorem below_of_grown {base : Nat} {v : Value} {n : Nat} {xs : List Value} {w1 w2 : World} (hown : w1.ownsRow base e 1 v n xs) (hbase : base ≤ w1.heap.size) (hg : w1.grownBy w2 v.ownBlock) : Below base w1 w2 :=
  (Below.refl _ _).grown hg hbase (fun k hk => (hown.lt k hk).1)

/-- append of one element, which has just been laid in a block of its own -/
theorem wpList_app1 {u : World} {y : Value} {t' : TypeId} (E : El P t e z bytes) (hgd : o.guard = none) (s x : Operand)
    (ho : o.op = .call { callee := .builtin .append, args := #[s, x], argTypes := #[t, t] })
    (base : Nat) (v : Value) (n : Nat) (xs : List Value) (hs : a.eval s = v) (hown : u.ownsRow base e 1 v n xs)
    (hx : a.eval x = .slice (some ⟨u.heap.size, 0, none⟩) 1 1) (h1 : y.oneCell' = true)
    (h63 : n + 1 ≤ maxLen) (hbytes : (n + 1) * bytes ≤ 140737488355328) (hbase : base ≤ u.heap.size)
    (h : ∀ v' w', Hid (w'.ownsRow base e 1 v' (n + 1) (xs ++ [y])) → Below base u w' → (∀ g, v.ownBlock ≠ some g → g < u.heap.size → w'.heap[g]? = u.heap[g]?) → (v'.ownBlock = v.ownBlock ∨ ∃ g, v'.ownBlock = some g ∧ u.heap.size ≤ g) → wpList P ops Q rest (a.put o.dst v') w') :
    wpList P ops Q (o :: rest) a (u.alloc (.cells #[y] t')) := by
  refine wpList_app E hgd s x ho base v n xs hs (hown.alloc _) (some ⟨u.heap.size, 0, none⟩) 1 1 [y] hx rfl (fun h => by cases h) (fun ad had => ?_) (fun c hc => ?_) h63 hbytes (by simp; omega) (fun v' w' h2 h3 h4 => h v' w' h2 ?_ ?_ ?_)
  · obtain rfl := Option.some.inj had
    exact cell_one_new _ _ _
  · simp at hc; subst hc; exact h1
  · exact ((Below.refl _ _).alloc hbase _).trans (below_of_grown (hown.alloc _) (by simp; omega) h3)
  · intro g hg hlt
    rw [h3.block g (by simp; omega) (fun e => hg e.symm)]
    exact Below.heap_alloc _ _ _ hlt
  · rcases h4 with h4 | h4
    · exact .inl h4
    · exact .inr ⟨_, h4, by simp⟩

/-- what the row held stays where it lay, whether it is written on or moved -/
theorem app_keeps {ty : TypeId} (E : El P t e z bytes) (base : Nat) (n : Nat) (xs : List Value) (g cap : Nat) (hown : w.ownsRow base e 1 (.slice (some ⟨g, 0, none⟩) n cap) n xs)
    (ad : Addr) (m c : Nat) (news : List Value) (hl : news.length = m) (hsrc : ∀ j u, news[j]? = some u → w.cell? (ad.add j) = some u) (h1 : ∀ u ∈ news, u.oneCell' = true)
    (h63 : n + m ≤ maxLen) (hbytes : (n + m) * bytes ≤ 140737488355328) {v' : Value} {w' : World}
    (hrun : (Builtin.append_ #[t, t] ty #[.slice (some ⟨g, 0, none⟩) n cap, .slice (some ad) m c]).run P w = .ok v' w') : ∀ j, j < n → w'.cell? ⟨g, j, none⟩ = w.cell? ⟨g, j, none⟩ := by
  obtain ⟨i, hi, hz0, hz1, hz2⟩ := info_parts E.info
  intro j hj
  have hlx : xs.length = n := by have := hown.1; omega
  rcases hown.2 with ⟨h', _⟩ | ⟨g', cap', cur, h', hb, hg, hnc, hcm, hcs, htake⟩
  · simp at h'
  · simp only [Value.slice.injEq, Option.some.injEq, Addr.mk.injEq, and_true, true_and] at h'
    obtain ⟨rfl, rfl⟩ := h'
    by_cases hroom : n + m ≤ cap
    · have hr := run_append_room (P := P) w t ty e i E.ty hi g n cap cur hg ad m c news (by rw [hz1]; omega) hsrc h1 hroom (by rw [hz1, hcs]; omega)
      rw [hr] at hrun
      injection hrun with _ e2
      subst e2
      rw [cell_of_row w g j cur e (0, 0) hg, cell_of_row _ g j _ e (0, 0) (setRow_heap w g cur _ e _ hg)]
      rw [hz1]
      simp only [Nat.mul_one, List.getElem?_toArray]
      rw [List.append_assoc, List.getElem?_append_left (by simp; omega), List.getElem?_take, if_pos hj]
      simp
    · have holds : ∀ j u, xs[j]? = some u → w.cell? ((⟨g, 0, none⟩ : Addr).add j) = some u := hown.cells (g := g) rfl
      have hmx : n + m ≤ 9223372036854775807 := by simp only [maxLen] at h63; omega
      have hr := run_append_grow (P := P) w t ty e i z E.ty hi hz0 ⟨g, 0, none⟩ n cap xs (by rw [hz1]; omega) holds ad m c news (by rw [hz1]; omega) hsrc (by omega) (by omega) (by rw [hz2]; exact growslice_fits (by omega) hbytes)
      rw [hr] at hrun
      injection hrun with _ e2
      subst e2
      have hlt := (Array.getElem?_eq_some_iff.1 hg).1
      exact World.cell?_of_block (w := w) (heap_alloc_old w.drew _ hlt)

/-- the same as one step of a region that draws its order -/
theorem step_app1 {K : Act → World → Prop} {C : Prop} (u : World) {y : Value} {t' : TypeId} (hW : w = u.alloc (.cells #[y] t')) (E : El P t e z bytes) (hgd : o.guard = none) (s x : Operand)
    (ho : o.op = .call { callee := .builtin .append, args := #[s, x], argTypes := #[t, t] })
    (base : Nat) (v : Value) (n : Nat) (xs : List Value) (hs : a.eval s = v) (hown : u.ownsRow base e 1 v n xs)
    (hx : a.eval x = .slice (some ⟨u.heap.size, 0, none⟩) 1 1) (h1 : y.oneCell' = true)
    (h63 : n + 1 ≤ maxLen) (hbytes : (n + 1) * bytes ≤ 140737488355328) (hbase : base ≤ u.heap.size)
    (h : ∀ v' w', Hid (w'.ownsRow base e 1 v' (n + 1) (xs ++ [y])) → Below base u w' → (∀ g, v.ownBlock ≠ some g → g < u.heap.size → w'.heap[g]? = u.heap[g]?) → (v'.ownBlock = v.ownBlock ∨ ∃ g, v'.ownBlock = some g ∧ u.heap.size ≤ g) → (∀ g cap, v = .slice (some ⟨g, 0, none⟩) n cap → ∀ j, j < n → w'.cell? ⟨g, j, none⟩ = u.cell? ⟨g, j, none⟩) → K (a.put o.dst v') w') :
    if Region.wanted o (yielded ops a.tmps) = true then Oper.wp P o a w K Q else C := by
  subst hW
  have hw : Region.wanted o (yielded ops a.tmps) = true := by simp [Region.wanted, hgd]
  rw [if_pos hw]
  obtain ⟨i, hi, hz0, hz1, hz2⟩ := info_parts E.info
  have hown2 := hown.alloc (.cells #[y] t')
  obtain ⟨v', w', hrun, h2, h3, _, h5⟩ := run_append_own_at (P := P) (u.alloc (.cells #[y] t')) base t o.type e i z 1 bytes E.ty hi hz0 hz1 hz2 (by rw [E.one]; rfl) (by decide) v n xs hown2 ⟨u.heap.size, 0, none⟩ 1 1 [y] rfl (cell_one_new _ _ _)
    (fun c hc => by simp at hc; subst hc; exact h1) h63 hbytes (by simp; omega)
  unfold Oper.wp execOp
  simp only [ho, resolve, invoke, builtin, Sem.run_bind, Sem.run_pure, Result.andThen_ok, List.map_toArray, List.map_cons, List.map_nil, hs, hx, hrun]
  refine h v' w' h2 ?_ ?_ ?_ ?_
  · exact ((Below.refl _ _).alloc hbase _).trans (below_of_grown hown2 (by simp; omega) h3)
  · intro g hg hlt
    rw [h3.block g (by simp; omega) (fun e => hg e.symm)]
    exact Below.heap_alloc _ _ _ hlt
  · rcases h5 with h4 | h4
    · exact .inl h4
    · exact .inr ⟨_, h4, by simp⟩
  · rintro g cap rfl j hj
    have h6 := app_keeps E base n xs g cap hown2 ⟨u.heap.size, 0, none⟩ 1 1 [y] rfl (cell_one_new _ _ _) (fun c hc => by simp at hc; subst hc; exact h1) h63 hbytes hrun j hj
    rw [h6]
    obtain ⟨g2, c2, e2, _, _, hlt⟩ := own_some hown (by omega)
    injection e2 with e3
    have e4 := Option.some.inj e3
    injection e4 with e5
    subst e5
    exact World.cell?_of_block (w := u) (Below.heap_alloc _ _ _ hlt)

/-- make of none, with room for n -/
theorem wpList_mk0 (E : El P t e z bytes) (hg : o.guard = none) (l c : Operand) (hop : o.op = Op.makeSlice t l c)
    (base : Nat) (kl kc : IntKind) (C : Int) (n : Nat) (hl : a.eval l = .int kl 0) (hc : a.eval c = .int kc C) (hC : C = (n : Int)) (hb : bytes * n ≤ 281474976710656) (b3 : n ≤ maxLen) (b4 : base ≤ w.heap.size)
    (hK : ∀ w', Hid (w'.ownsRow base e 1 (.slice (some ⟨w.heap.size, 0, none⟩) 0 n) 0 []) → Below base w w' → wpList P ops Q rest (a.put o.dst (.slice (some ⟨w.heap.size, 0, none⟩) 0 n)) w') :
    wpList P ops Q (o :: rest) a w := by
  obtain ⟨i, hi, hz0, hz1, hz2⟩ := info_parts E.info
  exact wpList_make_own w hg l c t hop base e i z 1 E.ty hi hz0 hz1 kl kc C n hl hc hC (by rw [hz2]; exact hb) b3 b4 fun w' h1 h2 => hK w' h1 ((Below.refl _ _).grown h2 b4 (by simp))

/-- make of n, all noughts -/
theorem wpList_mk (E : El P t e z bytes) (hg : o.guard = none) (l c : Operand) (hop : o.op = Op.makeSlice t l c)
    (base : Nat) (kl kc : IntKind) (L C : Int) (n : Nat) (hl : a.eval l = .int kl L) (hc : a.eval c = .int kc C) (hL : L = (n : Int)) (hC : C = (n : Int)) (hb : bytes * n ≤ 281474976710656) (b3 : n ≤ maxLen) (b4 : base ≤ w.heap.size)
    (hK : ∀ w', w'.ownsRow base e 1 (.slice (some ⟨w.heap.size, 0, none⟩) n n) n (List.replicate n z) → w.grownBy w' none → wpList P ops Q rest (a.put o.dst (.slice (some ⟨w.heap.size, 0, none⟩) n n)) w') :
    wpList P ops Q (o :: rest) a w := by
  obtain ⟨i, hi, hz0, hz1, hz2⟩ := info_parts E.info
  refine wpList_make_full w hg l c t hop base e i z 1 E.ty hi hz0 hz1 kl kc L C n hl hc hL hC (by rw [hz2]; exact hb) b3 b4 fun w' h1 h2 => hK w' ?_ h2
  have : (madeCells z.cells (n * 1)).toList = List.replicate n z := by
    rw [E.one, Nat.mul_one, toList_madeCells_one]
  rwa [this] at h1

theorem El.elem (E : El P t e z bytes) : P.elem t = e := by
  unfold Program.elem
  simp [E.ty]
theorem El.sizeOf (E : El P t e z bytes) (u : World) : (sizeOf (P.elem t)).run P u = .ok 1 u := by
  obtain ⟨i, hi, _, hz1, _⟩ := info_parts E.info
  rw [E.elem]
  simp [Go.sizeOf, typeInfo, hi, hz1]
theorem El.ty' (E : El P t e z bytes) : P.underlying t = some (.slice (P.elem t)) := by rw [E.elem]; exact E.ty

/-- x[i:] of bytes -/
theorem wpList_cut_l (E : El P t e z bytes) (hg : o.guard = none) (x lo : Operand) (hop : o.op = Op.slice t x (some lo) none none)
    {L : Nat} {A : Option Addr} {n c : Nat} {l : List UInt8} (hx : a.eval x = .slice A n c) (hb : Bs w L A n c l) (k : IntKind) (I : Int) (i : Nat) (hlo : a.eval lo = .int k I) (hI : I = i) (hi : i ≤ n)
    (h : ∀ A' m d, Bs w L A' m d (l.drop i) → wpList P ops Q rest (a.put o.dst (.slice A' m d)) w) : wpList P ops Q (o :: rest) a w := by
  subst hI
  refine wpList_plain hg fun K hK => ?_
  have hrun := run_slice_l (P := P) (w := w) t A n c E.ty' k (i : Int) (by omega) (by omega)
  rw [E.sizeOf] at hrun
  have h2 := hb.cut (i := i) (k := n) hi (Nat.le_refl _)
  rw [List.take_of_length_le (by rw [hb.len]; exact Nat.le_refl _)] at h2
  unfold Oper.wp
  simp [execOp, hop, hx, hlo, run_sliceAt_slice (P := P) (w := w) t _ _ _ _ E.ty', hrun, Result.andThen, sliced]
  exact hK _ _ (h _ _ _ h2)
/-- x[:k] of bytes -/
theorem wpList_cut_h (E : El P t e z bytes) (hg : o.guard = none) (x hi : Operand) (hop : o.op = Op.slice t x none (some hi) none)
    {L : Nat} {A : Option Addr} {n c : Nat} {l : List UInt8} (hx : a.eval x = .slice A n c) (hb : Bs w L A n c l) (kk : IntKind) (I : Int) (k : Nat) (hhi : a.eval hi = .int kk I) (hI : I = k) (hk : k ≤ n)
    (h : ∀ A', Bs w L A' k c (l.take k) → wpList P ops Q rest (a.put o.dst (.slice A' k c)) w) : wpList P ops Q (o :: rest) a w := by
  subst hI
  refine wpList_plain hg fun K hK => ?_
  have hrun := run_slice_h (P := P) (w := w) t A n c E.ty' kk (k : Int) (by omega) (by have := hb.cap; omega)
  rw [E.sizeOf] at hrun
  have h2 := hb.cut (i := 0) (k := k) (Nat.zero_le _) hk
  unfold Oper.wp
  simp [execOp, hop, hx, hhi, run_sliceAt_slice (P := P) (w := w) t _ _ _ _ E.ty', hrun, Result.andThen, sliced]
  exact hK _ _ (h _ h2)
/-- x[i:k] of bytes -/
theorem wpList_cut_lh (E : El P t e z bytes) (hg : o.guard = none) (x lo hi : Operand) (hop : o.op = Op.slice t x (some lo) (some hi) none)
    {L : Nat} {A : Option Addr} {n c : Nat} {l : List UInt8} (hx : a.eval x = .slice A n c) (hb : Bs w L A n c l) (k1 k2 : IntKind) (I J : Int) (i k : Nat) (hlo : a.eval lo = .int k1 I) (hI : I = i) (hhi : a.eval hi = .int k2 J) (hJ : J = k) (hik : i ≤ k) (hk : k ≤ n)
    (h : ∀ A' m d, Bs w L A' m d ((l.take k).drop i) → wpList P ops Q rest (a.put o.dst (.slice A' m d)) w) : wpList P ops Q (o :: rest) a w := by
  subst hI hJ
  refine wpList_plain hg fun K hK => ?_
  have hrun := run_slice_lh (P := P) (w := w) t A n c E.ty' k1 k2 (i : Int) (k : Int) (by omega) (by omega) (by have := hb.cap; omega)
  rw [E.sizeOf] at hrun
  have h2 := hb.cut hik hk
  unfold Oper.wp
  simp [execOp, hop, hx, hlo, hhi, run_sliceAt_slice (P := P) (w := w) t _ _ _ _ E.ty', hrun, Result.andThen, sliced]
  exact hK _ _ (h _ _ _ h2)

/-- x[i:] of bytes, guarded -/
theorem wpList_cut_l_g (E : El P t e z bytes) (hg : Region.wanted o (yielded ops a.tmps) = true) (x lo : Operand) (hop : o.op = Op.slice t x (some lo) none none)
    {L : Nat} {A : Option Addr} {n c : Nat} {l : List UInt8} (hx : a.eval x = .slice A n c) (hb : Bs w L A n c l) (k : IntKind) (I : Int) (i : Nat) (hlo : a.eval lo = .int k I) (hI : I = i) (hi : i ≤ n)
    (h : ∀ A' m d, Bs w L A' m d (l.drop i) → wpList P ops Q rest (a.put o.dst (.slice A' m d)) w) : wpList P ops Q (o :: rest) a w := by
  subst hI
  refine wpList_step fun K hK => ?_
  rw [if_pos hg]
  have hrun := run_slice_l (P := P) (w := w) t A n c E.ty' k (i : Int) (by omega) (by omega)
  rw [E.sizeOf] at hrun
  have h2 := hb.cut (i := i) (k := n) hi (Nat.le_refl _)
  rw [List.take_of_length_le (by rw [hb.len]; exact Nat.le_refl _)] at h2
  unfold Oper.wp
  simp [execOp, hop, hx, hlo, run_sliceAt_slice (P := P) (w := w) t _ _ _ _ E.ty', hrun, Result.andThen, sliced]
  exact hK _ _ (h _ _ _ h2)
/-- x[:k] of bytes, guarded -/
theorem wpList_cut_h_g (E : El P t e z bytes) (hg : Region.wanted o (yielded ops a.tmps) = true) (x hi : Operand) (hop : o.op = Op.slice t x none (some hi) none)
    {L : Nat} {A : Option Addr} {n c : Nat} {l : List UInt8} (hx : a.eval x = .slice A n c) (hb : Bs w L A n c l) (kk : IntKind) (I : Int) (k : Nat) (hhi : a.eval hi = .int kk I) (hI : I = k) (hk : k ≤ n)
    (h : ∀ A', Bs w L A' k c (l.take k) → wpList P ops Q rest (a.put o.dst (.slice A' k c)) w) : wpList P ops Q (o :: rest) a w := by
  subst hI
  refine wpList_step fun K hK => ?_
  rw [if_pos hg]
  have hrun := run_slice_h (P := P) (w := w) t A n c E.ty' kk (k : Int) (by omega) (by have := hb.cap; omega)
  rw [E.sizeOf] at hrun
  have h2 := hb.cut (i := 0) (k := k) (Nat.zero_le _) hk
  unfold Oper.wp
  simp [execOp, hop, hx, hhi, run_sliceAt_slice (P := P) (w := w) t _ _ _ _ E.ty', hrun, Result.andThen, sliced]
  exact hK _ _ (h _ h2)
/-- x[i:k] of bytes, guarded -/
theorem wpList_cut_lh_g (E : El P t e z bytes) (hg : Region.wanted o (yielded ops a.tmps) = true) (x lo hi : Operand) (hop : o.op = Op.slice t x (some lo) (some hi) none)
    {L : Nat} {A : Option Addr} {n c : Nat} {l : List UInt8} (hx : a.eval x = .slice A n c) (hb : Bs w L A n c l) (k1 k2 : IntKind) (I J : Int) (i k : Nat) (hlo : a.eval lo = .int k1 I) (hI : I = i) (hhi : a.eval hi = .int k2 J) (hJ : J = k) (hik : i ≤ k) (hk : k ≤ n)
    (h : ∀ A' m d, Bs w L A' m d ((l.take k).drop i) → wpList P ops Q rest (a.put o.dst (.slice A' m d)) w) : wpList P ops Q (o :: rest) a w := by
  subst hI hJ
  refine wpList_step fun K hK => ?_
  rw [if_pos hg]
  have hrun := run_slice_lh (P := P) (w := w) t A n c E.ty' k1 k2 (i : Int) (k : Int) (by omega) (by omega) (by have := hb.cap; omega)
  rw [E.sizeOf] at hrun
  have h2 := hb.cut hik hk
  unfold Oper.wp
  simp [execOp, hop, hx, hlo, hhi, run_sliceAt_slice (P := P) (w := w) t _ _ _ _ E.ty', hrun, Result.andThen, sliced]
  exact hK _ _ (h _ _ _ h2)

/-- a row that is full: its cells -/
theorem own_full {base g n : Nat} {xs : List Value} (h : w.ownsRow base e 1 (.slice (some ⟨g, 0, none⟩) n n) n xs) :
    w.heap[g]? = some (.cells xs.toArray e (0, 0)) ∧ base ≤ g ∧ n ≤ maxLen ∧ xs.length = n := by
  rcases h.2 with ⟨h', _⟩ | ⟨g', cap, cur, h', hb, hg, hnc, hcm, hcs, htake⟩
  · simp at h'
  · simp only [Value.slice.injEq, Option.some.injEq, Addr.mk.injEq, and_true, true_and] at h'
    obtain ⟨rfl, rfl⟩ := h'
    have e1 : cur.toList = xs := by
      rw [← htake]
      rw [List.take_of_length_le]
      simp [hcs]
    rw [← e1]
    exact ⟨by simpa using hg, hb, hcm, by simp [hcs]⟩
theorem own_of_full {base g n : Nat} {xs : List Value} (h : w.heap[g]? = some (.cells xs.toArray e (0, 0))) (hb : base ≤ g) (hm : n ≤ maxLen) (hl : xs.length = n) :
    w.ownsRow base e 1 (.slice (some ⟨g, 0, none⟩) n n) n xs :=
  ⟨by omega, .inr ⟨g, n, xs.toArray, rfl, hb, h, Nat.le_refl _, hm, by simp [hl], by simp; rw [List.take_of_length_le (by omega)]⟩⟩

/-- copy into a row that is full -/
theorem wpList_copyBs (E : El P t e z bytes) (hgd : o.guard = none) (d s : Operand)
    (ho : o.op = .call { callee := .builtin .copy, args := #[d, s], argTypes := #[t, t] })
    (base g n : Nat) (xs : List Value) (hd : a.eval d = .slice (some ⟨g, 0, none⟩) n n) (hown : w.ownsRow base e 1 (.slice (some ⟨g, 0, none⟩) n n) n xs)
    {L : Nat} {A : Option Addr} {m c : Nat} {l : List UInt8} (hs : a.eval s = .slice A m c) (hb : Bs w L A m c l)
    (h : ∀ w', Hid (w'.ownsRow base e 1 (.slice (some ⟨g, 0, none⟩) n n) n (cells8 (l.take n) ++ xs.drop m)) → Below base w w' → (∀ k, k ≠ g → w'.heap[k]? = w.heap[k]?) → wpList P ops Q rest (a.put o.dst (goInt (min m n : Nat))) w') :
    wpList P ops Q (o :: rest) a w := by
  obtain ⟨hg, hbg, hm, hl⟩ := own_full hown
  obtain ⟨i, hi, hz0, hz1, hz2⟩ := info_parts E.info
  have hsz : (P.info? e).map (·.size) = some 1 := by rw [hi]; simp [hz1]
  have hlm := hb.len
  by_cases h0 : min m n = 0
  · refine wpList_copy_nothing hgd d s t t ho e E.ty hsz _ _ _ _ _ _ hd hs h0 ?_
    have e1 : cells8 (l.take n) ++ xs.drop m = xs := by
      rcases Nat.eq_zero_or_pos m with h1 | h1
      · subst h1
        obtain rfl : l = [] := List.eq_nil_of_length_eq_zero hlm
        simp [cells8]
      · obtain rfl : n = 0 := by omega
        obtain rfl : xs = [] := List.eq_nil_of_length_eq_zero hl
        simp [cells8]
    have := h w (by rw [e1]; exact hown) (Below.refl _ _) (fun _ _ => rfl)
    rwa [h0] at this
  · obtain ⟨b, o', rfl, _, _⟩ := hb.cells (by omega)
    have hcl : (cells8 (l.take n)).length = min m n := by rw [cells8_length]; simp; omega
    have hns := hb.news _ rfl
    refine wpList_copy_own hgd d s t t ho e E.ty hsz g 0 n n _ m c hd hs xs.toArray e hg (cells8 (l.take n)) hcl (fun j v hj => hns j v ?_) (by rw [hcl]; simp; omega) (cells8_one _) ?_
    · obtain ⟨hj', rfl⟩ := cells8_some hj
      rw [cells8_at l j (by simp at hj'; omega)]
      simp
    · rw [hcl]
      have e2 : (xs.drop (0 + min m n)) = xs.drop m := by
        rcases Nat.le_total m n with h1 | h1
        · rw [Nat.min_eq_left h1, Nat.zero_add]
        · rw [Nat.min_eq_right h1, Nat.zero_add, List.drop_of_length_le (by omega), List.drop_of_length_le (by omega)]
      simp only [e2, List.take_zero, List.nil_append]
      refine h _ ?_ (below_setRow (Below.refl _ _) hbg _) (fun k hk => setRow_other _ _ _ _ hk)
      show World.ownsRow _ _ _ _ _ _ _
      refine own_of_full (setRow_heap w g _ _ e _ hg) hbg hm ?_
      rw [List.length_append, hcl, List.length_drop, hl]; omega
end
end Go.Proofs.Ythpfiieaanioeaa

namespace Go.Proofs.Ythpfiieaanioeaa
open Go.RowKit

/-- Block g is, as a whole, the cells cs. -/
structure Blk (w : World) (g : Nat) (t : TypeId) (cs : List Value) : Prop where
  heap : w.heap[g]? = some (.cells cs.toArray t (0, 0))
/-- Nothing but block g has turned. -/
structure Only (g : Nat) (w w' : World) : Prop where
  os : w'.os = w.os
  tape : w'.tape = w.tape
  output : w'.output = w.output
  size : w'.heap.size = w.heap.size
  block : ∀ k, k ≠ g → w'.heap[k]? = w.heap[k]?
section
variable {w w' : World} {g : Nat} {t : TypeId} {cs : List Value} {B : Nat}
theorem Blk.lt (h : Blk w g t cs) : g < w.heap.size := (Array.getElem?_eq_some_iff.1 h.heap).1
theorem Blk.new (w : World) (t : TypeId) (cs : List Value) : Blk (w.alloc (.cells cs.toArray t)) w.heap.size t cs := ⟨by show (w.heap.push _)[w.heap.size]? = _; simp⟩
theorem Blk.below (h : Blk w g t cs) (hb : Below B w w') (hg : g < B) : Blk w' g t cs := ⟨(hb.block g hg).trans h.heap⟩
theorem Blk.drew (h : Blk w g t cs) : Blk w.drew g t cs := ⟨h.heap⟩
theorem Blk.drewN (h : Blk w g t cs) (k : Nat) : Blk (w.drewN k) g t cs := ⟨h.heap⟩
theorem Blk.alloc (h : Blk w g t cs) (o : Obj) : Blk (w.alloc o) g t cs := ⟨(Below.heap_alloc w o g h.lt).trans h.heap⟩
theorem Blk.cell? (h : Blk w g t cs) (i : Nat) : w.cell? ⟨g, i, none⟩ = cs[i]? := by
  rw [cell_of_row w g i _ t (0, 0) h.heap]; simp
theorem Blk.cell (h : Blk w g t cs) {i : Nat} (hi : i < cs.length) : w.cell? ⟨g, i, none⟩ = some cs[i] := by
  rw [h.cell? i, List.getElem?_eq_getElem hi]
theorem Blk.frozen (h : Blk w g t cs) (i : Nat) : w.frozen? ⟨g, i, none⟩ = false := by
  simp [World.frozen?, h.heap]
theorem Blk.set (h : Blk w g t cs) (i : Nat) (v : Value) : Blk (w.setCell ⟨g, i, none⟩ v) g t (cs.set i v) := by
  refine ⟨?_⟩
  have hlt := h.lt
  have hv : w.heap[g] = .cells cs.toArray t (0, 0) := (Array.getElem?_eq_some_iff.1 h.heap).2
  unfold World.setCell
  rw [Array.getElem?_eq_getElem (by simpa using hlt), Array.getElem_modify]
  simp [hv]
theorem Blk.other (h : Blk w g t cs) {p : Addr} (hp : g ≠ p.block) (v : Value) : Blk (w.setCell p v) g t cs := ⟨(Below.heap_setCell w p v g hp).trans h.heap⟩
theorem Blk.only {k : Nat} (h : Blk w g t cs) (ho : Only k w w') (hk : g ≠ k) : Blk w' g t cs := ⟨(ho.block g hk).trans h.heap⟩
theorem Only.refl (g : Nat) (w : World) : Only g w w := ⟨rfl, rfl, rfl, rfl, fun _ _ => rfl⟩
theorem Only.trans {w2 : World} (h : Only g w w') (h2 : Only g w' w2) : Only g w w2 :=
  ⟨h2.os.trans h.os, h2.tape.trans h.tape, h2.output.trans h.output, h2.size.trans h.size, fun k hk => (h2.block k hk).trans (h.block k hk)⟩
theorem Only.setCell (w : World) (p : Addr) (v : Value) : Only p.block w (w.setCell p v) :=
  ⟨rfl, rfl, rfl, by simp [World.setCell], fun k hk => Below.heap_setCell _ _ _ _ hk⟩
theorem Only.setRow (w : World) (g : Nat) (cs : Array Value) : Only g w (w.setRow g cs) :=
  ⟨rfl, rfl, rfl, by simp, fun k hk => setRow_other _ _ _ _ hk⟩
theorem Only.drew (h : Only g w w') : Only g w w'.drew := ⟨h.os, h.tape, h.output, h.size, h.block⟩
theorem Only.below (h : Only g w w') (hB : B ≤ g) : Below B w w' := ⟨h.os, h.tape, h.output, by rw [h.size]; exact Nat.le_refl _, fun k hk => h.block k (by omega)⟩
theorem Blk.bytes {l : List UInt8} (h : Blk w g t cs) {o n : Nat} (hB : g < B) (he : (cs.drop o).take n = cells8 l) (hl : l.length = n) (c : Nat) (hc : n ≤ c) (hm : c ≤ maxLen) : Bs w B (some ⟨g, o, none⟩) n c l := by
  refine ⟨hl, hc, hm, (fun h => by cases h), fun h0 => ⟨g, o, rfl, hB, fun j hj => ?_⟩⟩
  rw [h.cell? (o + j)]
  have e := cells8_at l j hj
  rw [← he, List.getElem?_take, if_pos (by omega), List.getElem?_drop] at e
  exact e
end

/-- the type's nought and its size -/
structure Ty (P : Program) (t : TypeId) (zs : List Value) : Prop where
  info : (P.info? t).map (fun i => (i.zero, i.size)) = some (some (.agg zs.toArray), zs.length)
/-- a row or a struct, of so many cells -/
structure Rw (P : Program) (t : TypeId) (d : TypeDesc) (n : Nat) : Prop where
  ty : P.underlying t = some d
  row : d.isRow = true
  size : (P.info? t).map (·.size) = some n

section
variable {P : Program} {w : World} {ops : Array Oper} {rest : List Oper} {o : Oper} {a : Act} {Q : Exit → Act → World → Prop} {t : TypeId}

theorem run_alloc_ty {zs : List Value} (E : Ty P t zs) (w : World) : (Instr.alloc t true (.tuple #[])).run P w = .ok (.pointer (some ⟨w.heap.size, 0, none⟩)) (w.alloc (.cells zs.toArray t)) := by
  obtain ⟨hz, hs⟩ : (∀ w, (zeroValue t).run P w = .ok (.agg zs.toArray) w) ∧ (P.info? t).map (·.size) = some zs.length := by
    have h := E.info
    cases hq : P.info? t with
    | none => simp [hq] at h
    | some i =>
      simp [hq] at h
      exact ⟨fun w => by simp [zeroValue, typeInfo, hq, h.1], by simp [h.2]⟩
  simp [Instr.alloc, Sem.run_bind, hz, newVar, Value.cells]
  rfl
/-- a new variable of many cells -/
theorem wpList_alloc {zs : List Value} (E : Ty P t zs) (hg : o.guard = none) (hop : o.op = .alloc t)
    (h : ∀ w', Blk w' w.heap.size t zs → Below w.heap.size w w' → w'.heap.size = w.heap.size + 1 → wpList P ops Q rest (a.put o.dst (.pointer (some ⟨w.heap.size, 0, none⟩))) w') : wpList P ops Q (o :: rest) a w := by
  refine wpList_plain hg fun K hK => ?_
  unfold Oper.wp
  simp only [execOp, hop, Sem.run_bind, run_alloc_ty E, Result.andThen_ok, Sem.run_pure]
  exact hK _ _ (h _ (Blk.new w t zs) ((Below.refl _ _).alloc (Nat.le_refl _) _) (by simp))
/-- a value of many cells, boxed -/
theorem wpList_box {cs : List Value} (hg : o.guard = none) (x : Operand) (hop : o.op = .box t x) (hx : a.eval x = .agg cs.toArray)
    (h : ∀ w', Blk w' w.heap.size t cs → Below w.heap.size w w' → w'.heap.size = w.heap.size + 1 → wpList P ops Q rest (a.put o.dst (.pointer (some ⟨w.heap.size, 0, none⟩))) w') : wpList P ops Q (o :: rest) a w := by
  refine wpList_plain hg fun K hK => ?_
  unfold Oper.wp
  have hrun : (Instr.box t (.agg cs.toArray)).run P w = .ok (.pointer (some ⟨w.heap.size, 0, none⟩)) (w.alloc (.cells cs.toArray t)) := by
    simp [Instr.box, newVar, Value.cells]
    rfl
  simp only [execOp, hop, hx, Sem.run_bind, hrun, Result.andThen_ok, Sem.run_pure]
  exact hK _ _ (h _ (Blk.new w t cs) ((Below.refl _ _).alloc (Nat.le_refl _) _) (by simp))
/-- many cells, read -/
theorem run_load_rw {d : TypeDesc} {n : Nat} (E : Rw P t d n) {g off : Nat} {t' : TypeId} {cs : List Value} (hb : Blk w g t' cs) (hfit : off + n ≤ cs.length) :
    (Instr.loadAt t (.pointer (some ⟨g, off, none⟩))).run P w = .ok (.agg ((cs.drop off).take n).toArray) w :=
  run_loadAt_mid w g off t ((cs.drop off).take n) d (fun j v hv => by
    rw [hb.cell? (off + j)]
    have hj : j < n := by
      have := (List.getElem?_eq_some_iff.1 hv).1
      simp at this; omega
    rw [List.getElem?_take, if_pos hj, List.getElem?_drop] at hv
    exact hv) E.ty E.row (by rw [E.size]; congr 1; simp; omega)
theorem wpList_load {d : TypeDesc} {n : Nat} (E : Rw P t d n) (hg : o.guard = none) (x : Operand) (hop : o.op = .load t x) {g off : Nat} {t' : TypeId} {cs : List Value} (hx : a.eval x = .pointer (some ⟨g, off, none⟩)) (hb : Blk w g t' cs) (hfit : off + n ≤ cs.length)
    (h : wpList P ops Q rest (a.put o.dst (.agg ((cs.drop off).take n).toArray)) w) : wpList P ops Q (o :: rest) a w := by
  refine wpList_plain hg fun K hK => ?_
  unfold Oper.wp
  simp only [execOp, hop, hx, Sem.run_bind, run_load_rw E hb hfit, Result.andThen_ok, Sem.run_pure]
  exact hK _ _ h
/-- a whole block, read -/
theorem wpList_loadAll {d : TypeDesc} {n : Nat} (E : Rw P t d n) (hg : o.guard = none) (x : Operand) (hop : o.op = .load t x) {g : Nat} {t' : TypeId} {cs : List Value} (hx : a.eval x = .pointer (some ⟨g, 0, none⟩)) (hb : Blk w g t' cs) (hn : cs.length = n)
    (h : wpList P ops Q rest (a.put o.dst (.agg cs.toArray)) w) : wpList P ops Q (o :: rest) a w := by
  refine wpList_load E hg x hop hx hb (by omega) ?_
  rw [List.drop_zero, List.take_of_length_le (by omega)]
  exact h
/-- many cells, written -/
theorem run_store_rw {d : TypeDesc} {n : Nat} (E : Rw P t d n) {g off : Nat} {t' : TypeId} {cs vs : List Value} (hb : Blk w g t' cs) (hn : vs.length = n) (hfit : off + n ≤ cs.length) (h1 : ∀ v ∈ vs, v.oneCell' = true) :
    (Instr.storeAt t (.pointer (some ⟨g, off, none⟩)) (.agg vs.toArray)).run P w = .ok () (w.setRow g (cs.take off ++ vs ++ cs.drop (off + n)).toArray) := by
  have hst := run_storeCells_at (P := P) g off t' vs 0 cs.toArray w hb.heap (by simp; omega) h1
  have hs := E.size
  cases hq : P.info? t with
  | none => simp [hq] at hs
  | some i =>
    have hi : i.size = vs.length := by simp [hq] at hs; omega
    simp only [Nat.add_zero, hn] at hst
    simp [Instr.storeAt, Instr.sureAddr, Sem.run_bind, storeVar, sizeOf, typeInfo, hq, Value.cells, hi, hst]
theorem wpList_store {d : TypeDesc} {n : Nat} (E : Rw P t d n) (hg : o.guard = none) (x y : Operand) (hop : o.op = .store t x y) {g off : Nat} {t' : TypeId} {cs vs : List Value} (hx : a.eval x = .pointer (some ⟨g, off, none⟩)) (hy : a.eval y = .agg vs.toArray) (hb : Blk w g t' cs) (hn : vs.length = n) (hfit : off + n ≤ cs.length) (h1 : ∀ v ∈ vs, v.oneCell' = true)
    (h : ∀ w', Blk w' g t' (cs.take off ++ vs ++ cs.drop (off + n)) → Only g w w' → wpList P ops Q rest (a.put o.dst undef) w') : wpList P ops Q (o :: rest) a w := by
  refine wpList_plain hg fun K hK => ?_
  unfold Oper.wp
  simp only [execOp, hop, hx, hy, Sem.run_bind, run_store_rw E hb hn hfit h1, Result.andThen_ok, Sem.run_pure]
  exact hK _ _ (h _ ⟨setRow_heap w g _ _ t' _ hb.heap⟩ (Only.setRow w g _))
/-- a whole block, written -/
theorem wpList_storeAll {d : TypeDesc} {n : Nat} (E : Rw P t d n) (hg : o.guard = none) (x y : Operand) (hop : o.op = .store t x y) {g : Nat} {t' : TypeId} {cs vs : List Value} (hx : a.eval x = .pointer (some ⟨g, 0, none⟩)) (hb : Blk w g t' cs) (hl : cs.length = n) (hn : vs.length = n) (h1 : ∀ v ∈ vs, v.oneCell' = true) (hy : a.eval y = .agg vs.toArray)
    (h : ∀ w', Blk w' g t' vs → Only g w w' → wpList P ops Q rest (a.put o.dst undef) w') : wpList P ops Q (o :: rest) a w := by
  refine wpList_store E hg x y hop hx hy hb hn (by omega) h1 fun w' hk ho => h w' ?_ ho
  have e : cs.take 0 ++ vs ++ cs.drop (0 + n) = vs := by rw [Nat.zero_add, List.drop_of_length_le (by omega)]; simp
  rwa [e] at hk
/-- the result of many cells -/
theorem ret_arr {fn : Func} {R : Ending → World → Prop} {p : Tmp} {d : TypeDesc} {n : Nat} (hr : fn.results = #[.cell p t]) (E : Rw P t d n) {g : Nat} {t' : TypeId} {cs : List Value} (hx : a.tmps.getD p undef = .pointer (some ⟨g, 0, none⟩)) (hb : Blk w g t' cs) (hn : cs.length = n) (hd : a.defers = [])
    (h : R (.returned (.agg cs.toArray)) w) : bodyPost P fn R .ret a w := by
  have hl := run_load_rw (w := w) E hb (off := 0) (by omega)
  simp only [Instr.loadAt, Instr.sureAddr, Sem.run_bind, Sem.run_pure, Result.andThen_ok] at hl
  have e : (cs.drop 0).take n = cs := by rw [List.drop_zero, List.take_of_length_le (by omega)]
  rw [e] at hl
  have hx' : a.tmps[p]?.getD undef = .pointer (some ⟨g, 0, none⟩) := by simpa using hx
  exact bodyPost_ret (v := .agg cs.toArray) (by simp only [results, hr]; simp [hx', asAddr, hl]) hd h
/-- bytes, copied into a piece of a block -/
theorem wpList_copyBlk {tS e : TypeId} {z : Value} {bytes : Nat} (E : El P tS e z bytes) (hgd : o.guard = none) (d s : Operand)
    (ho : o.op = .call { callee := .builtin .copy, args := #[d, s], argTypes := #[tS, tS] })
    {g off dl dc : Nat} {t' : TypeId} {cs : List Value} (hd : a.eval d = .slice (some ⟨g, off, none⟩) dl dc) (hk : Blk w g t' cs) (hfit : off + dl ≤ cs.length)
    {L : Nat} {A : Option Addr} {m c : Nat} {l : List UInt8} (hs : a.eval s = .slice A m c) (hb : Bs w L A m c l)
    (h : ∀ w', Blk w' g t' (cs.take off ++ (cells8 (l.take dl) ++ cs.drop (off + min m dl))) → Only g w w' → wpList P ops Q rest (a.put o.dst (goInt (min m dl : Nat))) w') :
    wpList P ops Q (o :: rest) a w := by
  have hlm := hb.len
  obtain ⟨i, hi, hz0, hz1, hz2⟩ := info_parts E.info
  have hsz : (P.info? e).map (·.size) = some 1 := by rw [hi]; simp [hz1]
  by_cases h0 : min m dl = 0
  · refine wpList_copy_nothing hgd d s tS tS ho e E.ty hsz _ _ _ _ _ _ hd hs h0 ?_
    have e1 : cs.take off ++ (cells8 (l.take dl) ++ cs.drop (off + min m dl)) = cs := by
      have e2 : l.take dl = [] := by
        rcases Nat.eq_zero_or_pos m with h1 | h1
        · have : l = [] := List.eq_nil_of_length_eq_zero (by omega)
          rw [this]; simp
        · have : dl = 0 := by omega
          rw [this]; simp
      rw [e2, h0]
      simp [cells8]
    have := h w (by rw [e1]; exact hk) (Only.refl _ _)
    rwa [h0] at this
  · obtain ⟨b, o', rfl, _, _⟩ := hb.cells (by omega)
    have hcl : (cells8 (l.take dl)).length = min m dl := by rw [cells8_length]; simp; omega
    have hns := hb.news _ rfl
    refine wpList_copy_own hgd d s tS tS ho e E.ty hsz g off dl dc _ m c hd hs cs.toArray t' hk.heap (cells8 (l.take dl)) hcl (fun j v hj => hns j v ?_) (by rw [hcl]; simp; omega) (cells8_one _) ?_
    · obtain ⟨hj', rfl⟩ := cells8_some hj
      rw [cells8_at l j (by simp at hj'; omega)]
      simp
    · rw [hcl]
      exact h _ ⟨setRow_heap w g _ _ t' _ hk.heap⟩ (Only.setRow w g _)
/-- many cells, read in a region whose order is open -/
theorem wpStill_load {Q : Act → Prop} {d : TypeDesc} {n : Nat} (E : Rw P t d n) (hw : Region.wanted o (yielded ops a.tmps) = true) (x : Operand) (hop : o.op = .load t x) {g off : Nat} {t' : TypeId} {cs vs : List Value} (hx : a.eval x = .pointer (some ⟨g, off, none⟩)) (hb : Blk w g t' cs) (hfit : off + n ≤ cs.length) (hvs : (cs.drop off).take n = vs)
    (h : wpStill P ops w Q rest (a.put o.dst (.agg vs.toArray))) : wpStill P ops w Q (o :: rest) a := by
  subst hvs
  refine wpStill_step fun K hK => ?_
  rw [if_pos hw]
  unfold Oper.still
  simp only [execOp, hop, hx, Sem.run_bind, run_load_rw E hb hfit, Result.andThen_ok, Sem.run_pure]
  exact ⟨rfl, hK _ h⟩
/-- many cells, written in a region whose order is open -/
theorem step_store {K : Act → World → Prop} {C : Prop} {d : TypeDesc} {n : Nat} (E : Rw P t d n) (hgd : o.guard = none) (x y : Operand) (hop : o.op = .store t x y) {g off : Nat} {t' : TypeId} {cs vs : List Value} (hx : a.eval x = .pointer (some ⟨g, off, none⟩)) (hy : a.eval y = .agg vs.toArray) (hb : Blk w g t' cs) (hn : vs.length = n) (hfit : off + n ≤ cs.length) (h1 : ∀ v ∈ vs, v.oneCell' = true)
    (h : ∀ w', Blk w' g t' (cs.take off ++ vs ++ cs.drop (off + n)) → Only g w w' → K (a.put o.dst undef) w') :
    if Region.wanted o (yielded ops a.tmps) = true then Oper.wp P o a w K Q else C := by
  have hw : Region.wanted o (yielded ops a.tmps) = true := by simp [Region.wanted, hgd]
  rw [if_pos hw]
  unfold Oper.wp
  simp only [execOp, hop, hx, hy, Sem.run_bind, run_store_rw E hb hn hfit h1, Result.andThen_ok, Sem.run_pure]
  exact h _ ⟨setRow_heap w g _ _ t' _ hb.heap⟩ (Only.setRow w g _)
theorem Blk.range {g off n : Nat} {t' : TypeId} {cs vs : List Value} (hb : Blk w g t' cs) (hvs : (cs.drop off).take n = vs) : w.rangeAt g off vs := fun j v hv => by
  subst hvs
  rw [hb.cell? (off + j)]
  have hj : j < n := by
    have := (List.getElem?_eq_some_iff.1 hv).1
    simp at this; omega
  rw [List.getElem?_take, if_pos hj, List.getElem?_drop] at hv
  exact hv
theorem range_below {g off B : Nat} {vs : List Value} {w' : World} (h : w.rangeAt g off vs) (hb : Below B w w') (hg : g < B) : w'.rangeAt g off vs := fun j v hv => (hb.cell (p := ⟨g, off + j, none⟩) hg).trans (h j v hv)
theorem step_load {K : Act → World → Prop} {C : Prop} {d : TypeDesc} {n : Nat} (E : Rw P t d n) (hgd : o.guard = none) (x : Operand) (hop : o.op = .load t x) {g off : Nat} {t' : TypeId} {cs vs : List Value} (hx : a.eval x = .pointer (some ⟨g, off, none⟩)) (hb : Blk w g t' cs) (hfit : off + n ≤ cs.length) (hvs : (cs.drop off).take n = vs)
    (h : K (a.put o.dst (.agg vs.toArray)) w) : if Region.wanted o (yielded ops a.tmps) = true then Oper.wp P o a w K Q else C := by
  subst hvs
  have hw : Region.wanted o (yielded ops a.tmps) = true := by simp [Region.wanted, hgd]
  rw [if_pos hw]
  unfold Oper.wp
  simp only [execOp, hop, hx, Sem.run_bind, run_load_rw E hb hfit, Result.andThen_ok, Sem.run_pure]
  exact h
end
end Go.Proofs.Ythpfiieaanioeaa
