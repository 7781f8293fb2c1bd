/- Byte slices and lists of them as the walks read them: definitions and small lemmas; no program is named here.
   Arguments that came in, as the walks read them: byte slices, slices of numbers, lists of byte slices. No program is named here.
   Laws of the walk for append and make over rows of one-cell elements; no program is named here.
   The element types of this seat's slices.
   Numbers as bytes, the greatest first, and back: plain lemmas.
   The contracts of codec.Get and of the document's Get and Put.
    -/
import Derived.WalkKit
import Derived.WalkSpells
import Derived.WalkLawsBesides
import Derived.Lib.Hide
import Derived.Laws.BytesArg
import Derived.Laws.IdiomStrings
import Derived.Laws.CopyOwn
import Derived.Deep.Draws
import Derived.Deep.OwnRows
import Derived.Maps.AppendAt
import Derived.Deep.AppendLies
import Derived.ProofKit
import Derived.OpenShut
import Derived.ChangeOld
import Derived.Below
import Derived.Deep.Matrix
import Derived.SizedLaws
import Derived.Test.YtadpfbjpkbpanaaRows
namespace Go.Proofs.Ytadpfbjpkbpanaa
open Go.RowKit

/-- the cells of bytes -/
def cells8 (l : List UInt8) : List Value := l.map fun b => Value.int .u8 (b.toNat : Int)
theorem cells8_length (l : List UInt8) : (cells8 l).length = l.length := by simp [cells8]
theorem cells8_append (l m : List UInt8) : cells8 (l ++ m) = cells8 l ++ cells8 m := by simp [cells8]
theorem cells8_one (l : List UInt8) : ∀ u ∈ cells8 l, u.oneCell' = true := by
  intro u hu
  obtain ⟨_, _, rfl⟩ := List.mem_map.1 hu
  rfl
theorem cells8_at (l : List UInt8) (j : Nat) (h : j < l.length) : (cells8 l)[j]? = some (.int .u8 (l[j].toNat : Int)) := by
  simp [cells8, List.getElem?_eq_getElem h]
theorem cells8_some {l : List UInt8} {j : Nat} {u : Value} (h : (cells8 l)[j]? = some u) : ∃ hj : j < l.length, u = .int .u8 (l[j].toNat : Int) := by
  have hj : j < l.length := by
    have := (List.getElem?_eq_some_iff.1 h).1
    simpa [cells8] using this
  refine ⟨hj, ?_⟩
  rw [cells8_at l j hj] at h
  exact (Option.some.inj h).symm

/-- A slice of n of room c at A reads as the bytes l; its cells lie below block B. -/
structure Bs (w : World) (B : Nat) (A : Option Addr) (n c : Nat) (l : List UInt8) : Prop where
  len : l.length = n
  cap : n ≤ c
  max : c ≤ maxLen
  nil : A = none → c = 0
  cells : 0 < n → ∃ b o, A = some ⟨b, o, none⟩ ∧ b < B ∧ ∀ j (h : j < l.length), w.cell? ⟨b, o + j, none⟩ = some (.int .u8 (l[j].toNat : Int))

section
variable {w w' : World} {B B' : Nat} {A : Option Addr} {n c : Nat} {l : List UInt8}
theorem Bs.zero (w : World) (B : Nat) : Bs w B none 0 0 [] := ⟨rfl, Nat.le_refl _, Nat.zero_le _, fun _ => rfl, fun h => absurd h (by omega)⟩
theorem Bs.le (h : Bs w B A n c l) : n ≤ 9223372036854775807 := by have := h.cap; have := h.max; simp only [maxLen] at this; omega
theorem Bs.keep (h : Bs w B A n c l) (hk : ∀ p : Addr, p.block < B → w'.cell? p = w.cell? p) : Bs w' B A n c l :=
  ⟨h.len, h.cap, h.max, h.nil, fun h0 => by
    obtain ⟨b, o, hA, hb, hc⟩ := h.cells h0
    exact ⟨b, o, hA, hb, fun j hj => (hk _ hb).trans (hc j hj)⟩⟩
theorem Bs.more (h : Bs w B A n c l) (hB : B ≤ B') : Bs w B' A n c l :=
  ⟨h.len, h.cap, h.max, h.nil, fun h0 => by
    obtain ⟨b, o, hA, hb, hc⟩ := h.cells h0
    exact ⟨b, o, hA, by omega, hc⟩⟩
theorem Bs.below (h : Bs w B A n c l) (hb : Below B w w') : Bs w' B A n c l := h.keep fun _ hp => hb.cell hp
theorem Bs.below' (h : Bs w B A n c l) (hb : Below B' w w') (hB : B ≤ B') : Bs w' B A n c l := h.below (hb.mono hB)
theorem Bs.drew (h : Bs w B A n c l) : Bs w.drew B A n c l := h.keep fun _ _ => rfl
theorem Bs.drewN (h : Bs w B A n c l) (k : Nat) : Bs (w.drewN k) B A n c l := h.keep fun _ _ => rfl
theorem Bs.alloc (h : Bs w B A n c l) (hB : B ≤ w.heap.size) (o : Obj) : Bs (w.alloc o) B A n c l := h.below ((Below.refl _ _).alloc hB o)
theorem Bs.setCell (h : Bs w B A n c l) {p : Addr} (hB : B ≤ p.block) (u : Value) : Bs (w.setCell p u) B A n c l := h.below ((Below.refl _ _).setCell hB u)
theorem Bs.cell (h : Bs w B A n c l) {i : Nat} (hi : i < n) : ∃ b o, A = some ⟨b, o, none⟩ ∧ b < B ∧ w.cell? ⟨b, o + i, none⟩ = some (.int .u8 ((l[i]'(by have := h.len; omega)).toNat : Int)) := by
  obtain ⟨b, o, hA, hb, hc⟩ := h.cells (by omega)
  exact ⟨b, o, hA, hb, hc i (by have := h.len; omega)⟩
theorem Bs.news (h : Bs w B A n c l) : ∀ ad, A = some ad → ∀ j u, (cells8 l)[j]? = some u → w.cell? (ad.add j) = some u := by
  intro ad hA j u hu
  obtain ⟨hj, rfl⟩ := cells8_some hu
  obtain ⟨b, o, hA', _, hc⟩ := h.cells (by have := h.len; omega)
  rw [hA] at hA'
  obtain rfl := Option.some.inj hA'
  rw [Addr.add_lit]
  exact hc j hj
theorem Bs.of_own {base : Nat} {e : TypeId} {v : Value} (h : w.ownsRow base e 1 v n (cells8 l)) : ∃ A c, v = .slice A n c ∧ Bs w w.heap.size A n c l := by
  have hl : l.length = n := by have := h.1; rw [cells8_length] at this; omega
  rcases h.2 with ⟨rfl, rfl⟩ | ⟨g, cap, cur, rfl, hg, hh, hn, hm, hs, ht⟩
  · obtain rfl : l = [] := List.eq_nil_of_length_eq_zero hl
    exact ⟨none, 0, rfl, Bs.zero w _⟩
  · refine ⟨some ⟨g, 0, none⟩, cap, rfl, hl, hn, hm, (fun h => by cases h), fun h0 => ⟨g, 0, rfl, (Array.getElem?_eq_some_iff.1 hh).1, fun j hj => ?_⟩⟩
    have := h.cells (g := g) rfl j _ (cells8_at l j hj)
    rwa [Addr.add_lit] at this
/-- a piece of it -/
theorem Bs.cut (h : Bs w B A n c l) {i k : Nat} (hik : i ≤ k) (hk : k ≤ n) :
    Bs w B (if c = i then A else A.map (·.add i)) (k - i) (c - i) ((l.take k).drop i) := by
  have hl := h.len
  have hc := h.cap
  refine ⟨by simp; omega, by omega, by have := h.max; omega, fun hn => ?_, fun h0 => ?_⟩
  · by_cases e : c = i
    · omega
    · rw [if_neg e] at hn
      have : A = none := by simpa using hn
      have := h.nil this
      omega
  · obtain ⟨b, o, hA, hb, hcell⟩ := h.cells (by omega)
    refine ⟨b, o + i, ?_, hb, fun j hj => ?_⟩
    · rw [if_neg (by omega), hA]
      simp [Addr.add]
    · have hj' : i + j < l.length := by simp at hj; omega
      rw [Nat.add_assoc, hcell (i + j) hj']
      simp
/-- the text of it -/
theorem Bs.text {P : Program} (h : Bs w B A n c l) {src dst e : TypeId} (hs : P.underlying src = some (.slice e)) (he : P.underlying e = some (.int .u8)) (hd : P.underlying dst = some .string) :
    (convert src dst (.slice A n c)).run P w = .ok (.string ⟨l.toArray⟩) w := by
  have hl := h.len
  rcases Nat.eq_zero_or_pos n with h0 | h0
  · subst h0
    obtain rfl : l = [] := List.eq_nil_of_length_eq_zero hl
    cases A with
    | none => exact run_convert_bytes_nil w src e hs he _ _ _ hd
    | some a => exact run_convert_bytes_back w src dst e a c [] hs he hd (fun j hj => absurd hj (by simp))
  · obtain ⟨b, o, rfl, hb, hcell⟩ := h.cells h0
    rw [← hl]
    exact run_convert_bytes_back w src dst e ⟨b, o, none⟩ c l hs he hd (fun j hj => by rw [Addr.add_lit]; exact hcell j hj)
end

/-- A slice of n of room c at A reads as the lists ls of bytes; all lies below block B. -/
structure Ls (w : World) (B : Nat) (A : Option Addr) (n c : Nat) (ls : List (List UInt8)) : Prop where
  len : ls.length = n
  cap : n ≤ c
  max : c ≤ maxLen
  nil : A = none → c = 0
  cells : 0 < n → ∃ b o, A = some ⟨b, o, none⟩ ∧ b < B ∧ ∀ j (h : j < ls.length), ∃ A' n' c', w.cell? ⟨b, o + j, none⟩ = some (.slice A' n' c') ∧ Bs w B A' n' c' ls[j]
section
variable {w w' : World} {B B' : Nat} {A : Option Addr} {n c : Nat} {ls : List (List UInt8)}
theorem Ls.zero (w : World) (B : Nat) : Ls w B none 0 0 [] := ⟨rfl, Nat.le_refl _, Nat.zero_le _, fun _ => rfl, fun h => absurd h (by omega)⟩
theorem Ls.le (h : Ls w B A n c ls) : n ≤ 9223372036854775807 := by have := h.cap; have := h.max; simp only [maxLen] at this; omega
theorem Ls.keep (h : Ls w B A n c ls) (hk : ∀ p : Addr, p.block < B → w'.cell? p = w.cell? p) : Ls w' B A n c ls :=
  ⟨h.len, h.cap, h.max, h.nil, fun h0 => by
    obtain ⟨b, o, hA, hb, hc⟩ := h.cells h0
    refine ⟨b, o, hA, hb, fun j hj => ?_⟩
    obtain ⟨A', n', c', h1, h2⟩ := hc j hj
    exact ⟨A', n', c', (hk _ hb).trans h1, h2.keep hk⟩⟩
theorem Ls.more (h : Ls w B A n c ls) (hB : B ≤ B') : Ls w B' A n c ls :=
  ⟨h.len, h.cap, h.max, h.nil, fun h0 => by
    obtain ⟨b, o, hA, hb, hc⟩ := h.cells h0
    refine ⟨b, o, hA, by omega, fun j hj => ?_⟩
    obtain ⟨A', n', c', h1, h2⟩ := hc j hj
    exact ⟨A', n', c', h1, h2.more hB⟩⟩
theorem Ls.below (h : Ls w B A n c ls) (hb : Below B w w') : Ls w' B A n c ls := h.keep fun _ hp => hb.cell hp
theorem Ls.below' (h : Ls w B A n c ls) (hb : Below B' w w') (hB : B ≤ B') : Ls w' B A n c ls := h.below (hb.mono hB)
theorem Ls.drew (h : Ls w B A n c ls) : Ls w.drew B A n c ls := h.keep fun _ _ => rfl
theorem Ls.drewN (h : Ls w B A n c ls) (k : Nat) : Ls (w.drewN k) B A n c ls := h.keep fun _ _ => rfl
theorem Ls.alloc (h : Ls w B A n c ls) (hB : B ≤ w.heap.size) (o : Obj) : Ls (w.alloc o) B A n c ls := h.below ((Below.refl _ _).alloc hB o)
theorem Ls.at (h : Ls w B A n c ls) {i : Nat} (hi : i < n) : ∃ b o A' n' c', A = some ⟨b, o, none⟩ ∧ b < B ∧ w.cell? ⟨b, o + i, none⟩ = some (.slice A' n' c') ∧ Bs w B A' n' c' (ls[i]'(by have := h.len; omega)) := by
  obtain ⟨b, o, hA, hb, hc⟩ := h.cells (by omega)
  obtain ⟨A', n', c', h1, h2⟩ := hc i (by have := h.len; omega)
  exact ⟨b, o, A', n', c', hA, hb, h1, h2⟩
end

/-- A slice of n of room c at A reads as the numbers zs. -/
structure Zs (w : World) (B : Nat) (k : IntKind) (A : Option Addr) (n c : Nat) (zs : List Int) : Prop where
  len : zs.length = n
  cap : n ≤ c
  max : c ≤ maxLen
  nil : A = none → c = 0
  wf : ∀ z ∈ zs, (Lit.int k z).wf = true
  cells : 0 < n → ∃ b o, A = some ⟨b, o, none⟩ ∧ b < B ∧ ∀ j (h : j < zs.length), w.cell? ⟨b, o + j, none⟩ = some (.int k zs[j])
section
variable {w w' : World} {B B' : Nat} {k : IntKind} {A : Option Addr} {n c : Nat} {zs : List Int}
theorem Zs.le (h : Zs w B k A n c zs) : n ≤ 9223372036854775807 := by have := h.cap; have := h.max; simp only [maxLen] at this; omega
theorem Zs.keep (h : Zs w B k A n c zs) (hk : ∀ p : Addr, p.block < B → w'.cell? p = w.cell? p) : Zs w' B k A n c zs :=
  ⟨h.len, h.cap, h.max, h.nil, h.wf, fun h0 => by
    obtain ⟨b, o, hA, hb, hc⟩ := h.cells h0
    exact ⟨b, o, hA, hb, fun j hj => (hk _ hb).trans (hc j hj)⟩⟩
theorem Zs.more (h : Zs w B k A n c zs) (hB : B ≤ B') : Zs w B' k A n c zs :=
  ⟨h.len, h.cap, h.max, h.nil, h.wf, fun h0 => by
    obtain ⟨b, o, hA, hb, hc⟩ := h.cells h0
    exact ⟨b, o, hA, by omega, hc⟩⟩
theorem Zs.below (h : Zs w B k A n c zs) (hb : Below B w w') : Zs w' B k A n c zs := h.keep fun _ hp => hb.cell hp
theorem Zs.below' (h : Zs w B k A n c zs) (hb : Below B' w w') (hB : B ≤ B') : Zs w' B k A n c zs := h.below (hb.mono hB)
theorem Zs.drew (h : Zs w B k A n c zs) : Zs w.drew B k A n c zs := h.keep fun _ _ => rfl
theorem Zs.alloc (h : Zs w B k A n c zs) (hB : B ≤ w.heap.size) (o : Obj) : Zs (w.alloc o) B k A n c zs := h.below ((Below.refl _ _).alloc hB o)
theorem Zs.at (h : Zs w B k A n c zs) {i : Nat} (hi : i < n) : ∃ b o, A = some ⟨b, o, none⟩ ∧ b < B ∧ w.cell? ⟨b, o + i, none⟩ = some (.int k (zs[i]'(by have := h.len; omega))) := by
  obtain ⟨b, o, hA, hb, hc⟩ := h.cells (by omega)
  exact ⟨b, o, hA, hb, hc i (by have := h.len; omega)⟩
end

/-- a fact that no tactic looks into, and that none unfolds -/
structure Kp (p : Prop) : Prop where
  out : p
theorem below_next {w0 w1 w2 : World} (h1 : Below w0.heap.size w0 w1) (h2 : Below w1.heap.size w1 w2) : Below w0.heap.size w0 w2 := h1.trans (h2.mono h1.size)
theorem Bs.next {w0 w1 : World} {B : Nat} {A : Option Addr} {n c : Nat} {l : List UInt8} (h : Bs w0 B A n c l) (hb : Below w0.heap.size w0 w1) (hB : B ≤ w0.heap.size) : Bs w1 w1.heap.size A n c l :=
  (h.below (hb.mono hB)).more (Nat.le_trans hB hb.size)
theorem ret_eq {a b : Value} (h : a = b) : Ending.returned a = .returned b := by rw [h]
end Go.Proofs.Ytadpfbjpkbpanaa

namespace Go.Proofs.Ytadpfbjpkbpanaa
open Go.ChangeShapes Go.WideShapes Go.ChangeAt Go.RowKit Go.Deep

theorem spot_of_cell {w : World} {a : Addr} {v : Value} (h : w.cell? a = some v) : a.spot = none := by
  unfold World.cell? at h
  split at h
  · split at h
    · cases h
    · rename_i hs
      cases hsp : a.spot with
      | none => rfl
      | some x => simp [hsp] at hs
  · cases h
theorem add_none (a : Addr) : a.add 0 = a := by simp [Addr.add]
theorem addr_lit {a : Addr} (h : a.spot = none) : a = ⟨a.block, a.off, none⟩ := by
  obtain ⟨b, o, s⟩ := a
  simp at h; subst h; rfl

def bytesOfInts (zs : List Int) : List UInt8 := zs.map fun z => UInt8.ofNat z.toNat
theorem byte_back {z : Int} (h : (Lit.int .u8 z).wf = true) : (((UInt8.ofNat z.toNat).toNat : Nat) : Int) = z := by
  have hb : 0 ≤ z ∧ z ≤ 255 := by simpa [Lit.wf, IntKind.min, IntKind.max, IntKind.signed, IntKind.bits] using h
  have : (UInt8.ofNat z.toNat).toNat = z.toNat % 256 := rfl
  omega
theorem bs_of_cells {w : World} {a : Addr} {len cap : Nat} {zs : List Int} (hl : len ≤ cap) (hm : cap ≤ maxLen) (hz : zs.length = cap) (hcell : ∀ i, i < zs.length → w.cell? (a.add i) = some (.int .u8 (zs.getD i 0)))
    (hw : ∀ n ∈ zs, (Lit.int .u8 n).wf = true) : Bs w w.heap.size (some a) len cap (bytesOfInts (zs.take len)) := by
  refine ⟨by simp [bytesOfInts]; omega, hl, hm, (fun h => by cases h), fun h0 => ?_⟩
  have h1 := hcell 0 (by omega)
  rw [add_none] at h1
  have hs := spot_of_cell h1
  refine ⟨a.block, a.off, by rw [← addr_lit hs], World.block_lt_of_cell? w a h1, fun j hj => ?_⟩
  have hj' : j < zs.length := by simp [bytesOfInts] at hj; omega
  have h2 := hcell j hj'
  rw [addr_lit hs, Addr.add_lit] at h2
  rw [h2]
  simp only [bytesOfInts, List.getElem_map, List.getElem_take]
  rw [byte_back (hw _ (List.getElem_mem hj'))]
  simp [List.getD, List.getElem?_eq_getElem hj']

section
variable {H : Type} {P : Program} {enc : TypeId × Value → H} {W : World} {t e : TypeId} {a : Option Addr} {len cap : Nat} {d : DataW H} {p : List MemPlace}

theorem mem_weightsAll {n : Nat} {x : DataW H} : ∀ {l : List (DataW H)}, x ∈ l → n ∈ x.weights P e → n ∈ DataW.weightsAll P e l
  | [], h, _ => by cases h
  | y :: r, h, hn => by
    simp only [DataW.weightsAll, List.mem_append]
    rcases List.mem_cons.1 h with rfl | h
    · exact .inl hn
    · exact .inr (mem_weightsAll h hn)
theorem reach_of {ts : List TypeId} {ds : List (DataW H)} (h : (DataW.weightsEach P ts ds).all (· ≤ reachBytes) = true) {j : Nat} (ht : ts[j]? = some t) (hd : ds[j]? = some d) : ∀ n ∈ d.weights P t, n ≤ reachBytes := by
  intro n hn
  have := List.all_eq_true.1 h _ (DataW.weights_mem_each ht hd n hn)
  simpa using this
theorem slice_reach {elems spare : List (DataW H)} (ht : P.underlying t = some (.slice e)) (h : ∀ n ∈ (DataW.slice elems spare).weights P t, n ≤ reachBytes) : (elems.length + spare.length) * P.bytesOf e ≤ reachBytes :=
  h _ (by simp [DataW.weights, ht])
theorem slice_reach_in {elems spare : List (DataW H)} (ht : P.underlying t = some (.slice e)) (h : ∀ n ∈ (DataW.slice elems spare).weights P t, n ≤ reachBytes) : ∀ x ∈ elems, ∀ n ∈ x.weights P e, n ≤ reachBytes :=
  fun x hx n hn => h n (by simp only [DataW.weights, ht]; exact List.mem_cons_of_mem _ (List.mem_append_left _ (mem_weightsAll hx hn)))

/-- a byte slice -/
theorem bs_open (ht : P.underlying t = some (.slice e)) (he : P.underlying e = some (.int .u8)) (hc : P.cellsOf e = 1) (hb : P.bytesOf e = 1)
    (h : DataW.Trod enc P W 0 (fun _ => true) true t (.slice a len cap) d p) (hr : ∀ n ∈ d.weights P t, n ≤ reachBytes) : ∃ l, Bs W W.heap.size a len cap l ∧ cap ≤ 140737488351232 := by
  obtain ⟨fuel, hf⟩ := h
  rcases open_ints ht he hc hf with ⟨hcs, _⟩ | ⟨x, l, c, zs, hcs, _, hl, hm, hz, hx, hcell, hwz⟩
  · simp [Value.cells] at hcs
    obtain ⟨rfl, rfl, rfl⟩ := hcs
    exact ⟨[], Bs.zero _ _, by omega⟩
  · simp [Value.cells] at hcs
    obtain ⟨rfl, rfl, rfl⟩ := hcs
    obtain ⟨rfl, _⟩ := Prod.mk.inj hx
    have h1 := slice_reach ht hr
    rw [hb] at h1
    simp only [lits, List.length_map, List.length_take, List.length_drop, reachBytes] at h1
    have hz' : zs.length = cap := by simpa using hz
    exact ⟨_, bs_of_cells hl hm hz' hcell hwz, by omega⟩
/-- a slice of numbers -/
theorem zs_open {k : IntKind} {by_ : Nat} (ht : P.underlying t = some (.slice e)) (he : P.underlying e = some (.int k)) (hc : P.cellsOf e = 1) (hb : P.bytesOf e = by_)
    (h : DataW.Trod enc P W 0 (fun _ => true) true t (.slice a len cap) d p) (hr : ∀ n ∈ d.weights P t, n ≤ reachBytes) : ∃ zs, Zs W W.heap.size k a len cap zs ∧ cap * by_ ≤ 140737488351232 := by
  obtain ⟨fuel, hf⟩ := h
  rcases open_ints ht he hc hf with ⟨hcs, _⟩ | ⟨x, l, c, zs, hcs, _, hl, hm, hz, hx, hcell, hwz⟩
  · simp [Value.cells] at hcs
    obtain ⟨rfl, rfl, rfl⟩ := hcs
    exact ⟨[], ⟨rfl, Nat.le_refl _, Nat.zero_le _, fun _ => rfl, (fun z hz => by cases hz), fun h => absurd h (by omega)⟩, by omega⟩
  · simp [Value.cells] at hcs
    obtain ⟨rfl, rfl, rfl⟩ := hcs
    obtain ⟨rfl, _⟩ := Prod.mk.inj hx
    have hz' : zs.length = cap := by simpa using hz
    refine ⟨zs.take len, ⟨by simp; omega, hl, hm, (fun h => by cases h), fun z hz => hwz z (List.mem_of_mem_take hz), fun h0 => ?_⟩, ?_⟩
    · have h1 := hcell 0 (by omega)
      rw [add_none] at h1
      have hs := spot_of_cell h1
      refine ⟨x.block, x.off, by rw [← addr_lit hs], World.block_lt_of_cell? W x h1, fun j hj => ?_⟩
      have hj' : j < zs.length := by simp at hj; omega
      have h2 := hcell j hj'
      rw [addr_lit hs, Addr.add_lit] at h2
      rw [h2]
      simp [List.getD, List.getElem?_eq_getElem hj']
    · have h1 := slice_reach ht hr
      rw [hb] at h1
      simp only [lits, List.length_map, List.length_take, List.length_drop, reachBytes] at h1
      rwa [show min len zs.length + (zs.length - len) = cap by omega] at h1
/-- a list of byte slices -/
theorem ls_open {q : TypeId} (ht : P.underlying t = some (.slice e)) (he : P.underlying e = some (.slice q)) (hq : P.underlying q = some (.int .u8)) (ce : P.cellsOf e = 1) (cq : P.cellsOf q = 1) (be : P.bytesOf e = 24) (bq : P.bytesOf q = 1)
    (h : DataW.Trod enc P W 0 (fun _ => true) true t (.slice a len cap) d p) (hr : ∀ n ∈ d.weights P t, n ≤ reachBytes) :
    ∃ ls, Ls W W.heap.size a len cap ls ∧ cap * 24 ≤ 140737488351232 ∧ ∀ x ∈ ls, x.length ≤ 140737488351232 := by
  obtain ⟨fuel, hf⟩ := h
  rcases open_int_rows ht he hq ce cq hf with ⟨hcs, _⟩ | ⟨x, l, c, A, L, C, Z, hcs, _, hl, hm, hx, hrow⟩
  · simp [Value.cells] at hcs
    obtain ⟨rfl, rfl, rfl⟩ := hcs
    exact ⟨[], Ls.zero _ _, by omega, fun x hx => by cases hx⟩
  · simp [Value.cells] at hcs
    obtain ⟨rfl, rfl, rfl⟩ := hcs
    obtain ⟨rfl, _⟩ := Prod.mk.inj hx
    refine ⟨(List.range len).map fun r => bytesOfInts ((Z r).take (L r)), ⟨by simp, hl, hm, (fun h => by cases h), fun h0 => ?_⟩, ?_, fun y hy => ?_⟩
    · have h1 := (hrow 0 (by omega)).1
      rw [add_none] at h1
      have hs := spot_of_cell h1
      refine ⟨x.block, x.off, by rw [← addr_lit hs], World.block_lt_of_cell? W x h1, fun j hj => ?_⟩
      have hj' : j < len := by simpa using hj
      obtain ⟨hc, hL, hC, hZ, hw, hn, hA⟩ := hrow j (by omega)
      refine ⟨A j, L j, C j, ?_, ?_⟩
      · rw [addr_lit hs, Addr.add_lit] at hc
        exact hc
      · simp only [List.getElem_map, List.getElem_range]
        cases hAj : A j with
        | none =>
          have h2 := hn hAj
          have h3 : L j = 0 := by omega
          rw [h2, h3]
          simp [bytesOfInts]
          exact Bs.zero _ _
        | some a' =>
          refine bs_of_cells hL hC hZ (fun i hi => ?_) hw
          exact (hA a' hAj).2 i (by omega)
    · have h1 := slice_reach ht hr
      rw [be] at h1
      simp only [List.length_map, List.length_range, reachBytes] at h1
      rwa [show len + (cap - len) = cap by omega] at h1
    · obtain ⟨r, hr1, rfl⟩ := List.mem_map.1 hy
      have hr2 : r < len := by simpa using hr1
      obtain ⟨hc, hL, hC, hZ, hw, hn, hA⟩ := hrow r (by omega)
      have h1 := slice_reach_in ht hr (intRow .u8 (A r) (L r) (Z r)) (List.mem_map.2 ⟨r, hr1, rfl⟩)
      have hlen : (bytesOfInts ((Z r).take (L r))).length ≤ L r := by simp [bytesOfInts]; omega
      cases hAr : A r with
      | none => have := hn hAr; omega
      | some a' =>
        rw [hAr] at h1
        have h2 := slice_reach he h1
        rw [bq] at h2
        simp only [lits, List.length_map, List.length_take, List.length_drop, reachBytes] at h2
        omega
end
end Go.Proofs.Ytadpfbjpkbpanaa

namespace Go.Proofs.Ytadpfbjpkbpanaa
open Go.RowKit

/-- the element type e of the slice type t: its nought z, one cell, so many bytes -/
structure El (P : Program) (t e : TypeId) (z : Value) (bytes : Nat) : Prop where
  ty : P.underlying t = some (.slice e)
  info : (P.info? e).map (fun i => (i.zero, i.size, i.bytes)) = some (some z, 1, bytes)
  one : z.cells = #[z]

theorem own_nil (w : World) (base : Nat) (e : TypeId) : w.ownsRow base e 1 (.slice none 0 0) 0 [] := World.ownsRow_nil _ _ _ _

/-- what is owned stays, where nothing that was there turns -/
theorem own_below {w w' : World} {base : Nat} {e : TypeId} {v : Value} {n : Nat} {xs : List Value} (h : w.ownsRow base e 1 v n xs) (hb : Below w.heap.size w w') : w'.ownsRow base e 1 v n xs :=
  h.kept (row := none) ⟨hb.os, hb.tape, hb.output, hb.size, fun j hj _ => hb.block j hj⟩ (by cases v.ownBlock <;> simp)
/-- where a row lies -/
theorem own_form {w : World} {base : Nat} {e : TypeId} {v : Value} {n : Nat} {xs : List Value} (h : w.ownsRow base e 1 v n xs) :
    ∃ A c, v = .slice A n c ∧ n ≤ c ∧ c ≤ maxLen ∧ (A = none → c = 0 ∧ n = 0) ∧ (∀ ad, A = some ad → ∃ g, ad = ⟨g, 0, none⟩ ∧ base ≤ g ∧ g < w.heap.size) := by
  rcases h.2 with ⟨rfl, rfl⟩ | ⟨g, cap, cur, rfl, hg, hh, hn, hm, hs, ht⟩
  · exact ⟨none, 0, rfl, Nat.le_refl _, Nat.zero_le _, fun _ => ⟨rfl, rfl⟩, fun ad h => by cases h⟩
  · exact ⟨_, cap, rfl, hn, hm, fun h => (by cases h), fun ad h => ⟨g, (Option.some.inj h).symm, hg, (Array.getElem?_eq_some_iff.1 hh).1⟩⟩

section
variable {P : Program} {w : World} {ops : Array Oper} {rest : List Oper} {o : Oper} {a : Act} {Q : Exit → Act → World → Prop} {t e : TypeId} {z : Value} {bytes : Nat}

theorem own_some {w : World} {base : Nat} {e : TypeId} {v : Value} {n : Nat} {xs : List Value} (h : w.ownsRow base e 1 v n xs) (h0 : 0 < n) :
    ∃ g c, v = .slice (some ⟨g, 0, none⟩) n c ∧ n ≤ c ∧ base ≤ g ∧ g < w.heap.size := by
  obtain ⟨A, c, rfl, hc, _, hn, hs⟩ := own_form h
  cases A with
  | none => have := (hn rfl).2; omega
  | some ad =>
    obtain ⟨g, rfl, hg, hl⟩ := hs ad rfl
    exact ⟨g, c, rfl, hc, hg, hl⟩

/-- append, whatever is appended, to a row of the call's own -/
theorem wpList_app (E : El P t e z bytes) (hgd : o.guard = none) (s x : Operand)
    (ho : o.op = .call { callee := .builtin .append, args := #[s, x], argTypes := #[t, t] })
    (base : Nat) (v : Value) (n : Nat) (xs : List Value) (hs : a.eval s = v) (hown : w.ownsRow base e 1 v n xs)
    (A : Option Addr) (m c : Nat) (news : List Value) (hx : a.eval x = .slice A m c) (hl : news.length = m) (hnil : A = none → m = 0 ∧ c = 0)
    (hsrc : ∀ ad, A = some ad → ∀ j u, news[j]? = some u → w.cell? (ad.add j) = some u) (h1 : ∀ u ∈ news, u.oneCell' = true)
    (h63 : n + m ≤ maxLen) (hbytes : (n + m) * bytes ≤ 140737488355328) (hbase : base ≤ w.heap.size)
    (h : ∀ v' w', w'.ownsRow base e 1 v' (n + m) (xs ++ news) → w.grownBy w' v.ownBlock → (v'.ownBlock = v.ownBlock ∨ v'.ownBlock = some w.heap.size) → wpList P ops Q rest (a.put o.dst v') w') :
    wpList P ops Q (o :: rest) a w := by
  obtain ⟨i, hi, hz0, hz1, hz2⟩ := info_parts E.info
  cases A with
  | some ad =>
    exact wpList_append_own_at w hgd s x t ho base e i z 1 bytes E.ty hi hz0 hz1 hz2 (by rw [E.one]; rfl) (by decide) v n xs hs hown ad m c news hx (by omega) (hsrc ad rfl) h1 h63 hbytes hbase
      (fun v' w' h2 h3 _ h5 => h v' w' h2 h3 h5)
  | none =>
    obtain ⟨rfl, rfl⟩ := hnil rfl
    obtain rfl : news = [] := List.eq_nil_of_length_eq_zero hl
    refine wpList_plain hgd fun K hK => ?_
    have hrun := run_append_owned_none (P := P) w base t o.type e i 1 E.ty hi v n xs hown
    unfold Oper.wp
    simp [execOp, ho, resolve, invoke, builtin, hs, hx, hrun, Result.andThen]
    exact hK _ _ (h v w (by simpa using hown) (World.grownBy.refl _ _) (.inl rfl))

theorem below_of_grown {base : Nat} {v : Value} {n : Nat} {xs : List Value} {w1 w2 : World} (hown : w1.ownsRow base e 1 v n xs) (hbase : base ≤ w1.heap.size) (hg : w1.grownBy w2 v.ownBlock) : Below base w1 w2 :=
  (Below.refl _ _).grown hg hbase (fun k hk => (hown.lt k hk).1)

/-- append of one element, which has just been laid in a block of its own -/
theorem wpList_app1 {u : World} {y : Value} {t' : TypeId} (E : El P t e z bytes) (hgd : o.guard = none) (s x : Operand)
    (ho : o.op = .call { callee := .builtin .append, args := #[s, x], argTypes := #[t, t] })
    (base : Nat) (v : Value) (n : Nat) (xs : List Value) (hs : a.eval s = v) (hown : u.ownsRow base e 1 v n xs)
    (hx : a.eval x = .slice (some ⟨u.heap.size, 0, none⟩) 1 1) (h1 : y.oneCell' = true)
    (h63 : n + 1 ≤ maxLen) (hbytes : (n + 1) * bytes ≤ 140737488355328) (hbase : base ≤ u.heap.size)
    (h : ∀ v' w', Hid (w'.ownsRow base e 1 v' (n + 1) (xs ++ [y])) → Below base u w' → (∀ g, v.ownBlock ≠ some g → g < u.heap.size → w'.heap[g]? = u.heap[g]?) → (v'.ownBlock = v.ownBlock ∨ ∃ g, v'.ownBlock = some g ∧ u.heap.size ≤ g) → wpList P ops Q rest (a.put o.dst v') w') :
    wpList P ops Q (o :: rest) a (u.alloc (.cells #[y] t')) := by
  refine wpList_app E hgd s x ho base v n xs hs (hown.alloc _) (some ⟨u.heap.size, 0, none⟩) 1 1 [y] hx rfl (fun h => by cases h) (fun ad had => ?_) (fun c hc => ?_) h63 hbytes (by simp; omega) (fun v' w' h2 h3 h4 => h v' w' h2 ?_ ?_ ?_)
  · obtain rfl := Option.some.inj had
    exact cell_one_new _ _ _
  · simp at hc; subst hc; exact h1
  · exact ((Below.refl _ _).alloc hbase _).trans (below_of_grown (hown.alloc _) (by simp; omega) h3)
  · intro g hg hlt
    rw [h3.block g (by simp; omega) (fun e => hg e.symm)]
    exact Below.heap_alloc _ _ _ hlt
  · rcases h4 with h4 | h4
    · exact .inl h4
    · exact .inr ⟨_, h4, by simp⟩

/-- what the row held stays where it lay, whether it is written on or moved -/
theorem app_keeps {ty : TypeId} (E : El P t e z bytes) (base : Nat) (n : Nat) (xs : List Value) (g cap : Nat) (hown : w.ownsRow base e 1 (.slice (some ⟨g, 0, none⟩) n cap) n xs)
    (ad : Addr) (m c : Nat) (news : List Value) (hl : news.length = m) (hsrc : ∀ j u, news[j]? = some u → w.cell? (ad.add j) = some u) (h1 : ∀ u ∈ news, u.oneCell' = true)
    (h63 : n + m ≤ maxLen) (hbytes : (n + m) * bytes ≤ 140737488355328) {v' : Value} {w' : World}
    (hrun : (Builtin.append_ #[t, t] ty #[.slice (some ⟨g, 0, none⟩) n cap, .slice (some ad) m c]).run P w = .ok v' w') : ∀ j, j < n → w'.cell? ⟨g, j, none⟩ = w.cell? ⟨g, j, none⟩ := by
  obtain ⟨i, hi, hz0, hz1, hz2⟩ := info_parts E.info
  intro j hj
  have hlx : xs.length = n := by have := hown.1; omega
  rcases hown.2 with ⟨h', _⟩ | ⟨g', cap', cur, h', hb, hg, hnc, hcm, hcs, htake⟩
  · simp at h'
  · simp only [Value.slice.injEq, Option.some.injEq, Addr.mk.injEq, and_true, true_and] at h'
    obtain ⟨rfl, rfl⟩ := h'
    by_cases hroom : n + m ≤ cap
    · have hr := run_append_room (P := P) w t ty e i E.ty hi g n cap cur hg ad m c news (by rw [hz1]; omega) hsrc h1 hroom (by rw [hz1, hcs]; omega)
      rw [hr] at hrun
      injection hrun with _ e2
      subst e2
      rw [cell_of_row w g j cur e (0, 0) hg, cell_of_row _ g j _ e (0, 0) (setRow_heap w g cur _ e _ hg)]
      rw [hz1]
      simp only [Nat.mul_one, List.getElem?_toArray]
      rw [List.append_assoc, List.getElem?_append_left (by simp; omega), List.getElem?_take, if_pos hj]
      simp
    · have holds : ∀ j u, xs[j]? = some u → w.cell? ((⟨g, 0, none⟩ : Addr).add j) = some u := hown.cells (g := g) rfl
      have hmx : n + m ≤ 9223372036854775807 := by simp only [maxLen] at h63; omega
      have hr := run_append_grow (P := P) w t ty e i z E.ty hi hz0 ⟨g, 0, none⟩ n cap xs (by rw [hz1]; omega) holds ad m c news (by rw [hz1]; omega) hsrc (by omega) (by omega) (by rw [hz2]; exact growslice_fits (by omega) hbytes)
      rw [hr] at hrun
      injection hrun with _ e2
      subst e2
      have hlt := (Array.getElem?_eq_some_iff.1 hg).1
      exact World.cell?_of_block (w := w) (heap_alloc_old w.drew _ hlt)

/-- the same as one step of a region that draws its order -/
theorem step_app1 {K : Act → World → Prop} {C : Prop} (u : World) {y : Value} {t' : TypeId} (hW : w = u.alloc (.cells #[y] t')) (E : El P t e z bytes) (hgd : o.guard = none) (s x : Operand)
    (ho : o.op = .call { callee := .builtin .append, args := #[s, x], argTypes := #[t, t] })
    (base : Nat) (v : Value) (n : Nat) (xs : List Value) (hs : a.eval s = v) (hown : u.ownsRow base e 1 v n xs)
    (hx : a.eval x = .slice (some ⟨u.heap.size, 0, none⟩) 1 1) (h1 : y.oneCell' = true)
    (h63 : n + 1 ≤ maxLen) (hbytes : (n + 1) * bytes ≤ 140737488355328) (hbase : base ≤ u.heap.size)
    (h : ∀ v' w', Hid (w'.ownsRow base e 1 v' (n + 1) (xs ++ [y])) → Below base u w' → (∀ g, v.ownBlock ≠ some g → g < u.heap.size → w'.heap[g]? = u.heap[g]?) → (v'.ownBlock = v.ownBlock ∨ ∃ g, v'.ownBlock = some g ∧ u.heap.size ≤ g) → (∀ g cap, v = .slice (some ⟨g, 0, none⟩) n cap → ∀ j, j < n → w'.cell? ⟨g, j, none⟩ = u.cell? ⟨g, j, none⟩) → K (a.put o.dst v') w') :
    if Region.wanted o (yielded ops a.tmps) = true then Oper.wp P o a w K Q else C := by
  subst hW
  have hw : Region.wanted o (yielded ops a.tmps) = true := by simp [Region.wanted, hgd]
  rw [if_pos hw]
  obtain ⟨i, hi, hz0, hz1, hz2⟩ := info_parts E.info
  have hown2 := hown.alloc (.cells #[y] t')
  obtain ⟨v', w', hrun, h2, h3, _, h5⟩ := run_append_own_at (P := P) (u.alloc (.cells #[y] t')) base t o.type e i z 1 bytes E.ty hi hz0 hz1 hz2 (by rw [E.one]; rfl) (by decide) v n xs hown2 ⟨u.heap.size, 0, none⟩ 1 1 [y] rfl (cell_one_new _ _ _)
    (fun c hc => by simp at hc; subst hc; exact h1) h63 hbytes (by simp; omega)
  unfold Oper.wp execOp
  simp only [ho, resolve, invoke, builtin, Sem.run_bind, Sem.run_pure, Result.andThen_ok, List.map_toArray, List.map_cons, List.map_nil, hs, hx, hrun]
  refine h v' w' h2 ?_ ?_ ?_ ?_
  · exact ((Below.refl _ _).alloc hbase _).trans (below_of_grown hown2 (by simp; omega) h3)
  · intro g hg hlt
    rw [h3.block g (by simp; omega) (fun e => hg e.symm)]
    exact Below.heap_alloc _ _ _ hlt
  · rcases h5 with h4 | h4
    · exact .inl h4
    · exact .inr ⟨_, h4, by simp⟩
  · rintro g cap rfl j hj
    have h6 := app_keeps E base n xs g cap hown2 ⟨u.heap.size, 0, none⟩ 1 1 [y] rfl (cell_one_new _ _ _) (fun c hc => by simp at hc; subst hc; exact h1) h63 hbytes hrun j hj
    rw [h6]
    obtain ⟨g2, c2, e2, _, _, hlt⟩ := own_some hown (by omega)
    injection e2 with e3
    have e4 := Option.some.inj e3
    injection e4 with e5
    subst e5
    exact World.cell?_of_block (w := u) (Below.heap_alloc _ _ _ hlt)

/-- make of none, with room for n -/
theorem wpList_mk0 (E : El P t e z bytes) (hg : o.guard = none) (l c : Operand) (hop : o.op = Op.makeSlice t l c)
    (base : Nat) (kl kc : IntKind) (C : Int) (n : Nat) (hl : a.eval l = .int kl 0) (hc : a.eval c = .int kc C) (hC : C = (n : Int)) (hb : bytes * n ≤ 281474976710656) (b3 : n ≤ maxLen) (b4 : base ≤ w.heap.size)
    (hK : ∀ w', Hid (w'.ownsRow base e 1 (.slice (some ⟨w.heap.size, 0, none⟩) 0 n) 0 []) → Below base w w' → wpList P ops Q rest (a.put o.dst (.slice (some ⟨w.heap.size, 0, none⟩) 0 n)) w') :
    wpList P ops Q (o :: rest) a w := by
  obtain ⟨i, hi, hz0, hz1, hz2⟩ := info_parts E.info
  exact wpList_make_own w hg l c t hop base e i z 1 E.ty hi hz0 hz1 kl kc C n hl hc hC (by rw [hz2]; exact hb) b3 b4 fun w' h1 h2 => hK w' h1 ((Below.refl _ _).grown h2 b4 (by simp))

/-- make of n, all noughts -/
theorem wpList_mk (E : El P t e z bytes) (hg : o.guard = none) (l c : Operand) (hop : o.op = Op.makeSlice t l c)
    (base : Nat) (kl kc : IntKind) (L C : Int) (n : Nat) (hl : a.eval l = .int kl L) (hc : a.eval c = .int kc C) (hL : L = (n : Int)) (hC : C = (n : Int)) (hb : bytes * n ≤ 281474976710656) (b3 : n ≤ maxLen) (b4 : base ≤ w.heap.size)
    (hK : ∀ w', w'.ownsRow base e 1 (.slice (some ⟨w.heap.size, 0, none⟩) n n) n (List.replicate n z) → w.grownBy w' none → wpList P ops Q rest (a.put o.dst (.slice (some ⟨w.heap.size, 0, none⟩) n n)) w') :
    wpList P ops Q (o :: rest) a w := by
  obtain ⟨i, hi, hz0, hz1, hz2⟩ := info_parts E.info
  refine wpList_make_full w hg l c t hop base e i z 1 E.ty hi hz0 hz1 kl kc L C n hl hc hL hC (by rw [hz2]; exact hb) b3 b4 fun w' h1 h2 => hK w' ?_ h2
  have : (madeCells z.cells (n * 1)).toList = List.replicate n z := by
    rw [E.one, Nat.mul_one, toList_madeCells_one]
  rwa [this] at h1

theorem El.elem (E : El P t e z bytes) : P.elem t = e := by
  unfold Program.elem
  simp [E.ty]
theorem El.sizeOf (E : El P t e z bytes) (u : World) : (sizeOf (P.elem t)).run P u = .ok 1 u := by
  obtain ⟨i, hi, _, hz1, _⟩ := info_parts E.info
  rw [E.elem]
  simp [Go.sizeOf, typeInfo, hi, hz1]
theorem El.ty' (E : El P t e z bytes) : P.underlying t = some (.slice (P.elem t)) := by rw [E.elem]; exact E.ty

/-- x[i:] of bytes -/
theorem wpList_cut_l (E : El P t e z bytes) (hg : o.guard = none) (x lo : Operand) (hop : o.op = Op.slice t x (some lo) none none)
    {L : Nat} {A : Option Addr} {n c : Nat} {l : List UInt8} (hx : a.eval x = .slice A n c) (hb : Bs w L A n c l) (k : IntKind) (I : Int) (i : Nat) (hlo : a.eval lo = .int k I) (hI : I = i) (hi : i ≤ n)
    (h : ∀ A' m d, Bs w L A' m d (l.drop i) → wpList P ops Q rest (a.put o.dst (.slice A' m d)) w) : wpList P ops Q (o :: rest) a w := by
  subst hI
  refine wpList_plain hg fun K hK => ?_
  have hrun := run_slice_l (P := P) (w := w) t A n c E.ty' k (i : Int) (by omega) (by omega)
  rw [E.sizeOf] at hrun
  have h2 := hb.cut (i := i) (k := n) hi (Nat.le_refl _)
  rw [List.take_of_length_le (by rw [hb.len]; exact Nat.le_refl _)] at h2
  unfold Oper.wp
  simp [execOp, hop, hx, hlo, run_sliceAt_slice (P := P) (w := w) t _ _ _ _ E.ty', hrun, Result.andThen, sliced]
  exact hK _ _ (h _ _ _ h2)
/-- x[:k] of bytes -/
theorem wpList_cut_h (E : El P t e z bytes) (hg : o.guard = none) (x hi : Operand) (hop : o.op = Op.slice t x none (some hi) none)
    {L : Nat} {A : Option Addr} {n c : Nat} {l : List UInt8} (hx : a.eval x = .slice A n c) (hb : Bs w L A n c l) (kk : IntKind) (I : Int) (k : Nat) (hhi : a.eval hi = .int kk I) (hI : I = k) (hk : k ≤ n)
    (h : ∀ A', Bs w L A' k c (l.take k) → wpList P ops Q rest (a.put o.dst (.slice A' k c)) w) : wpList P ops Q (o :: rest) a w := by
  subst hI
  refine wpList_plain hg fun K hK => ?_
  have hrun := run_slice_h (P := P) (w := w) t A n c E.ty' kk (k : Int) (by omega) (by have := hb.cap; omega)
  rw [E.sizeOf] at hrun
  have h2 := hb.cut (i := 0) (k := k) (Nat.zero_le _) hk
  unfold Oper.wp
  simp [execOp, hop, hx, hhi, run_sliceAt_slice (P := P) (w := w) t _ _ _ _ E.ty', hrun, Result.andThen, sliced]
  exact hK _ _ (h _ h2)
/-- x[i:k] of bytes -/
theorem wpList_cut_lh (E : El P t e z bytes) (hg : o.guard = none) (x lo hi : Operand) (hop : o.op = Op.slice t x (some lo) (some hi) none)
    {L : Nat} {A : Option Addr} {n c : Nat} {l : List UInt8} (hx : a.eval x = .slice A n c) (hb : Bs w L A n c l) (k1 k2 : IntKind) (I J : Int) (i k : Nat) (hlo : a.eval lo = .int k1 I) (hI : I = i) (hhi : a.eval hi = .int k2 J) (hJ : J = k) (hik : i ≤ k) (hk : k ≤ n)
    (h : ∀ A' m d, Bs w L A' m d ((l.take k).drop i) → wpList P ops Q rest (a.put o.dst (.slice A' m d)) w) : wpList P ops Q (o :: rest) a w := by
  subst hI hJ
  refine wpList_plain hg fun K hK => ?_
  have hrun := run_slice_lh (P := P) (w := w) t A n c E.ty' k1 k2 (i : Int) (k : Int) (by omega) (by omega) (by have := hb.cap; omega)
  rw [E.sizeOf] at hrun
  have h2 := hb.cut hik hk
  unfold Oper.wp
  simp [execOp, hop, hx, hlo, hhi, run_sliceAt_slice (P := P) (w := w) t _ _ _ _ E.ty', hrun, Result.andThen, sliced]
  exact hK _ _ (h _ _ _ h2)

/-- x[i:] of bytes, guarded -/
theorem wpList_cut_l_g (E : El P t e z bytes) (hg : Region.wanted o (yielded ops a.tmps) = true) (x lo : Operand) (hop : o.op = Op.slice t x (some lo) none none)
    {L : Nat} {A : Option Addr} {n c : Nat} {l : List UInt8} (hx : a.eval x = .slice A n c) (hb : Bs w L A n c l) (k : IntKind) (I : Int) (i : Nat) (hlo : a.eval lo = .int k I) (hI : I = i) (hi : i ≤ n)
    (h : ∀ A' m d, Bs w L A' m d (l.drop i) → wpList P ops Q rest (a.put o.dst (.slice A' m d)) w) : wpList P ops Q (o :: rest) a w := by
  subst hI
  refine wpList_step fun K hK => ?_
  rw [if_pos hg]
  have hrun := run_slice_l (P := P) (w := w) t A n c E.ty' k (i : Int) (by omega) (by omega)
  rw [E.sizeOf] at hrun
  have h2 := hb.cut (i := i) (k := n) hi (Nat.le_refl _)
  rw [List.take_of_length_le (by rw [hb.len]; exact Nat.le_refl _)] at h2
  unfold Oper.wp
  simp [execOp, hop, hx, hlo, run_sliceAt_slice (P := P) (w := w) t _ _ _ _ E.ty', hrun, Result.andThen, sliced]
  exact hK _ _ (h _ _ _ h2)
/-- x[:k] of bytes, guarded -/
theorem wpList_cut_h_g (E : El P t e z bytes) (hg : Region.wanted o (yielded ops a.tmps) = true) (x hi : Operand) (hop : o.op = Op.slice t x none (some hi) none)
    {L : Nat} {A : Option Addr} {n c : Nat} {l : List UInt8} (hx : a.eval x = .slice A n c) (hb : Bs w L A n c l) (kk : IntKind) (I : Int) (k : Nat) (hhi : a.eval hi = .int kk I) (hI : I = k) (hk : k ≤ n)
    (h : ∀ A', Bs w L A' k c (l.take k) → wpList P ops Q rest (a.put o.dst (.slice A' k c)) w) : wpList P ops Q (o :: rest) a w := by
  subst hI
  refine wpList_step fun K hK => ?_
  rw [if_pos hg]
  have hrun := run_slice_h (P := P) (w := w) t A n c E.ty' kk (k : Int) (by omega) (by have := hb.cap; omega)
  rw [E.sizeOf] at hrun
  have h2 := hb.cut (i := 0) (k := k) (Nat.zero_le _) hk
  unfold Oper.wp
  simp [execOp, hop, hx, hhi, run_sliceAt_slice (P := P) (w := w) t _ _ _ _ E.ty', hrun, Result.andThen, sliced]
  exact hK _ _ (h _ h2)
/-- x[i:k] of bytes, guarded -/
theorem wpList_cut_lh_g (E : El P t e z bytes) (hg : Region.wanted o (yielded ops a.tmps) = true) (x lo hi : Operand) (hop : o.op = Op.slice t x (some lo) (some hi) none)
    {L : Nat} {A : Option Addr} {n c : Nat} {l : List UInt8} (hx : a.eval x = .slice A n c) (hb : Bs w L A n c l) (k1 k2 : IntKind) (I J : Int) (i k : Nat) (hlo : a.eval lo = .int k1 I) (hI : I = i) (hhi : a.eval hi = .int k2 J) (hJ : J = k) (hik : i ≤ k) (hk : k ≤ n)
    (h : ∀ A' m d, Bs w L A' m d ((l.take k).drop i) → wpList P ops Q rest (a.put o.dst (.slice A' m d)) w) : wpList P ops Q (o :: rest) a w := by
  subst hI hJ
  refine wpList_step fun K hK => ?_
  rw [if_pos hg]
  have hrun := run_slice_lh (P := P) (w := w) t A n c E.ty' k1 k2 (i : Int) (k : Int) (by omega) (by omega) (by have := hb.cap; omega)
  rw [E.sizeOf] at hrun
  have h2 := hb.cut hik hk
  unfold Oper.wp
  simp [execOp, hop, hx, hlo, hhi, run_sliceAt_slice (P := P) (w := w) t _ _ _ _ E.ty', hrun, Result.andThen, sliced]
  exact hK _ _ (h _ _ _ h2)

/-- a row that is full: its cells -/
theorem own_full {base g n : Nat} {xs : List Value} (h : w.ownsRow base e 1 (.slice (some ⟨g, 0, none⟩) n n) n xs) :
    w.heap[g]? = some (.cells xs.toArray e (0, 0)) ∧ base ≤ g ∧ n ≤ maxLen ∧ xs.length = n := by
  rcases h.2 with ⟨h', _⟩ | ⟨g', cap, cur, h', hb, hg, hnc, hcm, hcs, htake⟩
  · simp at h'
  · simp only [Value.slice.injEq, Option.some.injEq, Addr.mk.injEq, and_true, true_and] at h'
    obtain ⟨rfl, rfl⟩ := h'
    have e1 : cur.toList = xs := by
      rw [← htake]
      rw [List.take_of_length_le]
      simp [hcs]
    rw [← e1]
    exact ⟨by simpa using hg, hb, hcm, by simp [hcs]⟩
theorem own_of_full {base g n : Nat} {xs : List Value} (h : w.heap[g]? = some (.cells xs.toArray e (0, 0))) (hb : base ≤ g) (hm : n ≤ maxLen) (hl : xs.length = n) :
    w.ownsRow base e 1 (.slice (some ⟨g, 0, none⟩) n n) n xs :=
  ⟨by omega, .inr ⟨g, n, xs.toArray, rfl, hb, h, Nat.le_refl _, hm, by simp [hl], by simp; rw [List.take_of_length_le (by omega)]⟩⟩

/-- copy into a row that is full -/
theorem wpList_copyBs (E : El P t e z bytes) (hgd : o.guard = none) (d s : Operand)
    (ho : o.op = .call { callee := .builtin .copy, args := #[d, s], argTypes := #[t, t] })
    (base g n : Nat) (xs : List Value) (hd : a.eval d = .slice (some ⟨g, 0, none⟩) n n) (hown : w.ownsRow base e 1 (.slice (some ⟨g, 0, none⟩) n n) n xs)
    {L : Nat} {A : Option Addr} {m c : Nat} {l : List UInt8} (hs : a.eval s = .slice A m c) (hb : Bs w L A m c l)
    (h : ∀ w', Hid (w'.ownsRow base e 1 (.slice (some ⟨g, 0, none⟩) n n) n (cells8 (l.take n) ++ xs.drop m)) → Below base w w' → (∀ k, k ≠ g → w'.heap[k]? = w.heap[k]?) → wpList P ops Q rest (a.put o.dst (goInt (min m n : Nat))) w') :
    wpList P ops Q (o :: rest) a w := by
  obtain ⟨hg, hbg, hm, hl⟩ := own_full hown
  obtain ⟨i, hi, hz0, hz1, hz2⟩ := info_parts E.info
  have hsz : (P.info? e).map (·.size) = some 1 := by rw [hi]; simp [hz1]
  have hlm := hb.len
  by_cases h0 : min m n = 0
  · refine wpList_copy_nothing hgd d s t t ho e E.ty hsz _ _ _ _ _ _ hd hs h0 ?_
    have e1 : cells8 (l.take n) ++ xs.drop m = xs := by
      rcases Nat.eq_zero_or_pos m with h1 | h1
      · subst h1
        obtain rfl : l = [] := List.eq_nil_of_length_eq_zero hlm
        simp [cells8]
      · obtain rfl : n = 0 := by omega
        obtain rfl : xs = [] := List.eq_nil_of_length_eq_zero hl
        simp [cells8]
    have := h w (by rw [e1]; exact hown) (Below.refl _ _) (fun _ _ => rfl)
    rwa [h0] at this
  · obtain ⟨b, o', rfl, _, _⟩ := hb.cells (by omega)
    have hcl : (cells8 (l.take n)).length = min m n := by rw [cells8_length]; simp; omega
    have hns := hb.news _ rfl
    refine wpList_copy_own hgd d s t t ho e E.ty hsz g 0 n n _ m c hd hs xs.toArray e hg (cells8 (l.take n)) hcl (fun j v hj => hns j v ?_) (by rw [hcl]; simp; omega) (cells8_one _) ?_
    · obtain ⟨hj', rfl⟩ := cells8_some hj
      rw [cells8_at l j (by simp at hj'; omega)]
      simp
    · rw [hcl]
      have e2 : (xs.drop (0 + min m n)) = xs.drop m := by
        rcases Nat.le_total m n with h1 | h1
        · rw [Nat.min_eq_left h1, Nat.zero_add]
        · rw [Nat.min_eq_right h1, Nat.zero_add, List.drop_of_length_le (by omega), List.drop_of_length_le (by omega)]
      simp only [e2, List.take_zero, List.nil_append]
      refine h _ ?_ (below_setRow (Below.refl _ _) hbg _) (fun k hk => setRow_other _ _ _ _ hk)
      show World.ownsRow _ _ _ _ _ _ _
      refine own_of_full (setRow_heap w g _ _ e _ hg) hbg hm ?_
      rw [List.length_append, hcl, List.length_drop, hl]; omega
end
end Go.Proofs.Ytadpfbjpkbpanaa

namespace Go.Proofs.Ytadpfbjpkbpanaa
theorem el8 : El Try.prog 22 5 (.int .u8 0) 1 := ⟨Try.underlying22, by kernel_rfl, rfl⟩
theorem el32 : El Try.prog 82 81 (.int .u32 0) 4 := ⟨Try.underlying82, by kernel_rfl, rfl⟩
theorem elS : El Try.prog 40 22 (.slice none 0 0) 24 := ⟨Try.underlying40, by kernel_rfl, rfl⟩
end Go.Proofs.Ytadpfbjpkbpanaa

namespace Go.Proofs.Ytadpfbjpkbpanaa

theorem snoc_ind {α : Type} {p : List α → Prop} (h0 : p []) (hs : ∀ l b, p l → p (l ++ [b])) (l : List α) : p l := by
  have h : ∀ m : List α, p m.reverse := fun m => by
    induction m with
    | nil => exact h0
    | cons b m ih => rw [List.reverse_cons]; exact hs _ _ ih
  simpa using h l.reverse

/-- n's lowest k bytes, the greatest first -/
def putN (n : Nat) : Nat → List UInt8
  | 0 => []
  | k + 1 => putN (n / 256) k ++ [UInt8.ofNat n]
/-- the number of bytes -/
def getN (l : List UInt8) : Nat := l.foldl (fun a b => a * 256 + b.toNat) 0

theorem putN_length (n k : Nat) : (putN n k).length = k := by
  induction k generalizing n with
  | zero => rfl
  | succ k ih => simp [putN, ih]
theorem pow256 (k : Nat) : 256 ^ (k + 1) = 256 * 256 ^ k := by rw [Nat.pow_succ, Nat.mul_comm]
/-- the first byte ahead of the others -/
theorem putN_front (n k : Nat) : putN n (k + 1) = UInt8.ofNat (n / 256 ^ k) :: putN n k := by
  induction k generalizing n with
  | zero => simp [putN]
  | succ k ih =>
    rw [putN, ih (n / 256)]
    rw [show putN n (k + 1) = putN (n / 256) k ++ [UInt8.ofNat n] from rfl]
    rw [Nat.div_div_eq_div_mul, ← pow256]
    rfl
theorem getN_append (l m : List UInt8) : getN (l ++ m) = getN l * 256 ^ m.length + getN m := by
  unfold getN
  rw [List.foldl_append]
  have gen : ∀ (m : List UInt8) (a : Nat), m.foldl (fun a b => a * 256 + b.toNat) a = a * 256 ^ m.length + m.foldl (fun a b => a * 256 + b.toNat) 0 := by
    intro m
    induction m with
    | nil => intro a; simp
    | cons x m ih =>
      intro a
      simp only [List.foldl_cons, List.length_cons]
      rw [ih (a * 256 + x.toNat), ih (0 * 256 + x.toNat), Nat.pow_succ, Nat.add_mul, Nat.zero_mul, Nat.zero_add, Nat.mul_assoc, Nat.mul_comm 256 (256 ^ m.length)]
      omega
  exact gen m _
theorem getN_snoc (l : List UInt8) (b : UInt8) : getN (l ++ [b]) = getN l * 256 + b.toNat := by
  rw [getN_append]; simp [getN]
theorem getN_lt (l : List UInt8) : getN l < 256 ^ l.length := by
  refine snoc_ind (p := fun l => getN l < 256 ^ l.length) (by simp [getN]) (fun l b ih => ?_) l
  · rw [getN_snoc, List.length_append, List.length_singleton, pow256]
    have := b.toNat_lt
    omega
theorem ofNat_toNat (n : Nat) : (UInt8.ofNat n).toNat = n % 256 := rfl
theorem getN_putN (n k : Nat) : getN (putN n k) = n % 256 ^ k := by
  induction k generalizing n with
  | zero => simp [putN, getN, Nat.mod_one]
  | succ k ih =>
    rw [putN, getN_snoc, ih, ofNat_toNat, pow256, Nat.mod_mul]
    omega
theorem putN_getN (l : List UInt8) : putN (getN l) l.length = l := by
  refine snoc_ind (p := fun l => putN (getN l) l.length = l) rfl (fun l b ih => ?_) l
  · rw [List.length_append, List.length_singleton, putN, getN_snoc]
    have hb := b.toNat_lt
    rw [show (getN l * 256 + b.toNat) / 256 = getN l by omega, ih]
    congr 1
    have : (UInt8.ofNat (getN l * 256 + b.toNat)) = b := by
      apply UInt8.toNat_inj.1
      rw [ofNat_toNat]; omega
    rw [this]
/-- noughts ahead change nothing -/
theorem getN_zeros (k : Nat) (l : List UInt8) : getN (List.replicate k 0 ++ l) = getN l := by
  rw [getN_append]
  have : getN (List.replicate k 0) = 0 := by
    induction k with
    | zero => rfl
    | succ k ih => rw [List.replicate_succ', getN_snoc, ih]; rfl
  rw [this]; omega
/-- modulo 2^64 the last eight bytes count alone -/
theorem getN_last (l : List UInt8) : getN l % 18446744073709551616 = getN (l.drop (l.length - 8)) := by
  have h := getN_append (l.take (l.length - 8)) (l.drop (l.length - 8))
  rw [List.take_append_drop] at h
  have hlt := getN_lt (l.drop (l.length - 8))
  have hd : (l.drop (l.length - 8)).length ≤ 8 := by simp; omega
  by_cases h8 : 8 ≤ l.length
  · have hd8 : (l.drop (l.length - 8)).length = 8 := by simp; omega
    rw [hd8] at h hlt
    have e : (256 : Nat) ^ 8 = 18446744073709551616 := by decide
    rw [e] at h hlt
    rw [h]; omega
  · have e0 : l.length - 8 = 0 := by omega
    rw [e0]; simp only [List.drop_zero]
    have h1 := getN_lt l
    have h2 : (256 : Nat) ^ l.length ≤ 256 ^ 8 := Nat.pow_le_pow_right (by decide) (by omega)
    have e : (256 : Nat) ^ 8 = 18446744073709551616 := by decide
    rw [e] at h2
    omega
theorem getN_take_succ (l : List UInt8) (k : Nat) (h : k < l.length) : getN (l.take (k + 1)) = getN (l.take k) * 256 + l[k].toNat := by
  rw [List.take_succ_eq_append_getElem h, getN_snoc]
theorem wrap_u64_nat (n : Nat) : IntKind.u64.wrap (n : Int) = ((n % 18446744073709551616 : Nat) : Int) := by rw [IntKind.wrap_u64]; omega
/-- one round of the program's Get -/
theorem get_step (g b : Nat) (hb : b < 256) (hg : g * 256 + b < 18446744073709551616) :
    bits .or .u64 (IntKind.u64.wrap ((g : Int) * 256)) (IntKind.u64.wrap (b : Int)) = ((g * 256 + b : Nat) : Int) := by
  have h1 : g * 256 < 18446744073709551616 := Nat.lt_of_le_of_lt (Nat.le_add_right _ _) hg
  have h2 : b < 18446744073709551616 := Nat.lt_of_le_of_lt (Nat.le_add_left _ _) hg
  have e3 := u64_or_nat (g * 256) b h1 h2
  have e4 := nat_join 8 (g * 256) b (by omega) (by omega)
  have e1 : IntKind.u64.wrap ((g : Int) * 256) = ((g * 256 : Nat) : Int) := by
    have := wrap_u64_nat (g * 256)
    rw [Nat.mod_eq_of_lt h1] at this
    rw [← this]; rfl
  have e2 : IntKind.u64.wrap (b : Int) = (b : Int) := by rw [wrap_u64_nat, Nat.mod_eq_of_lt h2]
  rw [e1, e2, e3, e4]
/-- one round of the document's Get -/
theorem refget_step (g b : Nat) :
    IntKind.u64.wrap (IntKind.u64.wrap (256 * ((g % 18446744073709551616 : Nat) : Int)) + IntKind.u64.wrap (b : Int)) = (((g * 256 + b) % 18446744073709551616 : Nat) : Int) := by
  simp only [IntKind.wrap_u64]; omega
theorem put_spot {n N k : Nat} (h : k < N) : (cells8 (List.replicate (N - k) 0 ++ putN n k))[N - 1 - k]? = some (.int .u8 0) := by
  rw [cells8_at _ _ (by simp [putN_length]; omega)]
  rw [List.getElem_append_left (by simp; omega)]
  simp
/-- one round of the program's Put -/
theorem put_row {n N k : Nat} (h : k < N) : (cells8 (List.replicate (N - k) 0 ++ putN n k)).set (N - 1 - k) (.int .u8 ((n : Int) / 2 ^ (8 * k) % 256)) = cells8 (List.replicate (N - (k + 1)) 0 ++ putN n (k + 1)) := by
  have e : List.replicate (N - k) (0 : UInt8) = List.replicate (N - (k + 1)) 0 ++ [0] := by
    rw [show N - k = N - (k + 1) + 1 by omega, List.replicate_succ']
  rw [e, putN_front, cells8_append, cells8_append, cells8_append]
  have hl : (cells8 (List.replicate (N - (k + 1)) 0)).length = N - 1 - k := by rw [cells8_length]; simp; omega
  rw [List.append_assoc, List.set_append_right _ _ (by omega), hl, Nat.sub_self]
  have h2 : ((n : Int) / 2 ^ (8 * k) % 256) = (((UInt8.ofNat (n / 256 ^ k)).toNat : Nat) : Int) := by
    rw [ofNat_toNat, show (256 : Nat) = 2 ^ 8 from rfl, ← Nat.pow_mul]
    simp
  rw [h2]
  simp [cells8]
theorem tdiv256 (q : Nat) (h : q < 18446744073709551616) : IntKind.u64.wrap ((q : Int) / 256) = ((q / 256 : Nat) : Int) := by
  have e : ((q : Int) / 256) = ((q / 256 : Nat) : Int) := rfl
  rw [e, wrap_u64_nat, Nat.mod_eq_of_lt (Nat.lt_of_le_of_lt (Nat.div_le_self _ _) h)]
theorem tmod256 (q : Nat) : ((q : Int) % 256) = ((UInt8.ofNat q).toNat : Int) := rfl
/-- the k-th byte of a number -/
theorem putN_at (n N k : Nat) (h : k < N) : (putN n N)[k]'(by rw [putN_length]; exact h) = UInt8.ofNat (n / 256 ^ (N - 1 - k)) := by
  induction N generalizing k with
  | zero => omega
  | succ N ih =>
    simp only [putN_front]
    cases k with
    | zero => simp
    | succ k => simp only [List.getElem_cons_succ]; rw [ih k (by omega)]; congr 3; omega
theorem putN_take (n N k : Nat) (h : k < N) : cells8 ((putN n N).take k) ++ [.int .u8 (((n / 256 ^ (N - 1 - k) : Nat) : Int) % 256)] = cells8 ((putN n N).take (k + 1)) := by
  rw [List.take_succ_eq_append_getElem (by rw [putN_length]; exact h), putN_at n N k h, cells8_append, tmod256]
  rfl
theorem getN_lt8 (l : List UInt8) (h : l.length ≤ 8) : getN l < 18446744073709551616 := by
  have h1 := getN_lt l
  have h2 : (256 : Nat) ^ l.length ≤ 256 ^ 8 := Nat.pow_le_pow_right (by decide) h
  have e : (256 : Nat) ^ 8 = 18446744073709551616 := by decide
  rw [e] at h2
  omega
end Go.Proofs.Ytadpfbjpkbpanaa

namespace Go.Proofs.Ytadpfbjpkbpanaa
open Go.RowKit

set_option maxHeartbeats 400000 in
theorem get_any (A : Option Addr) (n c : Nat) (xs : List UInt8) (w : World) (L : Nat) (ha : Bs w L A n c xs) :
    Calls Try.prog 49 #[.slice A n c] w fun e w' => e = .returned (.int .u64 (getN (xs.drop (n - 8)))) ∧ w = w' := by
  have hn := ha.le
  go_enter Try.func49, Try.ntmps49
  rcases (by omega : 8 ≤ n ∨ n < 8) with h8 | h8
  all_goals
    go_wp2_with (with_reducible refine wpList_cut_l (o := ⟨some 11, _, _, _, _, _⟩) el8 rfl _ _ rfl rfl ha _ _ (n - 8) rfl (by omega) (by omega) ?_)
    intro A' m d hb
    have hlen : (xs.drop (n - 8)).length ≤ 8 := by have := ha.len; simp; omega
    generalize hys : xs.drop (n - 8) = ys at *
    have HYS := Lib.hid hys
    clear hys
    have hm := hb.le
    have HML := Lib.hid hb.len
    go_wp2
    go_loop [3, 13] (fun s i => ∃ k : Nat, k ≤ m ∧ i = .int .i64 k ∧ s = .int .u64 (getN (ys.take k))) (fun _ i => m - (intOf i).toNat)
    case atStart => exact ⟨0, Nat.zero_le _, rfl, rfl⟩
    case round =>
      obtain ⟨k, hk, rfl, rfl⟩ := hrel
      by_cases hlt : k < m
      · obtain ⟨b, o, rfl, _, hc⟩ := hb.cell hlt
        have hky : k < ys.length := by rw [HML.out]; exact hlt
        have hs := getN_take_succ ys k hky
        have hl8 := getN_lt8 (ys.take (k + 1)) (by simp; omega)
        have HS := Lib.hid (get_step (getN (ys.take k)) (ys[k].toNat) (UInt8.toNat_lt _) (by omega))
        have HS2 := Lib.hid hs
        clear hs hl8
        go_wp2
        go_round
        case rel => exact ⟨k + 1, by omega, by go_num, by rw [HS.out, HS2.out]⟩
        case measure => simp [intOf]; omega
      · go_wp2
        go_ret
        exact ⟨ret_eq (by rw [List.take_of_length_le (by rw [HML.out]; omega), HYS.out]; rfl), rfl⟩

set_option maxHeartbeats 400000 in
theorem refget_any (A : Option Addr) (n c : Nat) (xs : List UInt8) (w : World) (L : Nat) (ha : Bs w L A n c xs) :
    Calls Try.prog 41 #[.slice A n c] w fun e w' => e = .returned (.int .u64 ((getN xs % 18446744073709551616 : Nat) : Int)) ∧ w = w' := by
  have hn := ha.le
  have HL := Lib.hid ha.len
  go_enter Try.func41, Try.ntmps41
  go_wp2
  go_loop [3, 4] (fun s i => ∃ k : Nat, k ≤ n ∧ i = .int .i64 k ∧ s = .int .u64 ((getN (xs.take k) % 18446744073709551616 : Nat) : Int)) (fun _ i => n - (intOf i).toNat)
  case atStart => exact ⟨0, Nat.zero_le _, rfl, rfl⟩
  case round =>
    obtain ⟨k, hk, rfl, rfl⟩ := hrel
    by_cases hlt : k < n
    · obtain ⟨b, o, rfl, _, hc⟩ := ha.cell hlt
      have hky : k < xs.length := by rw [HL.out]; exact hlt
      have HS := Lib.hid (refget_step (getN (xs.take k)) (xs[k].toNat))
      have HS2 := Lib.hid (getN_take_succ xs k hky)
      generalize getN (xs.take k) % 18446744073709551616 = g at *
      go_wp2
      go_round
      case rel => exact ⟨k + 1, by omega, by go_num, by rw [HS.out, HS2.out]⟩
      case measure => simp [intOf]; omega
    · go_wp2
      go_ret
      exact ⟨ret_eq (by rw [List.take_of_length_le (by rw [HL.out]; omega)]; rfl), rfl⟩

set_option maxHeartbeats 1000000 in
theorem refput_any (n : Nat) (wide : Int) (w : World) (hn : n < 18446744073709551616) :
    Calls Try.prog 31 #[.int .u64 n, .int .i64 wide] w fun e w' => ∃ v, e = .returned v ∧ w'.ownsRow w.heap.size 5 1 v (min (max wide 0) 8).toNat (cells8 (putN n (min (max wide 0) 8).toNat)) ∧ Below w.heap.size w w' := by
  obtain ⟨N, hN⟩ : ∃ N : Nat, N = (min (max wide 0) 8).toNat := ⟨_, rfl⟩
  rw [← hN]
  have hN8 : N ≤ 8 := by omega
  have HN := Lib.hid hn
  have HNN := Lib.hid hN
  clear hn hN
  go_enter Try.func31, Try.ntmps31
  have hcase : wide < 1 ∨ (1 ≤ wide ∧ wide ≤ 8) ∨ 8 < wide := by omega
  rcases hcase with h | ⟨h0, h⟩ | h
  · obtain rfl : N = 0 := by have := HNN.out; omega
    go_wp2
    go_ret
    exact ⟨_, rfl, own_nil _ _ _, Below.refl _ _⟩
  all_goals
    go_wp2
    go_loopw [5, 6] (fun v i wr => ∃ k : Nat, k ≤ N ∧ i = .int .i64 ((N : Int) - 1 - k) ∧ Hid (wr.ownsRow w.heap.size 5 1 v k (cells8 ((putN n N).take k))) ∧ Below w.heap.size w wr) (fun _ i _ => (intOf i + 1).toNat)
    case atStart => exact ⟨0, Nat.zero_le _, by have := HNN.out; go_num, own_nil _ _ _, Below.refl _ _⟩
    case round =>
      obtain ⟨k, hk, rfl, H, hb⟩ := hrel
      by_cases hlt : k < N
      · go_wp2
        go_loop [7, 8] (fun x j => ∃ m q : Nat, m ≤ N - 1 - k ∧ j = .int .i64 m ∧ x = .int .u64 (q : Int) ∧ Hid (q = n / 256 ^ m)) (fun _ j => N - (intOf j).toNat)
        case atStart => exact ⟨0, n, Nat.zero_le _, rfl, rfl, by simp [Hid]⟩
        case round =>
          obtain ⟨m, q, hm, rfl, rfl, HQ⟩ := hrel
          by_cases hlt2 : m < N - 1 - k
          · have HD := Lib.hid (tdiv256 q (by rw [HQ.out]; exact Nat.lt_of_le_of_lt (Nat.div_le_self _ _) HN.out))
            go_wp2
            go_round
            case rel => exact ⟨m + 1, q / 256, by omega, by go_num, by rw [HD.out], by rw [HQ.out, Nat.div_div_eq_div_mul, ← Nat.pow_succ]; rfl⟩
            case measure => simp [intOf]; omega
          · go_wp2_with (at_builtin; refine wpList_app1 el8 rfl _ _ rfl w.heap.size _ k _ rfl H.out rfl rfl (by simp only [maxLen]; omega) (by omega) hb.size ?_)
            intro v' w' H' hb' _ _
            clear H
            go_wp2
            go_roundw
            case rel =>
              refine ⟨k + 1, by omega, by go_num, ?_, hb.trans hb'⟩
              show World.ownsRow _ _ _ _ _ _ _
              rw [← putN_take n N k hlt]
              obtain rfl : m = N - 1 - k := by omega
              have h1 := H'.out
              rw [HQ.out] at h1
              exact h1
            case measure => simp [intOf]; omega
      · obtain rfl : k = N := by omega
        have H2 := H.out
        rw [List.take_of_length_le (by rw [putN_length]; exact Nat.le_refl _)] at H2
        have H3 := Lib.hid H2
        clear H2 H
        go_wp2
        go_ret
        exact ⟨_, rfl, H3.out, hb⟩
end Go.Proofs.Ytadpfbjpkbpanaa

