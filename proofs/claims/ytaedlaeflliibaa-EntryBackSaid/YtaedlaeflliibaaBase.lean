/- Byte slices and lists of them as the walks read them: definitions and small lemmas; no program is named here. -/
import Derived.WalkKit
import Derived.WalkSpells
import Derived.WalkLawsBesides
import Derived.Lib.Hide
import Derived.Laws.BytesArg
import Derived.Laws.IdiomStrings
import Derived.Laws.CopyOwn
import Derived.Deep.Draws
import Derived.Deep.OwnRows
import Derived.Maps.AppendAt
import Derived.Deep.AppendLies
namespace Go.Proofs.Ytaedlaeflliibaa
open Go.RowKit

/-- the cells of bytes -/
def cells8 (l : List UInt8) : List Value := l.map fun b => Value.int .u8 (b.toNat : Int)
theorem cells8_length (l : List UInt8) : (cells8 l).length = l.length := by simp [cells8]
theorem cells8_append (l m : List UInt8) : cells8 (l ++ m) = cells8 l ++ cells8 m := by simp [cells8]
theorem cells8_one (l : List UInt8) : ∀ u ∈ cells8 l, u.oneCell' = true := by
  intro u hu
  obtain ⟨_, _, rfl⟩ := List.mem_map.1 hu
  rfl
theorem cells8_at (l : List UInt8) (j : Nat) (h : j < l.length) : (cells8 l)[j]? = some (.int .u8 (l[j].toNat : Int)) := by
  simp [cells8, List.getElem?_eq_getElem h]
theorem cells8_some {l : List UInt8} {j : Nat} {u : Value} (h : (cells8 l)[j]? = some u) : ∃ hj : j < l.length, u = .int .u8 (l[j].toNat : Int) := by
  have hj : j < l.length := by
    have := (List.getElem?_eq_some_iff.1 h).1
    simpa [cells8] using this
  refine ⟨hj, ?_⟩
  rw [cells8_at l j hj] at h
  exact (Option.some.inj h).symm

/-- A slice of n of room c at A reads as the bytes l; its cells lie below block B. -/
structure Bs (w : World) (B : Nat) (A : Option Addr) (n c : Nat) (l : List UInt8) : Prop where
  len : l.length = n
  cap : n ≤ c
  max : c ≤ maxLen
  nil : A = none → c = 0
  cells : 0 < n → ∃ b o, A = some ⟨b, o, none⟩ ∧ b < B ∧ ∀ j (h : j < l.length), w.cell? ⟨b, o + j, none⟩ = some (.int .u8 (l[j].toNat : Int))

section
variable {w w' : World} {B B' : Nat} {A : Option Addr} {n c : Nat} {l : List UInt8}
theorem Bs.zero (w : World) (B : Nat) : Bs w B none 0 0 [] := ⟨rfl, Nat.le_refl _, Nat.zero_le _, fun _ => rfl, fun h => absurd h (by omega)⟩
theorem Bs.le (h : Bs w B A n c l) : n ≤ 9223372036854775807 := by have := h.cap; have := h.max; simp only [maxLen] at this; omega
theorem Bs.keep (h : Bs w B A n c l) (hk : ∀ p : Addr, p.block < B → w'.cell? p = w.cell? p) : Bs w' B A n c l :=
  ⟨h.len, h.cap, h.max, h.nil, fun h0 => by
    obtain ⟨b, o, hA, hb, hc⟩ := h.cells h0
    exact ⟨b, o, hA, hb, fun j hj => (hk _ hb).trans (hc j hj)⟩⟩
theorem Bs.more (h : Bs w B A n c l) (hB : B ≤ B') : Bs w B' A n c l :=
  ⟨h.len, h.cap, h.max, h.nil, fun h0 => by
    obtain ⟨b, o, hA, hb, hc⟩ := h.cells h0
    exact ⟨b, o, hA, by omega, hc⟩⟩
theorem Bs.below (h : Bs w B A n c l) (hb : Below B w w') : Bs w' B A n c l := h.keep fun _ hp => hb.cell hp
theorem Bs.below' (h : Bs w B A n c l) (hb : Below B' w w') (hB : B ≤ B') : Bs w' B A n c l := h.below (hb.mono hB)
theorem Bs.drew (h : Bs w B A n c l) : Bs w.drew B A n c l := h.keep fun _ _ => rfl
theorem Bs.drewN (h : Bs w B A n c l) (k : Nat) : Bs (w.drewN k) B A n c l := h.keep fun _ _ => rfl
theorem Bs.alloc (h : Bs w B A n c l) (hB : B ≤ w.heap.size) (o : Obj) : Bs (w.alloc o) B A n c l := h.below ((Below.refl _ _).alloc hB o)
theorem Bs.setCell (h : Bs w B A n c l) {p : Addr} (hB : B ≤ p.block) (u : Value) : Bs (w.setCell p u) B A n c l := h.below ((Below.refl _ _).setCell hB u)
theorem Bs.cell (h : Bs w B A n c l) {i : Nat} (hi : i < n) : ∃ b o, A = some ⟨b, o, none⟩ ∧ b < B ∧ w.cell? ⟨b, o + i, none⟩ = some (.int .u8 ((l[i]'(by have := h.len; omega)).toNat : Int)) := by
  obtain ⟨b, o, hA, hb, hc⟩ := h.cells (by omega)
  exact ⟨b, o, hA, hb, hc i (by have := h.len; omega)⟩
theorem Bs.news (h : Bs w B A n c l) : ∀ ad, A = some ad → ∀ j u, (cells8 l)[j]? = some u → w.cell? (ad.add j) = some u := by
  intro ad hA j u hu
  obtain ⟨hj, rfl⟩ := cells8_some hu
  obtain ⟨b, o, hA', _, hc⟩ := h.cells (by have := h.len; omega)
  rw [hA] at hA'
  obtain rfl := Option.some.inj hA'
  rw [Addr.add_lit]
  exact hc j hj
theorem Bs.of_own {base : Nat} {e : TypeId} {v : Value} (h : w.ownsRow base e 1 v n (cells8 l)) : ∃ A c, v = .slice A n c ∧ Bs w w.heap.size A n c l := by
  have hl : l.length = n := by have := h.1; rw [cells8_length] at this; omega
  rcases h.2 with ⟨rfl, rfl⟩ | ⟨g, cap, cur, rfl, hg, hh, hn, hm, hs, ht⟩
  · obtain rfl : l = [] := List.eq_nil_of_length_eq_zero hl
    exact ⟨none, 0, rfl, Bs.zero w _⟩
  · refine ⟨some ⟨g, 0, none⟩, cap, rfl, hl, hn, hm, (fun h => by cases h), fun h0 => ⟨g, 0, rfl, (Array.getElem?_eq_some_iff.1 hh).1, fun j hj => ?_⟩⟩
    have := h.cells (g := g) rfl j _ (cells8_at l j hj)
    rwa [Addr.add_lit] at this
/-- a piece of it -/
theorem Bs.cut (h : Bs w B A n c l) {i k : Nat} (hik : i ≤ k) (hk : k ≤ n) :
    Bs w B (if c = i then A else A.map (·.add i)) (k - i) (c - i) ((l.take k).drop i) := by
  have hl := h.len
  have hc := h.cap
  refine ⟨by simp; omega, by omega, by have := h.max; omega, fun hn => ?_, fun h0 => ?_⟩
  · by_cases e : c = i
    · omega
    · rw [if_neg e] at hn
      have : A = none := by simpa using hn
      have := h.nil this
      omega
  · obtain ⟨b, o, hA, hb, hcell⟩ := h.cells (by omega)
    refine ⟨b, o + i, ?_, hb, fun j hj => ?_⟩
    · rw [if_neg (by omega), hA]
      simp [Addr.add]
    · have hj' : i + j < l.length := by simp at hj; omega
      rw [Nat.add_assoc, hcell (i + j) hj']
      simp
/-- the text of it -/
theorem Bs.text {P : Program} (h : Bs w B A n c l) {src dst e : TypeId} (hs : P.underlying src = some (.slice e)) (he : P.underlying e = some (.int .u8)) (hd : P.underlying dst = some .string) :
    (convert src dst (.slice A n c)).run P w = .ok (.string ⟨l.toArray⟩) w := by
  have hl := h.len
  rcases Nat.eq_zero_or_pos n with h0 | h0
  · subst h0
    obtain rfl : l = [] := List.eq_nil_of_length_eq_zero hl
    cases A with
    | none => exact run_convert_bytes_nil w src e hs he _ _ _ hd
    | some a => exact run_convert_bytes_back w src dst e a c [] hs he hd (fun j hj => absurd hj (by simp))
  · obtain ⟨b, o, rfl, hb, hcell⟩ := h.cells h0
    rw [← hl]
    exact run_convert_bytes_back w src dst e ⟨b, o, none⟩ c l hs he hd (fun j hj => by rw [Addr.add_lit]; exact hcell j hj)
end

/-- A slice of n of room c at A reads as the lists ls of bytes; all lies below block B. -/
structure Ls (w : World) (B : Nat) (A : Option Addr) (n c : Nat) (ls : List (List UInt8)) : Prop where
  len : ls.length = n
  cap : n ≤ c
  max : c ≤ maxLen
  nil : A = none → c = 0
  cells : 0 < n → ∃ b o, A = some ⟨b, o, none⟩ ∧ b < B ∧ ∀ j (h : j < ls.length), ∃ A' n' c', w.cell? ⟨b, o + j, none⟩ = some (.slice A' n' c') ∧ Bs w B A' n' c' ls[j]
section
variable {w w' : World} {B B' : Nat} {A : Option Addr} {n c : Nat} {ls : List (List UInt8)}
theorem Ls.zero (w : World) (B : Nat) : Ls w B none 0 0 [] := ⟨rfl, Nat.le_refl _, Nat.zero_le _, fun _ => rfl, fun h => absurd h (by omega)⟩
theorem Ls.le (h : Ls w B A n c ls) : n ≤ 9223372036854775807 := by have := h.cap; have := h.max; simp only [maxLen] at this; omega
theorem Ls.keep (h : Ls w B A n c ls) (hk : ∀ p : Addr, p.block < B → w'.cell? p = w.cell? p) : Ls w' B A n c ls :=
  ⟨h.len, h.cap, h.max, h.nil, fun h0 => by
    obtain ⟨b, o, hA, hb, hc⟩ := h.cells h0
    refine ⟨b, o, hA, hb, fun j hj => ?_⟩
    obtain ⟨A', n', c', h1, h2⟩ := hc j hj
    exact ⟨A', n', c', (hk _ hb).trans h1, h2.keep hk⟩⟩
theorem Ls.more (h : Ls w B A n c ls) (hB : B ≤ B') : Ls w B' A n c ls :=
  ⟨h.len, h.cap, h.max, h.nil, fun h0 => by
    obtain ⟨b, o, hA, hb, hc⟩ := h.cells h0
    refine ⟨b, o, hA, by omega, fun j hj => ?_⟩
    obtain ⟨A', n', c', h1, h2⟩ := hc j hj
    exact ⟨A', n', c', h1, h2.more hB⟩⟩
theorem Ls.below (h : Ls w B A n c ls) (hb : Below B w w') : Ls w' B A n c ls := h.keep fun _ hp => hb.cell hp
theorem Ls.below' (h : Ls w B A n c ls) (hb : Below B' w w') (hB : B ≤ B') : Ls w' B A n c ls := h.below (hb.mono hB)
theorem Ls.drew (h : Ls w B A n c ls) : Ls w.drew B A n c ls := h.keep fun _ _ => rfl
theorem Ls.drewN (h : Ls w B A n c ls) (k : Nat) : Ls (w.drewN k) B A n c ls := h.keep fun _ _ => rfl
theorem Ls.alloc (h : Ls w B A n c ls) (hB : B ≤ w.heap.size) (o : Obj) : Ls (w.alloc o) B A n c ls := h.below ((Below.refl _ _).alloc hB o)
theorem Ls.at (h : Ls w B A n c ls) {i : Nat} (hi : i < n) : ∃ b o A' n' c', A = some ⟨b, o, none⟩ ∧ b < B ∧ w.cell? ⟨b, o + i, none⟩ = some (.slice A' n' c') ∧ Bs w B A' n' c' (ls[i]'(by have := h.len; omega)) := by
  obtain ⟨b, o, hA, hb, hc⟩ := h.cells (by omega)
  obtain ⟨A', n', c', h1, h2⟩ := hc i (by have := h.len; omega)
  exact ⟨b, o, A', n', c', hA, hb, h1, h2⟩
end

/-- A slice of n of room c at A reads as the numbers zs. -/
structure Zs (w : World) (B : Nat) (k : IntKind) (A : Option Addr) (n c : Nat) (zs : List Int) : Prop where
  len : zs.length = n
  cap : n ≤ c
  max : c ≤ maxLen
  nil : A = none → c = 0
  wf : ∀ z ∈ zs, (Lit.int k z).wf = true
  cells : 0 < n → ∃ b o, A = some ⟨b, o, none⟩ ∧ b < B ∧ ∀ j (h : j < zs.length), w.cell? ⟨b, o + j, none⟩ = some (.int k zs[j])
section
variable {w w' : World} {B B' : Nat} {k : IntKind} {A : Option Addr} {n c : Nat} {zs : List Int}
theorem Zs.le (h : Zs w B k A n c zs) : n ≤ 9223372036854775807 := by have := h.cap; have := h.max; simp only [maxLen] at this; omega
theorem Zs.keep (h : Zs w B k A n c zs) (hk : ∀ p : Addr, p.block < B → w'.cell? p = w.cell? p) : Zs w' B k A n c zs :=
  ⟨h.len, h.cap, h.max, h.nil, h.wf, fun h0 => by
    obtain ⟨b, o, hA, hb, hc⟩ := h.cells h0
    exact ⟨b, o, hA, hb, fun j hj => (hk _ hb).trans (hc j hj)⟩⟩
theorem Zs.more (h : Zs w B k A n c zs) (hB : B ≤ B') : Zs w B' k A n c zs :=
  ⟨h.len, h.cap, h.max, h.nil, h.wf, fun h0 => by
    obtain ⟨b, o, hA, hb, hc⟩ := h.cells h0
    exact ⟨b, o, hA, by omega, hc⟩⟩
theorem Zs.below (h : Zs w B k A n c zs) (hb : Below B w w') : Zs w' B k A n c zs := h.keep fun _ hp => hb.cell hp
theorem Zs.below' (h : Zs w B k A n c zs) (hb : Below B' w w') (hB : B ≤ B') : Zs w' B k A n c zs := h.below (hb.mono hB)
theorem Zs.drew (h : Zs w B k A n c zs) : Zs w.drew B k A n c zs := h.keep fun _ _ => rfl
theorem Zs.alloc (h : Zs w B k A n c zs) (hB : B ≤ w.heap.size) (o : Obj) : Zs (w.alloc o) B k A n c zs := h.below ((Below.refl _ _).alloc hB o)
theorem Zs.at (h : Zs w B k A n c zs) {i : Nat} (hi : i < n) : ∃ b o, A = some ⟨b, o, none⟩ ∧ b < B ∧ w.cell? ⟨b, o + i, none⟩ = some (.int k (zs[i]'(by have := h.len; omega))) := by
  obtain ⟨b, o, hA, hb, hc⟩ := h.cells (by omega)
  exact ⟨b, o, hA, hb, hc i (by have := h.len; omega)⟩
end

/-- a fact that no tactic looks into, and that none unfolds -/
structure Kp (p : Prop) : Prop where
  out : p
theorem below_next {w0 w1 w2 : World} (h1 : Below w0.heap.size w0 w1) (h2 : Below w1.heap.size w1 w2) : Below w0.heap.size w0 w2 := h1.trans (h2.mono h1.size)
theorem Bs.next {w0 w1 : World} {B : Nat} {A : Option Addr} {n c : Nat} {l : List UInt8} (h : Bs w0 B A n c l) (hb : Below w0.heap.size w0 w1) (hB : B ≤ w0.heap.size) : Bs w1 w1.heap.size A n c l :=
  (h.below (hb.mono hB)).more (Nat.le_trans hB hb.size)
theorem ret_eq {a b : Value} (h : a = b) : Ending.returned a = .returned b := by rw [h]
end Go.Proofs.Ytaedlaeflliibaa
