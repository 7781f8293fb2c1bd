/- Words of 32 bits: rows of them, and the walk's arithmetic on them. No program is named here. -/
import Derived.Test.YtjllfaeamjadcaaLaws
namespace Go.Proofs.Ytjllfaeamjadcaa
open Go.RowKit

def cells32 (l : List UInt32) : List Value := l.map fun b => Value.int .u32 (b.toNat : Int)
theorem cells32_length (l : List UInt32) : (cells32 l).length = l.length := by simp [cells32]
theorem cells32_append (l m : List UInt32) : cells32 (l ++ m) = cells32 l ++ cells32 m := by simp [cells32]
theorem cells32_one (l : List UInt32) : ∀ u ∈ cells32 l, u.oneCell' = true := by
  intro u hu
  obtain ⟨_, _, rfl⟩ := List.mem_map.1 hu
  rfl
theorem cells32_at (l : List UInt32) (j : Nat) (h : j < l.length) : (cells32 l)[j]? = some (.int .u32 (l[j].toNat : Int)) := by
  simp [cells32, List.getElem?_eq_getElem h]
theorem cells32_some {l : List UInt32} {j : Nat} {u : Value} (h : (cells32 l)[j]? = some u) : ∃ hj : j < l.length, u = .int .u32 (l[j].toNat : Int) := by
  have hj : j < l.length := by
    have := (List.getElem?_eq_some_iff.1 h).1
    simpa [cells32] using this
  refine ⟨hj, ?_⟩
  rw [cells32_at l j hj] at h
  exact (Option.some.inj h).symm

/-- A slice of n of room c at A reads as the words l; its cells lie below block B. -/
structure Us (w : World) (B : Nat) (A : Option Addr) (n c : Nat) (l : List UInt32) : Prop where
  len : l.length = n
  cap : n ≤ c
  max : c ≤ maxLen
  nil : A = none → c = 0
  cells : 0 < n → ∃ b o, A = some ⟨b, o, none⟩ ∧ b < B ∧ ∀ j (h : j < l.length), w.cell? ⟨b, o + j, none⟩ = some (.int .u32 (l[j].toNat : Int))
section
variable {w w' : World} {B B' : Nat} {A : Option Addr} {n c : Nat} {l : List UInt32}
theorem Us.keep (h : Us w B A n c l) (hk : ∀ p : Addr, p.block < B → w'.cell? p = w.cell? p) : Us w' B A n c l :=
  ⟨h.len, h.cap, h.max, h.nil, fun h0 => by
    obtain ⟨b, o, hA, hb, hc⟩ := h.cells h0
    exact ⟨b, o, hA, hb, fun j hj => (hk _ hb).trans (hc j hj)⟩⟩
theorem Us.more (h : Us w B A n c l) (hB : B ≤ B') : Us w B' A n c l :=
  ⟨h.len, h.cap, h.max, h.nil, fun h0 => by
    obtain ⟨b, o, hA, hb, hc⟩ := h.cells h0
    exact ⟨b, o, hA, by omega, hc⟩⟩
theorem Us.below (h : Us w B A n c l) (hb : Below B w w') : Us w' B A n c l := h.keep fun _ hp => hb.cell hp
theorem Us.next {w0 w1 : World} (h : Us w0 B A n c l) (hb : Below w0.heap.size w0 w1) (hB : B ≤ w0.heap.size) : Us w1 w1.heap.size A n c l :=
  (h.below (hb.mono hB)).more (Nat.le_trans hB hb.size)
theorem Us.cell (h : Us w B A n c l) {i : Nat} (hi : i < n) : ∃ b o, A = some ⟨b, o, none⟩ ∧ b < B ∧ w.cell? ⟨b, o + i, none⟩ = some (.int .u32 ((l[i]'(by have := h.len; omega)).toNat : Int)) := by
  obtain ⟨b, o, hA, hb, hc⟩ := h.cells (by omega)
  exact ⟨b, o, hA, hb, hc i (by have := h.len; omega)⟩
theorem Us.news (h : Us w B A n c l) : ∀ ad, A = some ad → ∀ j u, (cells32 l)[j]? = some u → w.cell? (ad.add j) = some u := by
  intro ad hA j u hu
  obtain ⟨hj, rfl⟩ := cells32_some hu
  obtain ⟨b, o, hA', _, hc⟩ := h.cells (by have := h.len; omega)
  rw [hA] at hA'
  obtain rfl := Option.some.inj hA'
  rw [Addr.add_lit]
  exact hc j hj
theorem Us.of_own {base : Nat} {e : TypeId} {v : Value} (h : w.ownsRow base e 1 v n (cells32 l)) : ∃ A c, v = .slice A n c ∧ Us w w.heap.size A n c l := by
  have hl : l.length = n := by have := h.1; rw [cells32_length] at this; omega
  rcases h.2 with ⟨rfl, rfl⟩ | ⟨g, cap, cur, rfl, hg, hh, hn, hm, hs, ht⟩
  · obtain rfl : l = [] := List.eq_nil_of_length_eq_zero hl
    exact ⟨none, 0, rfl, rfl, Nat.le_refl _, Nat.zero_le _, fun _ => rfl, fun h => absurd h (by omega)⟩
  · refine ⟨some ⟨g, 0, none⟩, cap, rfl, hl, hn, hm, (fun h => by cases h), fun h0 => ⟨g, 0, rfl, (Array.getElem?_eq_some_iff.1 hh).1, fun j hj => ?_⟩⟩
    have := h.cells (g := g) rfl j _ (cells32_at l j hj)
    rwa [Addr.add_lit] at this
/-- a block of words that has just been laid -/
theorem Us.laid (w : World) (t : TypeId) (l : List UInt32) (hm : l.length ≤ maxLen) : Us (w.alloc (.cells (cells32 l).toArray t)) (w.heap.size + 1) (some ⟨w.heap.size, 0, none⟩) l.length l.length l := by
  refine ⟨rfl, Nat.le_refl _, hm, (fun h => by cases h), fun _ => ⟨w.heap.size, 0, rfl, by omega, fun j hj => ?_⟩⟩
  rw [World.cell?_alloc_at _ _ _ _ rfl]
  have := cells32_at l j hj
  simpa using this
end

theorem u32_add (a b : UInt32) : IntKind.u32.wrap ((a.toNat : Int) + (b.toNat : Int)) = ((a + b).toNat : Int) := by
  rw [IntKind.wrap_u32, UInt32.toNat_add]; omega
theorem u32_xor' (a b : UInt32) : bits .xor .u32 (a.toNat : Int) (b.toNat : Int) = ((a ^^^ b).toNat : Int) := by
  rw [u32_xor_nat _ _ a.toNat_lt b.toNat_lt, UInt32.toNat_xor]
theorem u32_or' (a b : UInt32) : bits .or .u32 (a.toNat : Int) (b.toNat : Int) = ((a ||| b).toNat : Int) := by
  rw [u32_or_nat _ _ a.toNat_lt b.toNat_lt, UInt32.toNat_or]
theorem u32_and' (a b : UInt32) : bits .and .u32 (a.toNat : Int) (b.toNat : Int) = ((a &&& b).toNat : Int) := by
  rw [u32_and_nat _ _ a.toNat_lt b.toNat_lt, UInt32.toNat_and]
end Go.Proofs.Ytjllfaeamjadcaa
