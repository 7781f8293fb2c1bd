/- Rows of ints that are bytes. No program is named here. -/
import Derived.Test.YtleplilcpcgacaaLaws
namespace Go.Proofs.Ytleplilcpcgacaa
open Go.RowKit

def cellsI (l : List UInt8) : List Value := l.map fun b => Value.int .i64 (b.toNat : Int)
theorem cellsI_length (l : List UInt8) : (cellsI l).length = l.length := by simp [cellsI]
theorem cellsI_append (l m : List UInt8) : cellsI (l ++ m) = cellsI l ++ cellsI m := by simp [cellsI]
theorem cellsI_one (l : List UInt8) : ∀ u ∈ cellsI l, u.oneCell' = true := by
  intro u hu
  obtain ⟨_, _, rfl⟩ := List.mem_map.1 hu
  rfl
theorem cellsI_at (l : List UInt8) (j : Nat) (h : j < l.length) : (cellsI l)[j]? = some (.int .i64 (l[j].toNat : Int)) := by
  simp [cellsI, List.getElem?_eq_getElem h]
theorem cellsI_some {l : List UInt8} {j : Nat} {u : Value} (h : (cellsI l)[j]? = some u) : ∃ hj : j < l.length, u = .int .i64 (l[j].toNat : Int) := by
  have hj : j < l.length := by
    have := (List.getElem?_eq_some_iff.1 h).1
    simpa [cellsI] using this
  refine ⟨hj, ?_⟩
  rw [cellsI_at l j hj] at h
  exact (Option.some.inj h).symm

/-- A slice of n of room c at A reads as the bytes l, each an int; its cells lie below block B. -/
structure Is (w : World) (B : Nat) (A : Option Addr) (n c : Nat) (l : List UInt8) : Prop where
  len : l.length = n
  cap : n ≤ c
  max : c ≤ maxLen
  nil : A = none → c = 0
  cells : 0 < n → ∃ b o, A = some ⟨b, o, none⟩ ∧ b < B ∧ ∀ j (h : j < l.length), w.cell? ⟨b, o + j, none⟩ = some (.int .i64 (l[j].toNat : Int))
section
variable {w w' : World} {B B' : Nat} {A : Option Addr} {n c : Nat} {l : List UInt8}
theorem Is.keep (h : Is w B A n c l) (hk : ∀ p : Addr, p.block < B → w'.cell? p = w.cell? p) : Is w' B A n c l :=
  ⟨h.len, h.cap, h.max, h.nil, fun h0 => by
    obtain ⟨b, o, hA, hb, hc⟩ := h.cells h0
    exact ⟨b, o, hA, hb, fun j hj => (hk _ hb).trans (hc j hj)⟩⟩
theorem Is.more (h : Is w B A n c l) (hB : B ≤ B') : Is w B' A n c l :=
  ⟨h.len, h.cap, h.max, h.nil, fun h0 => by
    obtain ⟨b, o, hA, hb, hc⟩ := h.cells h0
    exact ⟨b, o, hA, by omega, hc⟩⟩
theorem Is.below (h : Is w B A n c l) (hb : Below B w w') : Is w' B A n c l := h.keep fun _ hp => hb.cell hp
theorem Is.next {w0 w1 : World} (h : Is w0 B A n c l) (hb : Below w0.heap.size w0 w1) (hB : B ≤ w0.heap.size) : Is w1 w1.heap.size A n c l :=
  (h.below (hb.mono hB)).more (Nat.le_trans hB hb.size)
theorem Is.cell (h : Is w B A n c l) {i : Nat} (hi : i < n) : ∃ b o, A = some ⟨b, o, none⟩ ∧ b < B ∧ w.cell? ⟨b, o + i, none⟩ = some (.int .i64 ((l[i]'(by have := h.len; omega)).toNat : Int)) := by
  obtain ⟨b, o, hA, hb, hc⟩ := h.cells (by omega)
  exact ⟨b, o, hA, hb, hc i (by have := h.len; omega)⟩
theorem Is.news (h : Is w B A n c l) : ∀ ad, A = some ad → ∀ j u, (cellsI l)[j]? = some u → w.cell? (ad.add j) = some u := by
  intro ad hA j u hu
  obtain ⟨hj, rfl⟩ := cellsI_some hu
  obtain ⟨b, o, hA', _, hc⟩ := h.cells (by have := h.len; omega)
  rw [hA] at hA'
  obtain rfl := Option.some.inj hA'
  rw [Addr.add_lit]
  exact hc j hj
theorem Is.of_own {base : Nat} {e : TypeId} {v : Value} (h : w.ownsRow base e 1 v n (cellsI l)) : ∃ A c, v = .slice A n c ∧ Is w w.heap.size A n c l := by
  have hl : l.length = n := by have := h.1; rw [cellsI_length] at this; omega
  rcases h.2 with ⟨rfl, rfl⟩ | ⟨g, cap, cur, rfl, hg, hh, hn, hm, hs, ht⟩
  · obtain rfl : l = [] := List.eq_nil_of_length_eq_zero hl
    exact ⟨none, 0, rfl, rfl, Nat.le_refl _, Nat.zero_le _, fun _ => rfl, fun h => absurd h (by omega)⟩
  · refine ⟨some ⟨g, 0, none⟩, cap, rfl, hl, hn, hm, (fun h => by cases h), fun h0 => ⟨g, 0, rfl, (Array.getElem?_eq_some_iff.1 hh).1, fun j hj => ?_⟩⟩
    have := h.cells (g := g) rfl j _ (cellsI_at l j hj)
    rwa [Addr.add_lit] at this
/-- a block of ints that has just been laid -/
theorem Is.laid (w : World) (t : TypeId) (l : List UInt8) (hm : l.length ≤ maxLen) : Is (w.alloc (.cells (cellsI l).toArray t)) (w.heap.size + 1) (some ⟨w.heap.size, 0, none⟩) l.length l.length l := by
  refine ⟨rfl, Nat.le_refl _, hm, (fun h => by cases h), fun _ => ⟨w.heap.size, 0, rfl, by omega, fun j hj => ?_⟩⟩
  rw [World.cell?_alloc_at _ _ _ _ rfl]
  have := cellsI_at l j hj
  simpa using this
end
end Go.Proofs.Ytleplilcpcgacaa
