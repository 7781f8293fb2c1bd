/- Lists of things at places, as the walks read them. No program is named here. -/
import Derived.Test.YtaedlaeflliibaaArr
namespace Go.Proofs.Ytaedlaeflliibaa
open Go.RowKit

/-- A slice of n of room c at A reads as the things its: a place, and bytes; all lies below block B. -/
structure Its (w : World) (B : Nat) (A : Option Addr) (n c : Nat) (its : List (Int × List UInt8)) : Prop where
  len : its.length = n
  cap : n ≤ c
  max : c ≤ maxLen
  nil : A = none → c = 0
  wf : ∀ x ∈ its, (Lit.int .i64 x.1).wf = true
  cells : 0 < n → ∃ b o, A = some ⟨b, o, none⟩ ∧ b < B ∧ ∀ j (h : j < its.length), ∃ A' n' c', w.cell? ⟨b, o + j * 2, none⟩ = some (.int .i64 its[j].1) ∧ w.cell? ⟨b, o + j * 2 + 1, none⟩ = some (.slice A' n' c') ∧ Bs w B A' n' c' its[j].2
section
variable {w w' : World} {B B' : Nat} {A : Option Addr} {n c : Nat} {its : List (Int × List UInt8)}
theorem Its.le (h : Its w B A n c its) : n ≤ 9223372036854775807 := by have := h.cap; have := h.max; simp only [maxLen] at this; omega
theorem Its.keep (h : Its w B A n c its) (hk : ∀ p : Addr, p.block < B → w'.cell? p = w.cell? p) : Its w' B A n c its :=
  ⟨h.len, h.cap, h.max, h.nil, h.wf, fun h0 => by
    obtain ⟨b, o, hA, hb, hc⟩ := h.cells h0
    refine ⟨b, o, hA, hb, fun j hj => ?_⟩
    obtain ⟨A', n', c', h1, h2, h3⟩ := hc j hj
    exact ⟨A', n', c', (hk _ hb).trans h1, (hk _ hb).trans h2, h3.keep hk⟩⟩
theorem Its.more (h : Its w B A n c its) (hB : B ≤ B') : Its w B' A n c its :=
  ⟨h.len, h.cap, h.max, h.nil, h.wf, fun h0 => by
    obtain ⟨b, o, hA, hb, hc⟩ := h.cells h0
    refine ⟨b, o, hA, by omega, fun j hj => ?_⟩
    obtain ⟨A', n', c', h1, h2, h3⟩ := hc j hj
    exact ⟨A', n', c', h1, h2, h3.more hB⟩⟩
theorem Its.below (h : Its w B A n c its) (hb : Below B w w') : Its w' B A n c its := h.keep fun _ hp => hb.cell hp
theorem Its.next {w0 w1 : World} (h : Its w0 B A n c its) (hb : Below w0.heap.size w0 w1) (hB : B ≤ w0.heap.size) : Its w1 w1.heap.size A n c its :=
  (h.below (hb.mono hB)).more (Nat.le_trans hB hb.size)
theorem Its.drew (h : Its w B A n c its) : Its w.drew B A n c its := h.keep fun _ _ => rfl
theorem Its.at (h : Its w B A n c its) {i : Nat} (hi : i < n) : ∃ b o A' n' c', A = some ⟨b, o, none⟩ ∧ b < B ∧ w.cell? ⟨b, o + i * 2, none⟩ = some (.int .i64 (its[i]'(by have := h.len; omega)).1) ∧ w.cell? ⟨b, o + i * 2 + 1, none⟩ = some (.slice A' n' c') ∧ Bs w B A' n' c' (its[i]'(by have := h.len; omega)).2 := by
  obtain ⟨b, o, hA, hb, hc⟩ := h.cells (by omega)
  obtain ⟨A', n', c', h1, h2, h3⟩ := hc i (by have := h.len; omega)
  exact ⟨b, o, A', n', c', hA, hb, h1, h2, h3⟩
end
end Go.Proofs.Ytaedlaeflliibaa
