/- Slices of names, as the walks read them: arguments, rows of a call's own. -/
import Derived.Test.YtaedlaeflliibaaDoorPtP
import Derived.Test.YtaedlaeflliibaaDoorLaws
import Derived.Test.YtaedlaeflliibaaDoorItsRow
import Derived.Test.YtaedlaeflliibaaDoorNdL
import Derived.Test.YtaedlaeflliibaaDoorRows
namespace Go.Proofs.YtaedlaeflliibaaDoor
open Go.RowKit Go.Deep

def stV (x : Nm) : Value := .string ⟨x.toArray⟩
def stCells (l : List Nm) : List Value := l.map stV
theorem stCells_length (l : List Nm) : (stCells l).length = l.length := by simp [stCells]
theorem stCells_app (l m : List Nm) : stCells (l ++ m) = stCells l ++ stCells m := by simp [stCells]
theorem stCells_snoc (l : List Nm) (x : Nm) : stCells (l ++ [x]) = stCells l ++ [stV x] := by simp [stCells]
theorem stCells_one (l : List Nm) : ∀ u ∈ stCells l, u.oneCell' = true := by
  intro u hu
  obtain ⟨x, _, rfl⟩ := List.mem_map.1 hu
  rfl
/-- A slice of n of room c at A reads as the names l; its cells lie below block B. -/
structure Ss (w : World) (B : Nat) (A : Option Addr) (n c : Nat) (l : List Nm) : Prop where
  len : l.length = n
  cap : n ≤ c
  max : c ≤ maxLen
  nil : A = none → c = 0
  ok : ∀ x ∈ l, x.length ≤ 140737488351232
  cells : 0 < n → ∃ b o, A = some ⟨b, o, none⟩ ∧ b < B ∧ ∀ j (h : j < l.length), w.cell? ⟨b, o + j, none⟩ = some (.string ⟨l[j].toArray⟩)
section
variable {w w' : World} {B B' : Nat} {A : Option Addr} {n c : Nat} {l m : List Nm}
theorem Ss.zero (w : World) (B : Nat) : Ss w B none 0 0 [] := ⟨rfl, Nat.le_refl _, Nat.zero_le _, fun _ => rfl, (fun x hx => by cases hx), fun h => absurd h (by omega)⟩
theorem Ss.le (h : Ss w B A n c l) : n ≤ 9223372036854775807 := by have := h.cap; have := h.max; simp only [maxLen] at this; omega
theorem Ss.keep (h : Ss w B A n c l) (hk : ∀ p : Addr, p.block < B → w'.cell? p = w.cell? p) : Ss w' B A n c l :=
  ⟨h.len, h.cap, h.max, h.nil, h.ok, fun h0 => by
    obtain ⟨b, o, hA, hb, hc⟩ := h.cells h0
    exact ⟨b, o, hA, hb, fun j hj => (hk _ hb).trans (hc j hj)⟩⟩
theorem Ss.more (h : Ss w B A n c l) (hB : B ≤ B') : Ss w B' A n c l :=
  ⟨h.len, h.cap, h.max, h.nil, h.ok, fun h0 => by
    obtain ⟨b, o, hA, hb, hc⟩ := h.cells h0
    exact ⟨b, o, hA, by omega, hc⟩⟩
theorem Ss.below (h : Ss w B A n c l) (hb : Below B w w') : Ss w' B A n c l := h.keep fun _ hp => hb.cell hp
theorem Ss.next {w0 w1 : World} (h : Ss w0 B A n c l) (hb : Below w0.heap.size w0 w1) (hB : B ≤ w0.heap.size) : Ss w1 w1.heap.size A n c l :=
  (h.below (hb.mono hB)).more (Nat.le_trans hB hb.size)
theorem Ss.drewN (h : Ss w B A n c l) (k : Nat) : Ss (w.drewN k) B A n c l := h.keep fun _ _ => rfl
theorem Ss.at (h : Ss w B A n c l) {i : Nat} (hi : i < n) : ∃ b o, A = some ⟨b, o, none⟩ ∧ b < B ∧ w.cell? ⟨b, o + i, none⟩ = some (.string ⟨(l[i]'(by have := h.len; omega)).toArray⟩) := by
  obtain ⟨b, o, hA, hb, hc⟩ := h.cells (by omega)
  exact ⟨b, o, hA, hb, hc i (by have := h.len; omega)⟩
theorem Ss.news (h : Ss w B A n c l) : ∀ ad, A = some ad → ∀ j u, (stCells l)[j]? = some u → w.cell? (ad.add j) = some u := by
  intro ad hA j u hu
  have hj : j < l.length := by
    have := (List.getElem?_eq_some_iff.1 hu).1
    rwa [stCells_length] at this
  obtain ⟨b, o, hA', hb, hc⟩ := h.cells (by have := h.len; omega)
  rw [hA'] at hA
  obtain rfl := Option.some.inj hA
  rw [Addr.add_lit, hc j hj]
  rw [stCells, List.getElem?_map, List.getElem?_eq_getElem hj] at hu
  exact hu
theorem Ss.nils (h : Ss w B A n c l) : A = none → n = 0 ∧ c = 0 := fun e => ⟨by have := h.nil e; have := h.cap; omega, h.nil e⟩
theorem Ss.of_own {base : Nat} {e : TypeId} {v : Value} (h : w.ownsRow base e 1 v n (stCells l)) (hok : ∀ x ∈ l, x.length ≤ 140737488351232) : ∃ A c, v = .slice A n c ∧ Ss w w.heap.size A n c l := by
  have hl : l.length = n := by have := h.1; rw [stCells_length] at this; omega
  rcases h.2 with ⟨rfl, rfl⟩ | ⟨g, cap, cur, rfl, hg, hh, hn, hm, hs, ht⟩
  · obtain rfl : l = [] := List.eq_nil_of_length_eq_zero (by omega)
    exact ⟨none, 0, rfl, Ss.zero _ _⟩
  · refine ⟨some ⟨g, 0, none⟩, cap, rfl, hl, hn, hm, (fun h => by cases h), hok, fun h0 => ⟨g, 0, rfl, (Array.getElem?_eq_some_iff.1 hh).1, fun j hj => ?_⟩⟩
    have h1 : (stCells l)[j]? = some (.string ⟨l[j].toArray⟩) := by rw [stCells, List.getElem?_map, List.getElem?_eq_getElem hj]; rfl
    have k1 := h.cells (g := g) rfl _ _ h1
    rw [Addr.add_lit] at k1
    exact k1
/-- the first k -/
theorem Ss.upto (h : Ss w B A n c l) {k : Nat} (hk : k ≤ n) : Ss w B A k c (l.take k) := by
  have hl := h.len
  refine ⟨by simp; omega, by have := h.cap; omega, h.max, h.nil, fun x hx => h.ok x (List.mem_of_mem_take hx), fun h0 => ?_⟩
  obtain ⟨b, o, hA, hb, hc⟩ := h.cells (by omega)
  refine ⟨b, o, hA, hb, fun j hj => ?_⟩
  have hj2 : j < l.length := by simp at hj; omega
  rw [List.getElem_take]
  exact hc j hj2
end
theorem elSt : El Tryd.prog 23 9 (.string .empty) 16 := ⟨Tryd.underlying23, by kernel_rfl, rfl⟩
theorem ownSt_nil (w : World) (base : Nat) (e : TypeId) : w.ownsRow base e 1 (.slice none 0 0) 0 (stCells []) := World.ownsRow_nil _ _ _ _
section
variable {w : World} {ops : Array Oper} {rest : List Oper} {o : Oper} {a : Act} {Q : Exit → Act → World → Prop}
/-- append of names -/
theorem wpList_appSt (hgd : o.guard = none) (s x : Operand)
    (ho : o.op = .call { callee := .builtin .append, args := #[s, x], argTypes := #[23, 23] })
    (base : Nat) (v : Value) (n : Nat) (L : List Nm) (hs : a.eval s = v) (hown : w.ownsRow base 9 1 v n (stCells L))
    {B : Nat} {A : Option Addr} {m c : Nat} {M : List Nm} (hx : a.eval x = .slice A m c) (hM : Ss w B A m c M)
    (hbytes : n + m ≤ 8796093022208) (hbase : base ≤ w.heap.size)
    (h : ∀ v' w', w'.ownsRow base 9 1 v' (n + m) (stCells (L ++ M)) → Below base w w' → w.grownBy w' v.ownBlock → wpList Tryd.prog ops Q rest (a.put o.dst v') w') :
    wpList Tryd.prog ops Q (o :: rest) a w :=
  wpList_app elSt hgd s x ho base v n _ hs hown A m c (stCells M) hx (by rw [stCells_length, hM.len]) hM.nils hM.news (stCells_one M) (by simp only [maxLen]; omega) (by omega) hbase
    (fun v' w' h2 h3 _ => h v' w' (by rw [stCells_app]; exact h2) (below_of_grown hown hbase h3) h3)
end
end Go.Proofs.YtaedlaeflliibaaDoor
