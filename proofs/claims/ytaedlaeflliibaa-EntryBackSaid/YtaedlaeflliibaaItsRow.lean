/- Rows of things at places that a call lays itself: append to them, and what they read as. No program is named here. -/
import Derived.Test.YtaedlaeflliibaaIts
import Derived.Deep.Matrix
namespace Go.Proofs.Ytaedlaeflliibaa
open Go.RowKit Go.Deep

/-- a place, and where its bytes lie -/
abbrev Hd := Int × Option Addr × Nat × Nat
def hdCells : List Hd → List Value
  | [] => []
  | x :: l => .int .i64 x.1 :: .slice x.2.1 x.2.2.1 x.2.2.2 :: hdCells l
theorem hdCells_length : ∀ L : List Hd, (hdCells L).length = L.length * 2
  | [] => rfl
  | x :: l => by simp [hdCells, hdCells_length l]; omega
theorem hdCells_append : ∀ L M : List Hd, hdCells (L ++ M) = hdCells L ++ hdCells M
  | [], _ => rfl
  | x :: l, M => by simp [hdCells, hdCells_append l M]
theorem hdCells_one : ∀ (L : List Hd), ∀ u ∈ hdCells L, u.oneCell' = true
  | [], u, h => by cases h
  | x :: l, u, h => by
    simp only [hdCells, List.mem_cons] at h
    rcases h with rfl | rfl | h
    · rfl
    · rfl
    · exact hdCells_one l u h
theorem hdCells_at : ∀ (L : List Hd) (j : Nat) (h : j < L.length), (hdCells L)[j * 2]? = some (.int .i64 L[j].1) ∧ (hdCells L)[j * 2 + 1]? = some (.slice L[j].2.1 L[j].2.2.1 L[j].2.2.2)
  | x :: l, 0, _ => ⟨rfl, rfl⟩
  | x :: l, j + 1, h => by
    have ih := hdCells_at l j (by simpa using h)
    rw [show (j + 1) * 2 = j * 2 + 1 + 1 by omega]
    simp only [hdCells, List.getElem?_cons_succ, List.getElem_cons_succ]
    exact ih
theorem hdCells_some {L : List Hd} {j : Nat} {u : Value} (h : (hdCells L)[j]? = some u) : ∃ i, ∃ hi : i < L.length, (j = i * 2 ∧ u = .int .i64 L[i].1) ∨ (j = i * 2 + 1 ∧ u = .slice L[i].2.1 L[i].2.2.1 L[i].2.2.2) := by
  have hj : j < L.length * 2 := by
    have := (List.getElem?_eq_some_iff.1 h).1
    rwa [hdCells_length] at this
  have hi : j / 2 < L.length := by omega
  refine ⟨j / 2, hi, ?_⟩
  obtain ⟨h1, h2⟩ := hdCells_at L (j / 2) hi
  rcases Nat.mod_two_eq_zero_or_one j with e | e
  · have e2 : j = j / 2 * 2 := by omega
    rw [← e2] at h1
    exact .inl ⟨e2, Option.some.inj (h.symm.trans h1)⟩
  · have e2 : j = j / 2 * 2 + 1 := by omega
    rw [← e2] at h2
    exact .inr ⟨e2, Option.some.inj (h.symm.trans h2)⟩
/-- headers, and the things that they lead to -/
structure Leads (w : World) (B : Nat) (L : List Hd) (its : List (Int × List UInt8)) : Prop where
  len : L.length = its.length
  wf : ∀ x ∈ its, (Lit.int .i64 x.1).wf = true
  each : ∀ j (h : j < its.length), (L[j]'(by omega)).1 = its[j].1 ∧ Bs w B (L[j]'(by omega)).2.1 (L[j]'(by omega)).2.2.1 (L[j]'(by omega)).2.2.2 its[j].2
section
variable {w w' : World} {B B' : Nat} {A : Option Addr} {n c : Nat} {its its' : List (Int × List UInt8)} {L M : List Hd}
theorem Leads.nil (w : World) (B : Nat) : Leads w B [] [] := ⟨rfl, (fun x h => by cases h), fun j h => by cases h⟩
theorem Leads.below (h : Leads w B L its) (hb : Below B w w') : Leads w' B L its := ⟨h.len, h.wf, fun j hj => ⟨(h.each j hj).1, (h.each j hj).2.below hb⟩⟩
theorem Leads.more (h : Leads w B L its) (hB : B ≤ B') : Leads w B' L its := ⟨h.len, h.wf, fun j hj => ⟨(h.each j hj).1, (h.each j hj).2.more hB⟩⟩
theorem Leads.append (h : Leads w B L its) (k : Leads w B M its') : Leads w B (L ++ M) (its ++ its') := by
  refine ⟨by simp [h.len, k.len], fun x hx => ?_, fun j hj => ?_⟩
  · rcases List.mem_append.1 hx with hx | hx
    · exact h.wf x hx
    · exact k.wf x hx
  · have hl := h.len
    by_cases hlt : j < its.length
    · rw [List.getElem_append_left hlt, List.getElem_append_left (by omega)]
      exact h.each j hlt
    · rw [List.getElem_append_right (by omega), List.getElem_append_right (by omega)]
      have h3 := k.each (j - its.length) (by simp at hj; omega)
      simp only [hl]
      exact h3
theorem Leads.one {z : Int} {l : List UInt8} (hz : (Lit.int .i64 z).wf = true) (hb : Bs w B A n c l) : Leads w B [(z, A, n, c)] [(z, l)] := by
  refine ⟨rfl, fun x hx => ?_, fun j hj => ?_⟩
  · simp at hx; rw [hx]; exact hz
  · obtain rfl : j = 0 := by simp at hj; omega
    exact ⟨rfl, hb⟩
theorem Its.heads (h : Its w B A n c its) : ∃ L, Leads w B L its ∧ (∀ ad, A = some ad → ∀ j u, (hdCells L)[j]? = some u → w.cell? (ad.add j) = some u) := by
  have hlen := h.len
  rcases Nat.eq_zero_or_pos n with h0 | h0
  · obtain rfl : its = [] := List.eq_nil_of_length_eq_zero (by omega)
    exact ⟨[], Leads.nil _ _, fun ad _ j u hu => by simp [hdCells] at hu⟩
  · obtain ⟨b, o, rfl, hb, hc⟩ := h.cells h0
    have each : ∀ j, j < n → ∃ y : Hd, w.cell? ⟨b, o + j * 2, none⟩ = some (.int .i64 y.1) ∧ w.cell? ⟨b, o + j * 2 + 1, none⟩ = some (.slice y.2.1 y.2.2.1 y.2.2.2) ∧ ∀ hj : j < its.length, y.1 = its[j].1 ∧ Bs w B y.2.1 y.2.2.1 y.2.2.2 its[j].2 := by
      intro j hj
      obtain ⟨A', n', c', h1, h2, h3⟩ := hc j (by omega)
      exact ⟨(its[j].1, A', n', c'), h1, h2, fun _ => ⟨rfl, h3⟩⟩
    obtain ⟨y, hy⟩ := choose_lt each
    refine ⟨(List.range n).map y, ⟨by simp; omega, h.wf, fun j hj => ?_⟩, fun ad had j u hu => ?_⟩
    · simp only [List.getElem_map, List.getElem_range]
      exact (hy j (by omega)).2.2 hj
    · obtain rfl := Option.some.inj had
      obtain ⟨i, hi, ⟨rfl, rfl⟩ | ⟨rfl, rfl⟩⟩ := hdCells_some hu
      · rw [Addr.add_lit]
        simp only [List.getElem_map, List.getElem_range]
        exact (hy i (by simpa using hi)).1
      · rw [Addr.add_lit]
        simp only [List.getElem_map, List.getElem_range, ← Nat.add_assoc]
        exact (hy i (by simpa using hi)).2.1
theorem Its.of_own {base : Nat} {e : TypeId} {v : Value} (h : w.ownsRow base e 2 v n (hdCells L)) (hL : Leads w B L its) (hB : B ≤ w.heap.size) : ∃ A c, v = .slice A n c ∧ Its w w.heap.size A n c its := by
  have hl : L.length = n := by have := h.1; rw [hdCells_length] at this; omega
  have hli := hL.len
  rcases h.2 with ⟨rfl, rfl⟩ | ⟨g, cap, cur, rfl, hg, hh, hn, hm, hs, ht⟩
  · obtain rfl : its = [] := List.eq_nil_of_length_eq_zero (by omega)
    exact ⟨none, 0, rfl, rfl, Nat.le_refl _, Nat.zero_le _, fun _ => rfl, (fun x hx => by cases hx), fun h => absurd h (by omega)⟩
  · refine ⟨some ⟨g, 0, none⟩, cap, rfl, by omega, hn, hm, (fun h => by cases h), hL.wf, fun h0 => ⟨g, 0, rfl, (Array.getElem?_eq_some_iff.1 hh).1, fun j hj => ?_⟩⟩
    obtain ⟨h1, h2⟩ := hdCells_at L j (by omega)
    have k1 := h.cells (g := g) rfl _ _ h1
    have k2 := h.cells (g := g) rfl _ _ h2
    rw [Addr.add_lit] at k1 k2
    obtain ⟨e1, e2⟩ := hL.each j hj
    exact ⟨_, _, _, by rw [← e1]; exact k1, by rw [Nat.add_assoc]; exact k2, e2.more hB⟩
end
theorem own2_nil (w : World) (base : Nat) (e : TypeId) : w.ownsRow base e 2 (.slice none 0 0) 0 (hdCells []) := World.ownsRow_nil _ _ _ _
section
variable {P : Program} {w : World} {ops : Array Oper} {rest : List Oper} {o : Oper} {a : Act} {Q : Exit → Act → World → Prop} {t e : TypeId} {z : Value} {bytes : Nat}
theorem own2_below {w w' : World} {base n : Nat} {e : TypeId} {v : Value} {xs : List Value} (h : w.ownsRow base e 2 v n xs) (hb : Below w.heap.size w w') : w'.ownsRow base e 2 v n xs :=
  h.kept (row := none) ⟨hb.os, hb.tape, hb.output, hb.size, fun j hj _ => hb.block j hj⟩ (by cases v.ownBlock <;> simp)
theorem below_of_grown2 {base n : Nat} {v : Value} {xs : List Value} {w1 w2 : World} (hown : w1.ownsRow base e 2 v n xs) (hbase : base ≤ w1.heap.size) (hg : w1.grownBy w2 v.ownBlock) : Below base w1 w2 := by
  refine ⟨hg.os, hg.tape, hg.output, hg.size, fun k hk => hg.block k (by omega) (fun e => ?_)⟩
  rcases hown.2 with ⟨rfl, _⟩ | ⟨g, cap, cur, rfl, hb, _⟩
  · cases e
  · have := Option.some.inj e
    simp at this
    omega
theorem own2_ne {w : World} {base n g : Nat} {v : Value} {xs : List Value} (h : w.ownsRow base e 2 v n xs) (hg : w.heap.size ≤ g) : v.ownBlock ≠ some g := fun e => by
  rcases h.2 with ⟨rfl, _⟩ | ⟨g', cap, cur, rfl, _, hh, _⟩
  · cases e
  · have h1 : g' = g := Option.some.inj e
    have := (Array.getElem?_eq_some_iff.1 hh).1
    omega
theorem Blk.grown' {w w' : World} {k : Nat} {t : TypeId} {cs : List Value} {row : Option Nat} (h : Blk w k t cs) (hg : w.grownBy w' row) (hk : row ≠ some k) : Blk w' k t cs := ⟨(hg.block k h.lt (fun e => hk e.symm)).trans h.heap⟩
/-- append of things -/
theorem wpList_appI {i : TypeInfo} (ht : P.underlying t = some (.slice e)) (hi : P.info? e = some i) (hz : i.zero = some z) (hsize : i.size = 2) (hby : i.bytes = bytes) (hzs : z.cells.size = 2) (hgd : o.guard = none) (s x : Operand)
    (ho : o.op = .call { callee := .builtin .append, args := #[s, x], argTypes := #[t, t] })
    (base : Nat) (v : Value) (n : Nat) (L : List Hd) (hs : a.eval s = v) (hown : w.ownsRow base e 2 v n (hdCells L))
    (A : Option Addr) (m c : Nat) (M : List Hd) (hx : a.eval x = .slice A m c) (hl : M.length = m) (hnil : A = none → m = 0 ∧ c = 0)
    (hsrc : ∀ ad, A = some ad → ∀ j u, (hdCells M)[j]? = some u → w.cell? (ad.add j) = some u)
    (h63 : n + m ≤ maxLen) (hbytes : (n + m) * bytes ≤ 140737488355328) (hbase : base ≤ w.heap.size)
    (h : ∀ v' w', w'.ownsRow base e 2 v' (n + m) (hdCells (L ++ M)) → Below base w w' → w.grownBy w' v.ownBlock → wpList P ops Q rest (a.put o.dst v') w') :
    wpList P ops Q (o :: rest) a w := by
  cases A with
  | some ad =>
    exact wpList_append_own_at w hgd s x t ho base e i z 2 bytes ht hi hz hsize hby hzs (by decide) v n _ hs hown ad m c (hdCells M) hx (by rw [hdCells_length, hl]) (hsrc ad rfl) (hdCells_one M) h63 hbytes hbase
      (fun v' w' h2 h3 _ _ => h v' w' (by rw [hdCells_append]; exact h2) (below_of_grown2 hown hbase h3) h3)
  | none =>
    obtain ⟨rfl, rfl⟩ := hnil rfl
    obtain rfl : M = [] := List.eq_nil_of_length_eq_zero hl
    refine wpList_plain hgd fun K hK => ?_
    have hrun := run_append_owned_none (P := P) w base t o.type e i 2 ht hi v n (hdCells L) hown
    unfold Oper.wp
    simp [execOp, ho, resolve, invoke, builtin, hs, hx, hrun, Result.andThen]
    exact hK _ _ (h v w (by simpa using hown) (Below.refl _ _) (World.grownBy.refl _ _))
end
end Go.Proofs.Ytaedlaeflliibaa
