/- Rows of names and whose they are, as the walks read them: arguments, rows of a call's own. -/
import Derived.Test.YtaedlaeflliibaaEl
import Derived.Test.YtaedlaeflliibaaBuild
import Derived.Test.YtaedlaeflliibaaItsRow
import Derived.Lib.AppendZeros
import Derived.Laws.StructEq
import Derived.Test.YtaedlaeflliibaaJoin7
namespace Go.Proofs.Ytaedlaeflliibaa
open Go.RowKit Go.Deep

/-- a name, and whose it is -/
abbrev En := List UInt8 × Int
structure EnOk (x : En) : Prop where
  len : x.1.length ≤ 140737488351232
  wf : (Lit.int .i64 x.2).wf = true
def enOne (x : En) : List Value := [.string ⟨x.1.toArray⟩, .int .i64 x.2]
def enCells : List En → List Value
  | [] => []
  | x :: l => .string ⟨x.1.toArray⟩ :: .int .i64 x.2 :: enCells l
theorem enCells_length : ∀ L : List En, (enCells L).length = L.length * 2
  | [] => rfl
  | x :: l => by simp [enCells, enCells_length l]; omega
theorem enCells_append : ∀ L M : List En, enCells (L ++ M) = enCells L ++ enCells M
  | [], _ => rfl
  | x :: l, M => by simp [enCells, enCells_append l M]
theorem enCells_one : ∀ (L : List En), ∀ u ∈ enCells L, u.oneCell' = true
  | [], u, h => by cases h
  | x :: l, u, h => by
    simp only [enCells, List.mem_cons] at h
    rcases h with rfl | rfl | h
    · rfl
    · rfl
    · exact enCells_one l u h
theorem enCells_at : ∀ (L : List En) (j : Nat) (h : j < L.length), (enCells L)[j * 2]? = some (.string ⟨L[j].1.toArray⟩) ∧ (enCells L)[j * 2 + 1]? = some (.int .i64 L[j].2)
  | x :: l, 0, _ => ⟨rfl, rfl⟩
  | x :: l, j + 1, h => by
    have ih := enCells_at l j (by simpa using h)
    rw [show (j + 1) * 2 = j * 2 + 1 + 1 by omega]
    simp only [enCells, List.getElem?_cons_succ, List.getElem_cons_succ]
    exact ih
theorem enCells_some {L : List En} {j : Nat} {u : Value} (h : (enCells L)[j]? = some u) : ∃ i, ∃ hi : i < L.length, (j = i * 2 ∧ u = .string ⟨L[i].1.toArray⟩) ∨ (j = i * 2 + 1 ∧ u = .int .i64 L[i].2) := by
  have hj : j < L.length * 2 := by
    have := (List.getElem?_eq_some_iff.1 h).1
    rwa [enCells_length] at this
  have hi : j / 2 < L.length := by omega
  refine ⟨j / 2, hi, ?_⟩
  obtain ⟨h1, h2⟩ := enCells_at L (j / 2) hi
  rcases Nat.mod_two_eq_zero_or_one j with e | e
  · have e2 : j = j / 2 * 2 := by omega
    rw [← e2] at h1
    exact .inl ⟨e2, Option.some.inj (h.symm.trans h1)⟩
  · have e2 : j = j / 2 * 2 + 1 := by omega
    rw [← e2] at h2
    exact .inr ⟨e2, Option.some.inj (h.symm.trans h2)⟩

/-- A slice of n of room c at A reads as the entries l; its cells lie below block B. -/
structure Ens (w : World) (B : Nat) (A : Option Addr) (n c : Nat) (l : List En) : Prop where
  len : l.length = n
  cap : n ≤ c
  max : c ≤ maxLen
  nil : A = none → c = 0
  ok : ∀ x ∈ l, EnOk x
  cells : 0 < n → ∃ b o, A = some ⟨b, o, none⟩ ∧ b < B ∧ ∀ j (h : j < l.length), w.cell? ⟨b, o + j * 2, none⟩ = some (.string ⟨l[j].1.toArray⟩) ∧ w.cell? ⟨b, o + j * 2 + 1, none⟩ = some (.int .i64 l[j].2)
section
variable {w w' : World} {B B' : Nat} {A : Option Addr} {n c : Nat} {l m : List En}
theorem Ens.zero (w : World) (B : Nat) : Ens w B none 0 0 [] := ⟨rfl, Nat.le_refl _, Nat.zero_le _, fun _ => rfl, (fun x hx => by cases hx), fun h => absurd h (by omega)⟩
theorem Ens.le (h : Ens w B A n c l) : n ≤ 9223372036854775807 := by have := h.cap; have := h.max; simp only [maxLen] at this; omega
theorem Ens.keep (h : Ens w B A n c l) (hk : ∀ p : Addr, p.block < B → w'.cell? p = w.cell? p) : Ens w' B A n c l :=
  ⟨h.len, h.cap, h.max, h.nil, h.ok, fun h0 => by
    obtain ⟨b, o, hA, hb, hc⟩ := h.cells h0
    refine ⟨b, o, hA, hb, fun j hj => ?_⟩
    obtain ⟨h1, h2⟩ := hc j hj
    exact ⟨(hk _ hb).trans h1, (hk _ hb).trans h2⟩⟩
theorem Ens.more (h : Ens w B A n c l) (hB : B ≤ B') : Ens w B' A n c l :=
  ⟨h.len, h.cap, h.max, h.nil, h.ok, fun h0 => by
    obtain ⟨b, o, hA, hb, hc⟩ := h.cells h0
    exact ⟨b, o, hA, by omega, hc⟩⟩
theorem Ens.below (h : Ens w B A n c l) (hb : Below B w w') : Ens w' B A n c l := h.keep fun _ hp => hb.cell hp
theorem Ens.below' (h : Ens w B A n c l) (hb : Below B' w w') (hB : B ≤ B') : Ens w' B A n c l := h.below (hb.mono hB)
theorem Ens.next {w0 w1 : World} (h : Ens w0 B A n c l) (hb : Below w0.heap.size w0 w1) (hB : B ≤ w0.heap.size) : Ens w1 w1.heap.size A n c l :=
  (h.below (hb.mono hB)).more (Nat.le_trans hB hb.size)
theorem Ens.drewN (h : Ens w B A n c l) (k : Nat) : Ens (w.drewN k) B A n c l := h.keep fun _ _ => rfl
theorem Ens.at (h : Ens w B A n c l) {i : Nat} (hi : i < n) : ∃ b o, A = some ⟨b, o, none⟩ ∧ b < B ∧ w.cell? ⟨b, o + i * 2, none⟩ = some (.string ⟨(l[i]'(by have := h.len; omega)).1.toArray⟩) ∧ w.cell? ⟨b, o + i * 2 + 1, none⟩ = some (.int .i64 (l[i]'(by have := h.len; omega)).2) := by
  obtain ⟨b, o, hA, hb, hc⟩ := h.cells (by omega)
  obtain ⟨h1, h2⟩ := hc i (by have := h.len; omega)
  exact ⟨b, o, hA, hb, h1, h2⟩
theorem Ens.news (h : Ens w B A n c l) : ∀ ad, A = some ad → ∀ j u, (enCells l)[j]? = some u → w.cell? (ad.add j) = some u := by
  intro ad hA j u hu
  obtain ⟨i, hi, hh⟩ := enCells_some hu
  obtain ⟨b, o, hA', hb, hc⟩ := h.cells (by have := h.len; omega)
  rw [hA'] at hA
  obtain rfl := Option.some.inj hA
  obtain ⟨h1, h2⟩ := hc i hi
  rcases hh with ⟨rfl, rfl⟩ | ⟨rfl, rfl⟩
  · rw [Addr.add_lit]; exact h1
  · rw [Addr.add_lit, ← Nat.add_assoc]; exact h2
theorem Ens.of_own {base : Nat} {e : TypeId} {v : Value} (h : w.ownsRow base e 2 v n (enCells l)) (hok : ∀ x ∈ l, EnOk x) : ∃ A c, v = .slice A n c ∧ Ens w w.heap.size A n c l := by
  have hl : l.length = n := by have := h.1; rw [enCells_length] at this; omega
  rcases h.2 with ⟨rfl, rfl⟩ | ⟨g, cap, cur, rfl, hg, hh, hn, hm, hs, ht⟩
  · obtain rfl : l = [] := List.eq_nil_of_length_eq_zero (by omega)
    exact ⟨none, 0, rfl, Ens.zero _ _⟩
  · refine ⟨some ⟨g, 0, none⟩, cap, rfl, hl, hn, hm, (fun h => by cases h), hok, fun h0 => ⟨g, 0, rfl, (Array.getElem?_eq_some_iff.1 hh).1, fun j hj => ?_⟩⟩
    obtain ⟨h1, h2⟩ := enCells_at l j hj
    have k1 := h.cells (g := g) rfl _ _ h1
    have k2 := h.cells (g := g) rfl _ _ h2
    rw [Addr.add_lit] at k1 k2
    exact ⟨k1, by rw [Nat.add_assoc]; exact k2⟩
/-- the first k -/
theorem Ens.upto (h : Ens w B A n c l) {k : Nat} (hk : k ≤ n) : Ens w B A k c (l.take k) := by
  have hl := h.len
  refine ⟨by simp; omega, by have := h.cap; omega, h.max, h.nil, fun x hx => h.ok x (List.mem_of_mem_take hx), fun h0 => ?_⟩
  obtain ⟨b, o, hA, hb, hc⟩ := h.cells (by omega)
  refine ⟨b, o, hA, hb, fun j hj => ?_⟩
  have hj2 : j < l.length := by simp at hj; omega
  rw [List.getElem_take]
  exact hc j hj2
/-- all from k on, where there are any -/
theorem Ens.from {b o : Nat} (h : Ens w B (some ⟨b, o, none⟩) n c l) {k : Nat} (hk : k ≤ n) {b' o' : Nat} (hb' : b' = b) (ho' : k < n → o' = o + k * 2) : Ens w B (some ⟨b', o', none⟩) (n - k) (c - k) (l.drop k) := by
  have hl := h.len
  refine ⟨by simp; omega, by have := h.cap; omega, by have := h.max; omega, (fun h => by cases h), fun x hx => h.ok x (List.mem_of_mem_drop hx), fun h0 => ?_⟩
  obtain ⟨b1, o1, hA, hb, hc⟩ := h.cells (by omega)
  cases hA
  subst hb'
  have := ho' (by omega)
  subst this
  refine ⟨b', _, rfl, hb, fun j hj => ?_⟩
  obtain ⟨h1, h2⟩ := hc (k + j) (by simp at hj; omega)
  rw [List.getElem_drop]
  rw [show o + k * 2 + j * 2 = o + (k + j) * 2 by omega]
  exact ⟨h1, h2⟩
end
def zeroEn : List Value := [.string .empty, .int .i64 0]
theorem tyEn : Ty Try.prog 39 zeroEn := ⟨by kernel_rfl⟩
theorem rwEn : Rw Try.prog 39 (match (Try.prog).underlying 39 with | some d => d | none => .bool) 2 := ⟨by kernel_rfl, by kernel_rfl, by kernel_rfl⟩
theorem enOne_length (x : En) : (enOne x).length = 2 := rfl
theorem enOne_one (x : En) : ∀ u ∈ enOne x, u.oneCell' = true := by
  intro u hu
  simp only [enOne, List.mem_cons, List.not_mem_nil, or_false] at hu
  rcases hu with rfl | rfl <;> rfl
theorem infE : ∃ i, (Try.prog).info? 39 = some i ∧ i.zero = some (.agg zeroEn.toArray) ∧ i.size = 2 ∧ i.bytes = 24 := by
  obtain ⟨i, hi⟩ : ∃ i, (Try.prog).info? 39 = some i := info_of_underlying Try.underlying39
  have h2 : ((Try.prog).info? 39).map (fun i => (i.zero, i.size, i.bytes)) = some (some (.agg zeroEn.toArray), 2, 24) := by kernel_rfl
  rw [hi] at h2
  simp only [Option.map_some, Option.some.injEq, Prod.mk.injEq] at h2
  exact ⟨i, hi, h2.1, h2.2.1, h2.2.2⟩
theorem own2E_nil (w : World) (base : Nat) (e : TypeId) : w.ownsRow base e 2 (.slice none 0 0) 0 (enCells []) := World.ownsRow_nil _ _ _ _
section
variable {w : World} {ops : Array Oper} {rest : List Oper} {o : Oper} {a : Act} {Q : Exit → Act → World → Prop}
/-- append of entries -/
theorem wpList_appE (hgd : o.guard = none) (s x : Operand)
    (ho : o.op = .call { callee := .builtin .append, args := #[s, x], argTypes := #[22, 22] })
    (base : Nat) (v : Value) (n : Nat) (L : List En) (hs : a.eval s = v) (hown : w.ownsRow base 39 2 v n (enCells L))
    (A : Option Addr) (m c : Nat) (M : List En) (hx : a.eval x = .slice A m c) (hl : M.length = m) (hnil : A = none → m = 0 ∧ c = 0)
    (hsrc : ∀ ad, A = some ad → ∀ j u, (enCells M)[j]? = some u → w.cell? (ad.add j) = some u)
    (hbytes : n + m ≤ 5864062014805) (hbase : base ≤ w.heap.size)
    (h : ∀ v' w', w'.ownsRow base 39 2 v' (n + m) (enCells (L ++ M)) → Below base w w' → w.grownBy w' v.ownBlock → wpList Try.prog ops Q rest (a.put o.dst v') w') :
    wpList Try.prog ops Q (o :: rest) a w := by
  obtain ⟨i, hi, hz, hsize, hby⟩ := infE
  cases A with
  | some ad =>
    exact wpList_append_own_at w hgd s x 22 ho base 39 i _ 2 24 Try.underlying22 hi hz hsize hby rfl (by decide) v n _ hs hown ad m c (enCells M) hx (by rw [enCells_length, hl]) (hsrc ad rfl) (enCells_one M) (by simp only [maxLen]; omega) (by omega) hbase
      (fun v' w' h2 h3 _ _ => h v' w' (by rw [enCells_append]; exact h2) (below_of_grown2 hown hbase h3) h3)
  | none =>
    obtain ⟨rfl, rfl⟩ := hnil rfl
    obtain rfl : M = [] := List.eq_nil_of_length_eq_zero hl
    refine wpList_plain hgd fun K hK => ?_
    have hrun := run_append_owned_none (P := Try.prog) w base 22 o.type 39 i 2 Try.underlying22 hi v n (enCells L) hown
    unfold Oper.wp
    simp [execOp, ho, resolve, invoke, builtin, hs, hx, hrun, Result.andThen]
    exact hK _ _ (h v w (by simpa using hown) (Below.refl _ _) (World.grownBy.refl _ _))
/-- append of so many noughts to nothing: only its room is kept -/
theorem wpList_growE (hgd : o.guard = none) (s x : Operand)
    (ho : o.op = .call { callee := .builtin .append, args := #[s, x], argTypes := #[22, 3] }) (k : IntKind) (n : Nat)
    (hs : a.eval s = .slice none 0 0) (hx : a.eval x = .int k n) (h0 : 0 < n) (h48 : n ≤ 5864062014805)
    (h : ∀ w' c, n ≤ c → w'.ownsRow w.heap.size 39 2 (.slice (some ⟨w.heap.size, 0, none⟩) 0 c) 0 [] → Below w.heap.size w w' → wpList Try.prog ops Q rest (a.put o.dst (.slice (some ⟨w.heap.size, 0, none⟩) n c)) w') :
    wpList Try.prog ops Q (o :: rest) a w := by
  obtain ⟨i, hi, hz, hsize, hby⟩ := infE
  have h63 : n ≤ maxLen := by simp only [maxLen]; omega
  have hr := Lib.run_append_nil_zeros (P := Try.prog) w 22 3 o.type 39 i _ k .i64 Try.underlying22 Try.underlying3 hi hz n h0 (by omega) (by omega) (by rw [hby]; omega)
  refine Lib.wpList_append_run w hgd s x 22 3 ho _ _ hs hx _ _ hr (h _ _ (grownCap_ge w n 0 39) ?_ ((Below.refl _ _).drew.alloc (Nat.le_refl _) _))
  have hc := grownCap_le_maxLen w n 0 39 h63
  have hge := grownCap_ge w n 0 39
  refine ⟨rfl, .inr ⟨w.heap.size, _, _, rfl, Nat.le_refl _, heap_alloc_new w.drew _, Nat.zero_le _, hc, ?_, rfl⟩⟩
  have hzs : (Value.agg zeroEn.toArray).cells.size = 2 := rfl
  simp only [Array.size_append, size_zeroCells, hzs]
  omega
end
end Go.Proofs.Ytaedlaeflliibaa
