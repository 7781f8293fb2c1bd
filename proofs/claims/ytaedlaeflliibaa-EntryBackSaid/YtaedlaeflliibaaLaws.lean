/- Laws of the walk for append and make over rows of one-cell elements; no program is named here. -/
import Derived.Test.YtaedlaeflliibaaBase
namespace Go.Proofs.Ytaedlaeflliibaa
open Go.RowKit

/-- the element type e of the slice type t: its nought z, one cell, so many bytes -/
structure El (P : Program) (t e : TypeId) (z : Value) (bytes : Nat) : Prop where
  ty : P.underlying t = some (.slice e)
  info : (P.info? e).map (fun i => (i.zero, i.size, i.bytes)) = some (some z, 1, bytes)
  one : z.cells = #[z]

theorem own_nil (w : World) (base : Nat) (e : TypeId) : w.ownsRow base e 1 (.slice none 0 0) 0 [] := World.ownsRow_nil _ _ _ _

/-- what is owned stays, where nothing that was there turns -/
theorem own_below {w w' : World} {base : Nat} {e : TypeId} {v : Value} {n : Nat} {xs : List Value} (h : w.ownsRow base e 1 v n xs) (hb : Below w.heap.size w w') : w'.ownsRow base e 1 v n xs :=
  h.kept (row := none) ⟨hb.os, hb.tape, hb.output, hb.size, fun j hj _ => hb.block j hj⟩ (by cases v.ownBlock <;> simp)
/-- where a row lies -/
theorem own_form {w : World} {base : Nat} {e : TypeId} {v : Value} {n : Nat} {xs : List Value} (h : w.ownsRow base e 1 v n xs) :
    ∃ A c, v = .slice A n c ∧ n ≤ c ∧ c ≤ maxLen ∧ (A = none → c = 0 ∧ n = 0) ∧ (∀ ad, A = some ad → ∃ g, ad = ⟨g, 0, none⟩ ∧ base ≤ g ∧ g < w.heap.size) := by
  rcases h.2 with ⟨rfl, rfl⟩ | ⟨g, cap, cur, rfl, hg, hh, hn, hm, hs, ht⟩
  · exact ⟨none, 0, rfl, Nat.le_refl _, Nat.zero_le _, fun _ => ⟨rfl, rfl⟩, fun ad h => by cases h⟩
  · exact ⟨_, cap, rfl, hn, hm, fun h => (by cases h), fun ad h => ⟨g, (Option.some.inj h).symm, hg, (Array.getElem?_eq_some_iff.1 hh).1⟩⟩

section
variable {P : Program} {w : World} {ops : Array Oper} {rest : List Oper} {o : Oper} {a : Act} {Q : Exit → Act → World → Prop} {t e : TypeId} {z : Value} {bytes : Nat}

theorem own_some {w : World} {base : Nat} {e : TypeId} {v : Value} {n : Nat} {xs : List Value} (h : w.ownsRow base e 1 v n xs) (h0 : 0 < n) :
    ∃ g c, v = .slice (some ⟨g, 0, none⟩) n c ∧ n ≤ c ∧ base ≤ g ∧ g < w.heap.size := by
  obtain ⟨A, c, rfl, hc, _, hn, hs⟩ := own_form h
  cases A with
  | none => have := (hn rfl).2; omega
  | some ad =>
    obtain ⟨g, rfl, hg, hl⟩ := hs ad rfl
    exact ⟨g, c, rfl, hc, hg, hl⟩

/-- append, whatever is appended, to a row of the call's own -/
theorem wpList_app (E : El P t e z bytes) (hgd : o.guard = none) (s x : Operand)
    (ho : o.op = .call { callee := .builtin .append, args := #[s, x], argTypes := #[t, t] })
    (base : Nat) (v : Value) (n : Nat) (xs : List Value) (hs : a.eval s = v) (hown : w.ownsRow base e 1 v n xs)
    (A : Option Addr) (m c : Nat) (news : List Value) (hx : a.eval x = .slice A m c) (hl : news.length = m) (hnil : A = none → m = 0 ∧ c = 0)
    (hsrc : ∀ ad, A = some ad → ∀ j u, news[j]? = some u → w.cell? (ad.add j) = some u) (h1 : ∀ u ∈ news, u.oneCell' = true)
    (h63 : n + m ≤ maxLen) (hbytes : (n + m) * bytes ≤ 140737488355328) (hbase : base ≤ w.heap.size)
    (h : ∀ v' w', w'.ownsRow base e 1 v' (n + m) (xs ++ news) → w.grownBy w' v.ownBlock → (v'.ownBlock = v.ownBlock ∨ v'.ownBlock = some w.heap.size) → wpList P ops Q rest (a.put o.dst v') w') :
    wpList P ops Q (o :: rest) a w := by
  obtain ⟨i, hi, hz0, hz1, hz2⟩ := info_parts E.info
  cases A with
  | some ad =>
    exact wpList_append_own_at w hgd s x t ho base e i z 1 bytes E.ty hi hz0 hz1 hz2 (by rw [E.one]; rfl) (by decide) v n xs hs hown ad m c news hx (by omega) (hsrc ad rfl) h1 h63 hbytes hbase
      (fun v' w' h2 h3 _ h5 => h v' w' h2 h3 h5)
  | none =>
    obtain ⟨rfl, rfl⟩ := hnil rfl
    obtain rfl : news = [] := List.eq_nil_of_length_eq_zero hl
    refine wpList_plain hgd fun K hK => ?_
    have hrun := run_append_owned_none (P := P) w base t o.type e i 1 E.ty hi v n xs hown
    unfold Oper.wp
    simp [execOp, ho, resolve, invoke, builtin, hs, hx, hrun, Result.andThen]
    exact hK _ _ (h v w (by simpa using hown) (World.grownBy.refl _ _) (.inl rfl))

theorem below_of_grown {base : Nat} {v : Value} {n : Nat} {xs : List Value} {w1 w2 : World} (hown : w1.ownsRow base e 1 v n xs) (hbase : base ≤ w1.heap.size) (hg : w1.grownBy w2 v.ownBlock) : Below base w1 w2 :=
  (Below.refl _ _).grown hg hbase (fun k hk => (hown.lt k hk).1)

/-- append of one element, which has just been laid in a block of its own -/
theorem wpList_app1 {u : World} {y : Value} {t' : TypeId} (E : El P t e z bytes) (hgd : o.guard = none) (s x : Operand)
    (ho : o.op = .call { callee := .builtin .append, args := #[s, x], argTypes := #[t, t] })
    (base : Nat) (v : Value) (n : Nat) (xs : List Value) (hs : a.eval s = v) (hown : u.ownsRow base e 1 v n xs)
    (hx : a.eval x = .slice (some ⟨u.heap.size, 0, none⟩) 1 1) (h1 : y.oneCell' = true)
    (h63 : n + 1 ≤ maxLen) (hbytes : (n + 1) * bytes ≤ 140737488355328) (hbase : base ≤ u.heap.size)
    (h : ∀ v' w', Hid (w'.ownsRow base e 1 v' (n + 1) (xs ++ [y])) → Below base u w' → (∀ g, v.ownBlock ≠ some g → g < u.heap.size → w'.heap[g]? = u.heap[g]?) → (v'.ownBlock = v.ownBlock ∨ ∃ g, v'.ownBlock = some g ∧ u.heap.size ≤ g) → wpList P ops Q rest (a.put o.dst v') w') :
    wpList P ops Q (o :: rest) a (u.alloc (.cells #[y] t')) := by
  refine wpList_app E hgd s x ho base v n xs hs (hown.alloc _) (some ⟨u.heap.size, 0, none⟩) 1 1 [y] hx rfl (fun h => by cases h) (fun ad had => ?_) (fun c hc => ?_) h63 hbytes (by simp; omega) (fun v' w' h2 h3 h4 => h v' w' h2 ?_ ?_ ?_)
  · obtain rfl := Option.some.inj had
    exact cell_one_new _ _ _
  · simp at hc; subst hc; exact h1
  · exact ((Below.refl _ _).alloc hbase _).trans (below_of_grown (hown.alloc _) (by simp; omega) h3)
  · intro g hg hlt
    rw [h3.block g (by simp; omega) (fun e => hg e.symm)]
    exact Below.heap_alloc _ _ _ hlt
  · rcases h4 with h4 | h4
    · exact .inl h4
    · exact .inr ⟨_, h4, by simp⟩

/-- what the row held stays where it lay, whether it is written on or moved -/
theorem app_keeps {ty : TypeId} (E : El P t e z bytes) (base : Nat) (n : Nat) (xs : List Value) (g cap : Nat) (hown : w.ownsRow base e 1 (.slice (some ⟨g, 0, none⟩) n cap) n xs)
    (ad : Addr) (m c : Nat) (news : List Value) (hl : news.length = m) (hsrc : ∀ j u, news[j]? = some u → w.cell? (ad.add j) = some u) (h1 : ∀ u ∈ news, u.oneCell' = true)
    (h63 : n + m ≤ maxLen) (hbytes : (n + m) * bytes ≤ 140737488355328) {v' : Value} {w' : World}
    (hrun : (Builtin.append_ #[t, t] ty #[.slice (some ⟨g, 0, none⟩) n cap, .slice (some ad) m c]).run P w = .ok v' w') : ∀ j, j < n → w'.cell? ⟨g, j, none⟩ = w.cell? ⟨g, j, none⟩ := by
  obtain ⟨i, hi, hz0, hz1, hz2⟩ := info_parts E.info
  intro j hj
  have hlx : xs.length = n := by have := hown.1; omega
  rcases hown.2 with ⟨h', _⟩ | ⟨g', cap', cur, h', hb, hg, hnc, hcm, hcs, htake⟩
  · simp at h'
  · simp only [Value.slice.injEq, Option.some.injEq, Addr.mk.injEq, and_true, true_and] at h'
    obtain ⟨rfl, rfl⟩ := h'
    by_cases hroom : n + m ≤ cap
    · have hr := run_append_room (P := P) w t ty e i E.ty hi g n cap cur hg ad m c news (by rw [hz1]; omega) hsrc h1 hroom (by rw [hz1, hcs]; omega)
      rw [hr] at hrun
      injection hrun with _ e2
      subst e2
      rw [cell_of_row w g j cur e (0, 0) hg, cell_of_row _ g j _ e (0, 0) (setRow_heap w g cur _ e _ hg)]
      rw [hz1]
      simp only [Nat.mul_one, List.getElem?_toArray]
      rw [List.append_assoc, List.getElem?_append_left (by simp; omega), List.getElem?_take, if_pos hj]
      simp
    · have holds : ∀ j u, xs[j]? = some u → w.cell? ((⟨g, 0, none⟩ : Addr).add j) = some u := hown.cells (g := g) rfl
      have hmx : n + m ≤ 9223372036854775807 := by simp only [maxLen] at h63; omega
      have hr := run_append_grow (P := P) w t ty e i z E.ty hi hz0 ⟨g, 0, none⟩ n cap xs (by rw [hz1]; omega) holds ad m c news (by rw [hz1]; omega) hsrc (by omega) (by omega) (by rw [hz2]; exact growslice_fits (by omega) hbytes)
      rw [hr] at hrun
      injection hrun with _ e2
      subst e2
      have hlt := (Array.getElem?_eq_some_iff.1 hg).1
      exact World.cell?_of_block (w := w) (heap_alloc_old w.drew _ hlt)

/-- the same as one step of a region that draws its order -/
theorem step_app1 {K : Act → World → Prop} {C : Prop} (u : World) {y : Value} {t' : TypeId} (hW : w = u.alloc (.cells #[y] t')) (E : El P t e z bytes) (hgd : o.guard = none) (s x : Operand)
    (ho : o.op = .call { callee := .builtin .append, args := #[s, x], argTypes := #[t, t] })
    (base : Nat) (v : Value) (n : Nat) (xs : List Value) (hs : a.eval s = v) (hown : u.ownsRow base e 1 v n xs)
    (hx : a.eval x = .slice (some ⟨u.heap.size, 0, none⟩) 1 1) (h1 : y.oneCell' = true)
    (h63 : n + 1 ≤ maxLen) (hbytes : (n + 1) * bytes ≤ 140737488355328) (hbase : base ≤ u.heap.size)
    (h : ∀ v' w', Hid (w'.ownsRow base e 1 v' (n + 1) (xs ++ [y])) → Below base u w' → (∀ g, v.ownBlock ≠ some g → g < u.heap.size → w'.heap[g]? = u.heap[g]?) → (v'.ownBlock = v.ownBlock ∨ ∃ g, v'.ownBlock = some g ∧ u.heap.size ≤ g) → (∀ g cap, v = .slice (some ⟨g, 0, none⟩) n cap → ∀ j, j < n → w'.cell? ⟨g, j, none⟩ = u.cell? ⟨g, j, none⟩) → K (a.put o.dst v') w') :
    if Region.wanted o (yielded ops a.tmps) = true then Oper.wp P o a w K Q else C := by
  subst hW
  have hw : Region.wanted o (yielded ops a.tmps) = true := by simp [Region.wanted, hgd]
  rw [if_pos hw]
  obtain ⟨i, hi, hz0, hz1, hz2⟩ := info_parts E.info
  have hown2 := hown.alloc (.cells #[y] t')
  obtain ⟨v', w', hrun, h2, h3, _, h5⟩ := run_append_own_at (P := P) (u.alloc (.cells #[y] t')) base t o.type e i z 1 bytes E.ty hi hz0 hz1 hz2 (by rw [E.one]; rfl) (by decide) v n xs hown2 ⟨u.heap.size, 0, none⟩ 1 1 [y] rfl (cell_one_new _ _ _)
    (fun c hc => by simp at hc; subst hc; exact h1) h63 hbytes (by simp; omega)
  unfold Oper.wp execOp
  simp only [ho, resolve, invoke, builtin, Sem.run_bind, Sem.run_pure, Result.andThen_ok, List.map_toArray, List.map_cons, List.map_nil, hs, hx, hrun]
  refine h v' w' h2 ?_ ?_ ?_ ?_
  · exact ((Below.refl _ _).alloc hbase _).trans (below_of_grown hown2 (by simp; omega) h3)
  · intro g hg hlt
    rw [h3.block g (by simp; omega) (fun e => hg e.symm)]
    exact Below.heap_alloc _ _ _ hlt
  · rcases h5 with h4 | h4
    · exact .inl h4
    · exact .inr ⟨_, h4, by simp⟩
  · rintro g cap rfl j hj
    have h6 := app_keeps E base n xs g cap hown2 ⟨u.heap.size, 0, none⟩ 1 1 [y] rfl (cell_one_new _ _ _) (fun c hc => by simp at hc; subst hc; exact h1) h63 hbytes hrun j hj
    rw [h6]
    obtain ⟨g2, c2, e2, _, _, hlt⟩ := own_some hown (by omega)
    injection e2 with e3
    have e4 := Option.some.inj e3
    injection e4 with e5
    subst e5
    exact World.cell?_of_block (w := u) (Below.heap_alloc _ _ _ hlt)

/-- make of none, with room for n -/
theorem wpList_mk0 (E : El P t e z bytes) (hg : o.guard = none) (l c : Operand) (hop : o.op = Op.makeSlice t l c)
    (base : Nat) (kl kc : IntKind) (C : Int) (n : Nat) (hl : a.eval l = .int kl 0) (hc : a.eval c = .int kc C) (hC : C = (n : Int)) (hb : bytes * n ≤ 281474976710656) (b3 : n ≤ maxLen) (b4 : base ≤ w.heap.size)
    (hK : ∀ w', Hid (w'.ownsRow base e 1 (.slice (some ⟨w.heap.size, 0, none⟩) 0 n) 0 []) → Below base w w' → wpList P ops Q rest (a.put o.dst (.slice (some ⟨w.heap.size, 0, none⟩) 0 n)) w') :
    wpList P ops Q (o :: rest) a w := by
  obtain ⟨i, hi, hz0, hz1, hz2⟩ := info_parts E.info
  exact wpList_make_own w hg l c t hop base e i z 1 E.ty hi hz0 hz1 kl kc C n hl hc hC (by rw [hz2]; exact hb) b3 b4 fun w' h1 h2 => hK w' h1 ((Below.refl _ _).grown h2 b4 (by simp))

/-- make of n, all noughts -/
theorem wpList_mk (E : El P t e z bytes) (hg : o.guard = none) (l c : Operand) (hop : o.op = Op.makeSlice t l c)
    (base : Nat) (kl kc : IntKind) (L C : Int) (n : Nat) (hl : a.eval l = .int kl L) (hc : a.eval c = .int kc C) (hL : L = (n : Int)) (hC : C = (n : Int)) (hb : bytes * n ≤ 281474976710656) (b3 : n ≤ maxLen) (b4 : base ≤ w.heap.size)
    (hK : ∀ w', w'.ownsRow base e 1 (.slice (some ⟨w.heap.size, 0, none⟩) n n) n (List.replicate n z) → w.grownBy w' none → wpList P ops Q rest (a.put o.dst (.slice (some ⟨w.heap.size, 0, none⟩) n n)) w') :
    wpList P ops Q (o :: rest) a w := by
  obtain ⟨i, hi, hz0, hz1, hz2⟩ := info_parts E.info
  refine wpList_make_full w hg l c t hop base e i z 1 E.ty hi hz0 hz1 kl kc L C n hl hc hL hC (by rw [hz2]; exact hb) b3 b4 fun w' h1 h2 => hK w' ?_ h2
  have : (madeCells z.cells (n * 1)).toList = List.replicate n z := by
    rw [E.one, Nat.mul_one, toList_madeCells_one]
  rwa [this] at h1

theorem El.elem (E : El P t e z bytes) : P.elem t = e := by
  unfold Program.elem
  simp [E.ty]
theorem El.sizeOf (E : El P t e z bytes) (u : World) : (sizeOf (P.elem t)).run P u = .ok 1 u := by
  obtain ⟨i, hi, _, hz1, _⟩ := info_parts E.info
  rw [E.elem]
  simp [Go.sizeOf, typeInfo, hi, hz1]
theorem El.ty' (E : El P t e z bytes) : P.underlying t = some (.slice (P.elem t)) := by rw [E.elem]; exact E.ty

/-- x[i:] of bytes -/
theorem wpList_cut_l (E : El P t e z bytes) (hg : o.guard = none) (x lo : Operand) (hop : o.op = Op.slice t x (some lo) none none)
    {L : Nat} {A : Option Addr} {n c : Nat} {l : List UInt8} (hx : a.eval x = .slice A n c) (hb : Bs w L A n c l) (k : IntKind) (I : Int) (i : Nat) (hlo : a.eval lo = .int k I) (hI : I = i) (hi : i ≤ n)
    (h : ∀ A' m d, Bs w L A' m d (l.drop i) → wpList P ops Q rest (a.put o.dst (.slice A' m d)) w) : wpList P ops Q (o :: rest) a w := by
  subst hI
  refine wpList_plain hg fun K hK => ?_
  have hrun := run_slice_l (P := P) (w := w) t A n c E.ty' k (i : Int) (by omega) (by omega)
  rw [E.sizeOf] at hrun
  have h2 := hb.cut (i := i) (k := n) hi (Nat.le_refl _)
  rw [List.take_of_length_le (by rw [hb.len]; exact Nat.le_refl _)] at h2
  unfold Oper.wp
  simp [execOp, hop, hx, hlo, run_sliceAt_slice (P := P) (w := w) t _ _ _ _ E.ty', hrun, Result.andThen, sliced]
  exact hK _ _ (h _ _ _ h2)
/-- x[:k] of bytes -/
theorem wpList_cut_h (E : El P t e z bytes) (hg : o.guard = none) (x hi : Operand) (hop : o.op = Op.slice t x none (some hi) none)
    {L : Nat} {A : Option Addr} {n c : Nat} {l : List UInt8} (hx : a.eval x = .slice A n c) (hb : Bs w L A n c l) (kk : IntKind) (I : Int) (k : Nat) (hhi : a.eval hi = .int kk I) (hI : I = k) (hk : k ≤ n)
    (h : ∀ A', Bs w L A' k c (l.take k) → wpList P ops Q rest (a.put o.dst (.slice A' k c)) w) : wpList P ops Q (o :: rest) a w := by
  subst hI
  refine wpList_plain hg fun K hK => ?_
  have hrun := run_slice_h (P := P) (w := w) t A n c E.ty' kk (k : Int) (by omega) (by have := hb.cap; omega)
  rw [E.sizeOf] at hrun
  have h2 := hb.cut (i := 0) (k := k) (Nat.zero_le _) hk
  unfold Oper.wp
  simp [execOp, hop, hx, hhi, run_sliceAt_slice (P := P) (w := w) t _ _ _ _ E.ty', hrun, Result.andThen, sliced]
  exact hK _ _ (h _ h2)
/-- x[i:k] of bytes -/
theorem wpList_cut_lh (E : El P t e z bytes) (hg : o.guard = none) (x lo hi : Operand) (hop : o.op = Op.slice t x (some lo) (some hi) none)
    {L : Nat} {A : Option Addr} {n c : Nat} {l : List UInt8} (hx : a.eval x = .slice A n c) (hb : Bs w L A n c l) (k1 k2 : IntKind) (I J : Int) (i k : Nat) (hlo : a.eval lo = .int k1 I) (hI : I = i) (hhi : a.eval hi = .int k2 J) (hJ : J = k) (hik : i ≤ k) (hk : k ≤ n)
    (h : ∀ A' m d, Bs w L A' m d ((l.take k).drop i) → wpList P ops Q rest (a.put o.dst (.slice A' m d)) w) : wpList P ops Q (o :: rest) a w := by
  subst hI hJ
  refine wpList_plain hg fun K hK => ?_
  have hrun := run_slice_lh (P := P) (w := w) t A n c E.ty' k1 k2 (i : Int) (k : Int) (by omega) (by omega) (by have := hb.cap; omega)
  rw [E.sizeOf] at hrun
  have h2 := hb.cut hik hk
  unfold Oper.wp
  simp [execOp, hop, hx, hlo, hhi, run_sliceAt_slice (P := P) (w := w) t _ _ _ _ E.ty', hrun, Result.andThen, sliced]
  exact hK _ _ (h _ _ _ h2)

/-- x[i:] of bytes, guarded -/
theorem wpList_cut_l_g (E : El P t e z bytes) (hg : Region.wanted o (yielded ops a.tmps) = true) (x lo : Operand) (hop : o.op = Op.slice t x (some lo) none none)
    {L : Nat} {A : Option Addr} {n c : Nat} {l : List UInt8} (hx : a.eval x = .slice A n c) (hb : Bs w L A n c l) (k : IntKind) (I : Int) (i : Nat) (hlo : a.eval lo = .int k I) (hI : I = i) (hi : i ≤ n)
    (h : ∀ A' m d, Bs w L A' m d (l.drop i) → wpList P ops Q rest (a.put o.dst (.slice A' m d)) w) : wpList P ops Q (o :: rest) a w := by
  subst hI
  refine wpList_step fun K hK => ?_
  rw [if_pos hg]
  have hrun := run_slice_l (P := P) (w := w) t A n c E.ty' k (i : Int) (by omega) (by omega)
  rw [E.sizeOf] at hrun
  have h2 := hb.cut (i := i) (k := n) hi (Nat.le_refl _)
  rw [List.take_of_length_le (by rw [hb.len]; exact Nat.le_refl _)] at h2
  unfold Oper.wp
  simp [execOp, hop, hx, hlo, run_sliceAt_slice (P := P) (w := w) t _ _ _ _ E.ty', hrun, Result.andThen, sliced]
  exact hK _ _ (h _ _ _ h2)
/-- x[:k] of bytes, guarded -/
theorem wpList_cut_h_g (E : El P t e z bytes) (hg : Region.wanted o (yielded ops a.tmps) = true) (x hi : Operand) (hop : o.op = Op.slice t x none (some hi) none)
    {L : Nat} {A : Option Addr} {n c : Nat} {l : List UInt8} (hx : a.eval x = .slice A n c) (hb : Bs w L A n c l) (kk : IntKind) (I : Int) (k : Nat) (hhi : a.eval hi = .int kk I) (hI : I = k) (hk : k ≤ n)
    (h : ∀ A', Bs w L A' k c (l.take k) → wpList P ops Q rest (a.put o.dst (.slice A' k c)) w) : wpList P ops Q (o :: rest) a w := by
  subst hI
  refine wpList_step fun K hK => ?_
  rw [if_pos hg]
  have hrun := run_slice_h (P := P) (w := w) t A n c E.ty' kk (k : Int) (by omega) (by have := hb.cap; omega)
  rw [E.sizeOf] at hrun
  have h2 := hb.cut (i := 0) (k := k) (Nat.zero_le _) hk
  unfold Oper.wp
  simp [execOp, hop, hx, hhi, run_sliceAt_slice (P := P) (w := w) t _ _ _ _ E.ty', hrun, Result.andThen, sliced]
  exact hK _ _ (h _ h2)
/-- x[i:k] of bytes, guarded -/
theorem wpList_cut_lh_g (E : El P t e z bytes) (hg : Region.wanted o (yielded ops a.tmps) = true) (x lo hi : Operand) (hop : o.op = Op.slice t x (some lo) (some hi) none)
    {L : Nat} {A : Option Addr} {n c : Nat} {l : List UInt8} (hx : a.eval x = .slice A n c) (hb : Bs w L A n c l) (k1 k2 : IntKind) (I J : Int) (i k : Nat) (hlo : a.eval lo = .int k1 I) (hI : I = i) (hhi : a.eval hi = .int k2 J) (hJ : J = k) (hik : i ≤ k) (hk : k ≤ n)
    (h : ∀ A' m d, Bs w L A' m d ((l.take k).drop i) → wpList P ops Q rest (a.put o.dst (.slice A' m d)) w) : wpList P ops Q (o :: rest) a w := by
  subst hI hJ
  refine wpList_step fun K hK => ?_
  rw [if_pos hg]
  have hrun := run_slice_lh (P := P) (w := w) t A n c E.ty' k1 k2 (i : Int) (k : Int) (by omega) (by omega) (by have := hb.cap; omega)
  rw [E.sizeOf] at hrun
  have h2 := hb.cut hik hk
  unfold Oper.wp
  simp [execOp, hop, hx, hlo, hhi, run_sliceAt_slice (P := P) (w := w) t _ _ _ _ E.ty', hrun, Result.andThen, sliced]
  exact hK _ _ (h _ _ _ h2)

/-- a row that is full: its cells -/
theorem own_full {base g n : Nat} {xs : List Value} (h : w.ownsRow base e 1 (.slice (some ⟨g, 0, none⟩) n n) n xs) :
    w.heap[g]? = some (.cells xs.toArray e (0, 0)) ∧ base ≤ g ∧ n ≤ maxLen ∧ xs.length = n := by
  rcases h.2 with ⟨h', _⟩ | ⟨g', cap, cur, h', hb, hg, hnc, hcm, hcs, htake⟩
  · simp at h'
  · simp only [Value.slice.injEq, Option.some.injEq, Addr.mk.injEq, and_true, true_and] at h'
    obtain ⟨rfl, rfl⟩ := h'
    have e1 : cur.toList = xs := by
      rw [← htake]
      rw [List.take_of_length_le]
      simp [hcs]
    rw [← e1]
    exact ⟨by simpa using hg, hb, hcm, by simp [hcs]⟩
theorem own_of_full {base g n : Nat} {xs : List Value} (h : w.heap[g]? = some (.cells xs.toArray e (0, 0))) (hb : base ≤ g) (hm : n ≤ maxLen) (hl : xs.length = n) :
    w.ownsRow base e 1 (.slice (some ⟨g, 0, none⟩) n n) n xs :=
  ⟨by omega, .inr ⟨g, n, xs.toArray, rfl, hb, h, Nat.le_refl _, hm, by simp [hl], by simp; rw [List.take_of_length_le (by omega)]⟩⟩

/-- copy into a row that is full -/
theorem wpList_copyBs (E : El P t e z bytes) (hgd : o.guard = none) (d s : Operand)
    (ho : o.op = .call { callee := .builtin .copy, args := #[d, s], argTypes := #[t, t] })
    (base g n : Nat) (xs : List Value) (hd : a.eval d = .slice (some ⟨g, 0, none⟩) n n) (hown : w.ownsRow base e 1 (.slice (some ⟨g, 0, none⟩) n n) n xs)
    {L : Nat} {A : Option Addr} {m c : Nat} {l : List UInt8} (hs : a.eval s = .slice A m c) (hb : Bs w L A m c l)
    (h : ∀ w', Hid (w'.ownsRow base e 1 (.slice (some ⟨g, 0, none⟩) n n) n (cells8 (l.take n) ++ xs.drop m)) → Below base w w' → (∀ k, k ≠ g → w'.heap[k]? = w.heap[k]?) → wpList P ops Q rest (a.put o.dst (goInt (min m n : Nat))) w') :
    wpList P ops Q (o :: rest) a w := by
  obtain ⟨hg, hbg, hm, hl⟩ := own_full hown
  obtain ⟨i, hi, hz0, hz1, hz2⟩ := info_parts E.info
  have hsz : (P.info? e).map (·.size) = some 1 := by rw [hi]; simp [hz1]
  have hlm := hb.len
  by_cases h0 : min m n = 0
  · refine wpList_copy_nothing hgd d s t t ho e E.ty hsz _ _ _ _ _ _ hd hs h0 ?_
    have e1 : cells8 (l.take n) ++ xs.drop m = xs := by
      rcases Nat.eq_zero_or_pos m with h1 | h1
      · subst h1
        obtain rfl : l = [] := List.eq_nil_of_length_eq_zero hlm
        simp [cells8]
      · obtain rfl : n = 0 := by omega
        obtain rfl : xs = [] := List.eq_nil_of_length_eq_zero hl
        simp [cells8]
    have := h w (by rw [e1]; exact hown) (Below.refl _ _) (fun _ _ => rfl)
    rwa [h0] at this
  · obtain ⟨b, o', rfl, _, _⟩ := hb.cells (by omega)
    have hcl : (cells8 (l.take n)).length = min m n := by rw [cells8_length]; simp; omega
    have hns := hb.news _ rfl
    refine wpList_copy_own hgd d s t t ho e E.ty hsz g 0 n n _ m c hd hs xs.toArray e hg (cells8 (l.take n)) hcl (fun j v hj => hns j v ?_) (by rw [hcl]; simp; omega) (cells8_one _) ?_
    · obtain ⟨hj', rfl⟩ := cells8_some hj
      rw [cells8_at l j (by simp at hj'; omega)]
      simp
    · rw [hcl]
      have e2 : (xs.drop (0 + min m n)) = xs.drop m := by
        rcases Nat.le_total m n with h1 | h1
        · rw [Nat.min_eq_left h1, Nat.zero_add]
        · rw [Nat.min_eq_right h1, Nat.zero_add, List.drop_of_length_le (by omega), List.drop_of_length_le (by omega)]
      simp only [e2, List.take_zero, List.nil_append]
      refine h _ ?_ (below_setRow (Below.refl _ _) hbg _) (fun k hk => setRow_other _ _ _ _ hk)
      show World.ownsRow _ _ _ _ _ _ _
      refine own_of_full (setRow_heap w g _ _ e _ hg) hbg hm ?_
      rw [List.length_append, hcl, List.length_drop, hl]; omega
end
end Go.Proofs.Ytaedlaeflliibaa
