/- Rows of things at places that a call lays itself: append to them, and what they read as. No program is named here.
   What the last three laws of the chapter share.
   The walk of SumKeys. -/
import Derived.Test.YtjllfaeamjadcaaG07
import Derived.Deep.Matrix
import Derived.Test.YtjllfaeamjadcaaG11
namespace Go.Proofs.Ytjllfaeamjadcaa
open Go.RowKit Go.Deep

/-- a place, and where its bytes lie -/
abbrev Hd := Int × Option Addr × Nat × Nat
def hdCells : List Hd → List Value
  | [] => []
  | x :: l => .int .i64 x.1 :: .slice x.2.1 x.2.2.1 x.2.2.2 :: hdCells l
theorem hdCells_length : ∀ L : List Hd, (hdCells L).length = L.length * 2
  | [] => rfl
  | x :: l => by simp [hdCells, hdCells_length l]; omega
theorem hdCells_append : ∀ L M : List Hd, hdCells (L ++ M) = hdCells L ++ hdCells M
  | [], _ => rfl
  | x :: l, M => by simp [hdCells, hdCells_append l M]
theorem hdCells_one : ∀ (L : List Hd), ∀ u ∈ hdCells L, u.oneCell' = true
  | [], u, h => by cases h
  | x :: l, u, h => by
    simp only [hdCells, List.mem_cons] at h
    rcases h with rfl | rfl | h
    · rfl
    · rfl
    · exact hdCells_one l u h
theorem hdCells_at : ∀ (L : List Hd) (j : Nat) (h : j < L.length), (hdCells L)[j * 2]? = some (.int .i64 L[j].1) ∧ (hdCells L)[j * 2 + 1]? = some (.slice L[j].2.1 L[j].2.2.1 L[j].2.2.2)
  | x :: l, 0, _ => ⟨rfl, rfl⟩
  | x :: l, j + 1, h => by
    have ih := hdCells_at l j (by simpa using h)
    rw [show (j + 1) * 2 = j * 2 + 1 + 1 by omega]
    simp only [hdCells, List.getElem?_cons_succ, List.getElem_cons_succ]
    exact ih
theorem hdCells_some {L : List Hd} {j : Nat} {u : Value} (h : (hdCells L)[j]? = some u) : ∃ i, ∃ hi : i < L.length, (j = i * 2 ∧ u = .int .i64 L[i].1) ∨ (j = i * 2 + 1 ∧ u = .slice L[i].2.1 L[i].2.2.1 L[i].2.2.2) := by
  have hj : j < L.length * 2 := by
    have := (List.getElem?_eq_some_iff.1 h).1
    rwa [hdCells_length] at this
  have hi : j / 2 < L.length := by omega
  refine ⟨j / 2, hi, ?_⟩
  obtain ⟨h1, h2⟩ := hdCells_at L (j / 2) hi
  rcases Nat.mod_two_eq_zero_or_one j with e | e
  · have e2 : j = j / 2 * 2 := by omega
    rw [← e2] at h1
    exact .inl ⟨e2, Option.some.inj (h.symm.trans h1)⟩
  · have e2 : j = j / 2 * 2 + 1 := by omega
    rw [← e2] at h2
    exact .inr ⟨e2, Option.some.inj (h.symm.trans h2)⟩
/-- headers, and the things that they lead to -/
structure Leads (w : World) (B : Nat) (L : List Hd) (its : List (Int × List UInt8)) : Prop where
  len : L.length = its.length
  wf : ∀ x ∈ its, (Lit.int .i64 x.1).wf = true
  each : ∀ j (h : j < its.length), (L[j]'(by omega)).1 = its[j].1 ∧ Bs w B (L[j]'(by omega)).2.1 (L[j]'(by omega)).2.2.1 (L[j]'(by omega)).2.2.2 its[j].2
section
variable {w w' : World} {B B' : Nat} {A : Option Addr} {n c : Nat} {its its' : List (Int × List UInt8)} {L M : List Hd}
theorem Leads.nil (w : World) (B : Nat) : Leads w B [] [] := ⟨rfl, (fun x h => by cases h), fun j h => by cases h⟩
theorem Leads.below (h : Leads w B L its) (hb : Below B w w') : Leads w' B L its := ⟨h.len, h.wf, fun j hj => ⟨(h.each j hj).1, (h.each j hj).2.below hb⟩⟩
theorem Leads.more (h : Leads w B L its) (hB : B ≤ B') : Leads w B' L its := ⟨h.len, h.wf, fun j hj => ⟨(h.each j hj).1, (h.each j hj).2.more hB⟩⟩
theorem Leads.append (h : Leads w B L its) (k : Leads w B M its') : Leads w B (L ++ M) (its ++ its') := by
  refine ⟨by simp [h.len, k.len], fun x hx => ?_, fun j hj => ?_⟩
  · rcases List.mem_append.1 hx with hx | hx
    · exact h.wf x hx
    · exact k.wf x hx
  · have hl := h.len
    by_cases hlt : j < its.length
    · rw [List.getElem_append_left hlt, List.getElem_append_left (by omega)]
      exact h.each j hlt
    · rw [List.getElem_append_right (by omega), List.getElem_append_right (by omega)]
      have h3 := k.each (j - its.length) (by simp at hj; omega)
      simp only [hl]
      exact h3
theorem Leads.one {z : Int} {l : List UInt8} (hz : (Lit.int .i64 z).wf = true) (hb : Bs w B A n c l) : Leads w B [(z, A, n, c)] [(z, l)] := by
  refine ⟨rfl, fun x hx => ?_, fun j hj => ?_⟩
  · simp at hx; rw [hx]; exact hz
  · obtain rfl : j = 0 := by simp at hj; omega
    exact ⟨rfl, hb⟩
theorem Its.heads (h : Its w B A n c its) : ∃ L, Leads w B L its ∧ (∀ ad, A = some ad → ∀ j u, (hdCells L)[j]? = some u → w.cell? (ad.add j) = some u) := by
  have hlen := h.len
  rcases Nat.eq_zero_or_pos n with h0 | h0
  · obtain rfl : its = [] := List.eq_nil_of_length_eq_zero (by omega)
    exact ⟨[], Leads.nil _ _, fun ad _ j u hu => by simp [hdCells] at hu⟩
  · obtain ⟨b, o, rfl, hb, hc⟩ := h.cells h0
    have each : ∀ j, j < n → ∃ y : Hd, w.cell? ⟨b, o + j * 2, none⟩ = some (.int .i64 y.1) ∧ w.cell? ⟨b, o + j * 2 + 1, none⟩ = some (.slice y.2.1 y.2.2.1 y.2.2.2) ∧ ∀ hj : j < its.length, y.1 = its[j].1 ∧ Bs w B y.2.1 y.2.2.1 y.2.2.2 its[j].2 := by
      intro j hj
      obtain ⟨A', n', c', h1, h2, h3⟩ := hc j (by omega)
      exact ⟨(its[j].1, A', n', c'), h1, h2, fun _ => ⟨rfl, h3⟩⟩
    obtain ⟨y, hy⟩ := choose_lt each
    refine ⟨(List.range n).map y, ⟨by simp; omega, h.wf, fun j hj => ?_⟩, fun ad had j u hu => ?_⟩
    · simp only [List.getElem_map, List.getElem_range]
      exact (hy j (by omega)).2.2 hj
    · obtain rfl := Option.some.inj had
      obtain ⟨i, hi, ⟨rfl, rfl⟩ | ⟨rfl, rfl⟩⟩ := hdCells_some hu
      · rw [Addr.add_lit]
        simp only [List.getElem_map, List.getElem_range]
        exact (hy i (by simpa using hi)).1
      · rw [Addr.add_lit]
        simp only [List.getElem_map, List.getElem_range, ← Nat.add_assoc]
        exact (hy i (by simpa using hi)).2.1
theorem Its.of_own {base : Nat} {e : TypeId} {v : Value} (h : w.ownsRow base e 2 v n (hdCells L)) (hL : Leads w B L its) (hB : B ≤ w.heap.size) : ∃ A c, v = .slice A n c ∧ Its w w.heap.size A n c its := by
  have hl : L.length = n := by have := h.1; rw [hdCells_length] at this; omega
  have hli := hL.len
  rcases h.2 with ⟨rfl, rfl⟩ | ⟨g, cap, cur, rfl, hg, hh, hn, hm, hs, ht⟩
  · obtain rfl : its = [] := List.eq_nil_of_length_eq_zero (by omega)
    exact ⟨none, 0, rfl, rfl, Nat.le_refl _, Nat.zero_le _, fun _ => rfl, (fun x hx => by cases hx), fun h => absurd h (by omega)⟩
  · refine ⟨some ⟨g, 0, none⟩, cap, rfl, by omega, hn, hm, (fun h => by cases h), hL.wf, fun h0 => ⟨g, 0, rfl, (Array.getElem?_eq_some_iff.1 hh).1, fun j hj => ?_⟩⟩
    obtain ⟨h1, h2⟩ := hdCells_at L j (by omega)
    have k1 := h.cells (g := g) rfl _ _ h1
    have k2 := h.cells (g := g) rfl _ _ h2
    rw [Addr.add_lit] at k1 k2
    obtain ⟨e1, e2⟩ := hL.each j hj
    exact ⟨_, _, _, by rw [← e1]; exact k1, by rw [Nat.add_assoc]; exact k2, e2.more hB⟩
end
theorem own2_nil (w : World) (base : Nat) (e : TypeId) : w.ownsRow base e 2 (.slice none 0 0) 0 (hdCells []) := World.ownsRow_nil _ _ _ _
section
variable {P : Program} {w : World} {ops : Array Oper} {rest : List Oper} {o : Oper} {a : Act} {Q : Exit → Act → World → Prop} {t e : TypeId} {z : Value} {bytes : Nat}
theorem own2_below {w w' : World} {base n : Nat} {e : TypeId} {v : Value} {xs : List Value} (h : w.ownsRow base e 2 v n xs) (hb : Below w.heap.size w w') : w'.ownsRow base e 2 v n xs :=
  h.kept (row := none) ⟨hb.os, hb.tape, hb.output, hb.size, fun j hj _ => hb.block j hj⟩ (by cases v.ownBlock <;> simp)
theorem below_of_grown2 {base n : Nat} {v : Value} {xs : List Value} {w1 w2 : World} (hown : w1.ownsRow base e 2 v n xs) (hbase : base ≤ w1.heap.size) (hg : w1.grownBy w2 v.ownBlock) : Below base w1 w2 := by
  refine ⟨hg.os, hg.tape, hg.output, hg.size, fun k hk => hg.block k (by omega) (fun e => ?_)⟩
  rcases hown.2 with ⟨rfl, _⟩ | ⟨g, cap, cur, rfl, hb, _⟩
  · cases e
  · have := Option.some.inj e
    simp at this
    omega
theorem own2_ne {w : World} {base n g : Nat} {v : Value} {xs : List Value} (h : w.ownsRow base e 2 v n xs) (hg : w.heap.size ≤ g) : v.ownBlock ≠ some g := fun e => by
  rcases h.2 with ⟨rfl, _⟩ | ⟨g', cap, cur, rfl, _, hh, _⟩
  · cases e
  · have h1 : g' = g := Option.some.inj e
    have := (Array.getElem?_eq_some_iff.1 hh).1
    omega
theorem Blk.grown' {w w' : World} {k : Nat} {t : TypeId} {cs : List Value} {row : Option Nat} (h : Blk w k t cs) (hg : w.grownBy w' row) (hk : row ≠ some k) : Blk w' k t cs := ⟨(hg.block k h.lt (fun e => hk e.symm)).trans h.heap⟩
/-- append of things -/
theorem wpList_appI {i : TypeInfo} (ht : P.underlying t = some (.slice e)) (hi : P.info? e = some i) (hz : i.zero = some z) (hsize : i.size = 2) (hby : i.bytes = bytes) (hzs : z.cells.size = 2) (hgd : o.guard = none) (s x : Operand)
    (ho : o.op = .call { callee := .builtin .append, args := #[s, x], argTypes := #[t, t] })
    (base : Nat) (v : Value) (n : Nat) (L : List Hd) (hs : a.eval s = v) (hown : w.ownsRow base e 2 v n (hdCells L))
    (A : Option Addr) (m c : Nat) (M : List Hd) (hx : a.eval x = .slice A m c) (hl : M.length = m) (hnil : A = none → m = 0 ∧ c = 0)
    (hsrc : ∀ ad, A = some ad → ∀ j u, (hdCells M)[j]? = some u → w.cell? (ad.add j) = some u)
    (h63 : n + m ≤ maxLen) (hbytes : (n + m) * bytes ≤ 140737488355328) (hbase : base ≤ w.heap.size)
    (h : ∀ v' w', w'.ownsRow base e 2 v' (n + m) (hdCells (L ++ M)) → Below base w w' → w.grownBy w' v.ownBlock → wpList P ops Q rest (a.put o.dst v') w') :
    wpList P ops Q (o :: rest) a w := by
  cases A with
  | some ad =>
    exact wpList_append_own_at w hgd s x t ho base e i z 2 bytes ht hi hz hsize hby hzs (by decide) v n _ hs hown ad m c (hdCells M) hx (by rw [hdCells_length, hl]) (hsrc ad rfl) (hdCells_one M) h63 hbytes hbase
      (fun v' w' h2 h3 _ _ => h v' w' (by rw [hdCells_append]; exact h2) (below_of_grown2 hown hbase h3) h3)
  | none =>
    obtain ⟨rfl, rfl⟩ := hnil rfl
    obtain rfl : M = [] := List.eq_nil_of_length_eq_zero hl
    refine wpList_plain hgd fun K hK => ?_
    have hrun := run_append_owned_none (P := P) w base t o.type e i 2 ht hi v n (hdCells L) hown
    unfold Oper.wp
    simp [execOp, ho, resolve, invoke, builtin, hs, hx, hrun, Result.andThen]
    exact hK _ _ (h v w (by simpa using hown) (Below.refl _ _) (World.grownBy.refl _ _))
end
end Go.Proofs.Ytjllfaeamjadcaa

namespace Go.Proofs.Ytjllfaeamjadcaa
open Go.RowKit

theorem item_info : ∃ i, (Try.prog).info? 35 = some i ∧ i.zero = some (.agg #[.int .i64 0, .slice none 0 0]) ∧ i.size = 2 ∧ i.bytes = 32 := by
  have h : ((Try.prog).info? 35).map (fun i => (i.zero, i.size, i.bytes)) = some (some (.agg #[.int .i64 0, .slice none 0 0]), 2, 32) := by kernel_rfl
  cases hq : (Try.prog).info? 35 with
  | none => rw [hq] at h; cases h
  | some i =>
    rw [hq] at h
    simp only [Option.map_some, Option.some.injEq, Prod.mk.injEq] at h
    exact ⟨i, rfl, h.1, h.2.1, h.2.2⟩
theorem two_cells (w : World) (t : TypeId) (z : Int) (A : Option Addr) (n c : Nat) : ∀ ad, some (⟨w.heap.size, 0, none⟩ : Addr) = some ad → ∀ j u, (hdCells [(z, A, n, c)])[j]? = some u → (w.alloc (.cells #[.int .i64 z, .slice A n c] t)).cell? (ad.add j) = some u := by
  intro ad had j u hu
  obtain rfl := Option.some.inj had
  obtain ⟨i, hi, ⟨rfl, rfl⟩ | ⟨rfl, rfl⟩⟩ := hdCells_some hu
  · obtain rfl : i = 0 := by simp at hi; omega
    rw [Addr.add_lit, World.cell?_alloc_at _ _ _ _ rfl]; rfl
  · obtain rfl : i = 0 := by simp at hi; omega
    rw [Addr.add_lit, World.cell?_alloc_at _ _ _ _ rfl]; rfl
theorem comeL_append (key : List UInt8) (a b : List (Int × List UInt8)) : comeL key (a ++ b) = comeL key a ++ comeL key b := by simp [comeL]
theorem sumN_append (a b : List D32) : sumN (a ++ b) = sumN a + sumN b := by simp [sumN]
theorem put_add (a b : Nat) : putN (a + b) 32 = putN (getN (putN a 32) + getN (putN b 32)) 32 := by
  refine getN_inj (by rw [putN_length, putN_length]) ?_
  rw [getN_putN, getN_putN, getN_putN, getN_putN, Nat.mod_add_mod, Nat.add_mod_mod]
theorem sumD_append (a b : List D32) : sumD (a ++ b) = addL (sumD a) (sumD b) := by
  unfold sumD addL
  rw [sumN_append]
  exact put_add _ _
theorem allL_append (key : List UInt8) (a b : List (Int × List UInt8)) : allL key (a ++ b) = addL (allL key a) (allL key b) := by
  unfold allL
  rw [comeL_append]
  exact sumD_append _ _
theorem sumD_one (x : D32) : sumD [x] = x.1 := by
  have h1 : sumN [x] = getN x.1 := by simp [sumN]
  have h2 := putN_getN x.1
  rw [x.2] at h2
  unfold sumD
  rw [h1]
  exact h2
theorem allL_one (key : List UInt8) (z : Int) (b : List UInt8) : allL key [(z, b)] = ofL key z b := sumD_one ⟨ofL key z b, ofL_length _ _ _⟩
theorem allL_nil (key : List UInt8) : allL key [] = z32 := sumD_nil
end Go.Proofs.Ytjllfaeamjadcaa

namespace Go.Proofs.Ytjllfaeamjadcaa
open Go.RowKit

set_option maxRecDepth 100000 in
set_option maxHeartbeats 4000000 in
theorem law_sumKeys (K : Option Addr) (n c : Nat) (key : List UInt8) (z : Int) (B : Option Addr) (m d : Nat) (b : List UInt8) (I : Option Addr) (p q : Nat) (its : List (Int × List UInt8)) (w : World) (hk : Bs w w.heap.size K n c key ∧ c ≤ 140737488351232) (hz : (Lit.int .i64 z).wf = true) (hb : Bs w w.heap.size B m d b ∧ d ≤ 140737488351232) (hi : Its w w.heap.size I p q its ∧ ∀ x ∈ its, x.2.length ≤ 140737488351232) :
    Calls Try.prog 9 #[.slice K n c, .int .i64 z, .slice B m d, .slice I p q] w fun e w' => e = .returned (.bool true) ∧ Below w.heap.size w w' := by
  have HK : Kp _ := ⟨hk.1⟩
  have HB : Kp _ := ⟨hb.1⟩
  have HI : Kp _ := ⟨hi.1⟩
  have HM : Kp _ := ⟨hi.2⟩
  have HZ : Kp _ := ⟨hz⟩
  have hn63 := hk.1.le
  have hm63 := hb.1.le
  have hp63 := hi.1.le
  clear hk hb hi hz
  obtain ⟨X, hX⟩ : ∃ x, x = ofL key z b := ⟨_, rfl⟩
  have HXl : Kp (X.length = 32) := ⟨by rw [hX]; exact ofL_length _ _ _⟩
  have HLX : Kp ((cells8 X).length = 32) := ⟨by rw [cells8_length]; exact HXl.out⟩
  obtain ⟨Y, hY⟩ : ∃ x, x = allL key its := ⟨_, rfl⟩
  have HYl : Kp (Y.length = 32) := ⟨by rw [hY]; exact allL_length _ _⟩
  have HLY : Kp ((cells8 Y).length = 32) := ⟨by rw [cells8_length]; exact HYl.out⟩
  obtain ⟨O, hO⟩ : ∃ x, x = addL Y X := ⟨_, rfl⟩
  have HOl : Kp (O.length = 32) := ⟨by rw [hO]; exact addL_length _ _⟩
  have HLO : Kp ((cells8 O).length = 32) := ⟨by rw [cells8_length]; exact HOl.out⟩
  obtain ⟨V, hV⟩ : ∃ x, x = addL O X := ⟨_, rfl⟩
  have HVl : Kp (V.length = 32) := ⟨by rw [hV]; exact addL_length _ _⟩
  have HLV : Kp ((cells8 V).length = 32) := ⟨by rw [cells8_length]; exact HVl.out⟩
  obtain ⟨D, hD⟩ : ∃ x, x = addL X X := ⟨_, rfl⟩
  have HDl : Kp (D.length = 32) := ⟨by rw [hD]; exact addL_length _ _⟩
  have HLD : Kp ((cells8 D).length = 32) := ⟨by rw [cells8_length]; exact HDl.out⟩
  have S1 : Kp (∀ W, Calls Try.prog 12 #[.agg (cells8 O).toArray, .agg (cells8 Y).toArray] W fun e w' => e = .returned (.agg (cells8 X).toArray) ∧ Below W.heap.size W w') := ⟨fun W => by
    have h := ssub_any O Y W HOl.out HYl.out
    rw [show subL O Y = X by rw [hO, addL_comm]; exact sub_add HXl.out HYl.out] at h; exact h⟩
  have S2 : Kp (∀ W, Calls Try.prog 12 #[.agg (cells8 V).toArray, .agg (cells8 O).toArray] W fun e w' => e = .returned (.agg (cells8 X).toArray) ∧ Below W.heap.size W w') := ⟨fun W => by
    have h := ssub_any V O W HVl.out HOl.out
    rw [show subL V O = X by rw [hV, addL_comm]; exact sub_add HXl.out HOl.out] at h; exact h⟩
  have S3 : Kp (∀ W, Calls Try.prog 12 #[.agg (cells8 V).toArray, .agg (cells8 Y).toArray] W fun e w' => e = .returned (.agg (cells8 D).toArray) ∧ Below W.heap.size W w') := ⟨fun W => by
    have h := ssub_any V Y W HVl.out HYl.out
    rw [show subL V Y = D by rw [hV, hO, addL_assoc, addL_comm, ← hD]; exact sub_add HDl.out HYl.out] at h; exact h⟩
  have S4 : Kp (∀ W, Calls Try.prog 10 #[.agg (cells8 X).toArray, .agg (cells8 X).toArray] W fun e w' => e = .returned (.agg (cells8 D).toArray) ∧ Below W.heap.size W w') := ⟨fun W => by
    have h := sadd_any X X W HXl.out HXl.out
    rw [show addL X X = D by exact hD.symm] at h; exact h⟩
  go_enter Try.func9, Try.ntmps9
  by_cases h1 : (100 : Int) < n
  · go_wp2_with fail
    refine (known5_any _).mono ?_
    rintro e wz ⟨rfl, hz⟩
    go_wp2
    go_ret
    exact ⟨rfl, hz⟩
  have dh1 := decide_eq_false h1
  by_cases h2 : (200 : Int) < m
  · go_wp2_with fail
    refine (known5_any _).mono ?_
    rintro e wz ⟨rfl, hz⟩
    go_wp2
    go_ret
    exact ⟨rfl, hz⟩
  have dh2 := decide_eq_false h2
  by_cases h3 : (10 : Int) < p
  · go_wp2_with fail
    refine (known5_any _).mono ?_
    rintro e wz ⟨rfl, hz⟩
    go_wp2
    go_ret
    exact ⟨rfl, hz⟩
  have dh3 := decide_eq_false h3
  obtain ⟨s, hs⟩ : ∃ s, s = longN its := ⟨_, rfl⟩
  have hs63 : s ≤ 3000000000000000 := by
    have h := longN_le its 140737488351232 HM.out its.length (Nat.le_refl _)
    rw [List.take_length, HI.out.len] at h
    rw [hs]
    exact Nat.le_trans h (by omega)
  have CL := reflong_any I p q its w w.heap.size HI.out (by omega) HM.out
  rw [← hs] at CL
  have HCL : Kp _ := ⟨CL⟩
  clear CL
  go_wp2_with fail
  refine HCL.out.mono ?_
  rintro e w0 ⟨rfl, rfl⟩
  by_cases h4 : (300 : Int) < s
  · go_wp2_with fail
    refine (known5_any _).mono ?_
    rintro e wz ⟨rfl, hz⟩
    go_wp2
    go_ret
    exact ⟨rfl, hz⟩
  have dh4 := decide_eq_false h4
  have HMs : Kp (∀ x ∈ its, x.2.length ≤ 523000) := ⟨fun x hx => by have h := longN_mem its x hx; omega⟩
  have HMb : Kp (b.length ≤ 523000) := ⟨by rw [HB.out.len]; omega⟩
  have hn3 : n ≤ 524288 := by omega
  have hm3 : m ≤ 523000 := by omega
  have hp3 : p ≤ 10 := by omega
  have CA : Kp (∀ W A k e its', Below w0.heap.size w0 W → Its W W.heap.size A k e its' → k ≤ 100 → (∀ x ∈ its', x.2.length ≤ 523000) → Calls Try.prog 20 #[.slice K n c, .slice A k e] W fun e w' => e = .returned (.agg (cells8 (allL key its')).toArray) ∧ Below W.heap.size W w') := ⟨fun W A k e its' hW h1 h2 h3 => all_any K n c key A k e its' W (HK.out.next hW (Nat.le_refl _)) h1 (by omega) hn3 h3⟩
  have HE1 : Kp (allL key (its ++ [(z, b)]) = O) := ⟨by rw [allL_append, allL_one, hO, hY, hX]⟩
  have HE2 : Kp (allL key (its ++ [(z, b)] ++ [(z, b)]) = V) := ⟨by rw [allL_append, allL_append, allL_one, hV, hO, hY, hX]⟩
  have HY : Kp (allL key its = Y) := ⟨hY.symm⟩
  have HO : Kp (∀ W, Below w0.heap.size w0 W → Calls Try.prog 18 #[.slice K n c, .int .i64 z, .slice B m d] W fun e w' => e = .returned (.agg (cells8 X).toArray) ∧ Below W.heap.size W w') := ⟨fun W hW => by
    have h := of_any K n c key z B m d b W (HK.out.next hW (Nat.le_refl _)) (HB.out.next hW (Nat.le_refl _)) hn3 hm3
    rw [← hX] at h; exact h⟩
  have HZz : Kp (zero32.length = 32) := ⟨rfl⟩
  obtain ⟨i, hi, hi0, hi2, hi32⟩ := item_info
  clear hX hY hO hV hD hs
  go_wp2_with fail
  refine (CA.out _ _ _ _ _ (Below.refl _ _) HI.out (by omega) HMs.out).mono ?_
  rintro e x1 ⟨rfl, hc⟩
  rw [HY.out]
  go_wp2_with (with_reducible refine wpList_alloc (o := ⟨some 9, _, _, _, _, _⟩) tyDig rfl rfl ?_)
  intro x2 hk2 hb2 hs2
  have HG0 : Kp _ := ⟨hk2⟩
  have hbb := hc.trans (hb2.mono hc.size)
  have hsz := hc.size
  obtain ⟨ga, hg0⟩ : ∃ g, g = x1.heap.size := ⟨_, rfl⟩
  have hgega : w0.heap.size ≤ ga := by rw [hg0]; exact hsz
  rw [← hg0] at HG0 ⊢
  clear hk2 hb2 hs2 hc hg0 hsz
  go_wp2_with (refine wpList_storeAll (o := ⟨none, _, _, _, _, _⟩) (vs := cells8 Y) rwDig rfl (.tmp 9) (.tmp 35) rfl rfl HG0.out HZz.out HLY.out (cells8_one _) rfl ?_)
  intro x3 hk3 ho3
  have Hga : Kp _ := ⟨hk3⟩
  have hlga : ga < x3.heap.size := hk3.lt
  have hBx : Below w0.heap.size w0 x3 := hbb.trans (ho3.below hgega)
  clear hk3 ho3 HG0 hbb
  obtain ⟨M, hM, hsrc⟩ := (HI.out.below hBx).heads
  have HM1 : Kp _ := ⟨hM⟩
  have hMl : M.length = p := by rw [hM.len]; exact HI.out.len
  have HS1 : Kp _ := ⟨hsrc⟩
  have hnilI : I = none → p = 0 ∧ q = 0 := fun h => by have h1 := HI.out.nil h; have h2 := HI.out.cap; omega
  have hB0 := hBx.size
  clear hM hsrc
  go_wp2_with (at_builtin; refine wpList_appI Try.underlying28 hi hi0 hi2 hi32 rfl rfl _ _ rfl x3.heap.size _ 0 [] rfl (own2_nil _ _ _) I p q M rfl hMl hnilI HS1.out (by simp only [maxLen]; omega) (by omega) (Nat.le_refl _) ?_)
  intro v4 w4 hown4 hb4 _
  have HOwn4 := Lib.hid hown4
  have Hga4 : Kp _ := ⟨Hga.out.below hb4 hlga⟩
  have hB4 := hBx.trans (hb4.mono hB0)
  have hs4 := hb4.size
  have HM4 : Kp (Leads w4 w0.heap.size M its) := ⟨HM1.out.below (hb4.mono hB0)⟩
  clear hown4 Hga HM1 hb4 HS1
  go_wp2_with (at_builtin; refine wpList_appI Try.underlying28 hi hi0 hi2 hi32 rfl rfl _ _ rfl x3.heap.size v4 p M rfl (own2_below HOwn4.out ((Below.refl _ w4).alloc (Nat.le_refl _) _)) (some ⟨w4.heap.size, 0, none⟩) 1 1 [(z, B, m, d)] rfl rfl (fun h => by cases h) (two_cells w4 _ z B m d) (by simp only [maxLen]; omega) (by omega) (by simp; omega) ?_)
  intro v5 w5 hown5 hb5' _
  have hb5 : Below x3.heap.size w4 w5 := ((Below.refl _ w4).alloc hs4 _).trans hb5'
  have hB5 := hB4.trans (hb5.mono hB0)
  have Hga5 : Kp _ := ⟨Hga4.out.below hb5 hlga⟩
  have HM5 : Kp (Leads w5 w0.heap.size (M ++ [(z, B, m, d)]) (its ++ [(z, b)])) := ⟨(HM4.out.below (hb5.mono hB0)).append (Leads.one HZ.out (HB.out.below hB5))⟩
  have hMl5 : (M ++ [(z, B, m, d)]).length = p + 1 := by simp [hMl]
  have HOwn5 := Lib.hid hown5
  have hs5 : x3.heap.size ≤ w5.heap.size := Nat.le_trans hs4 hb5.size
  obtain ⟨A5, c5, e5, hI5⟩ := Its.of_own hown5 HM5.out hB5.size
  have HI5 : Kp _ := ⟨hI5⟩
  have HMs5 : Kp (∀ x ∈ its ++ [(z, b)], x.2.length ≤ 523000) := ⟨fun x hx => by
    rcases List.mem_append.1 hx with hx | hx
    · exact HMs.out x hx
    · simp at hx; rw [hx]; exact HMb.out⟩
  clear hown5 hb5' hb5 Hga4 HM4 HOwn4 hB4 hI5
  obtain ⟨u5, hu5⟩ : ∃ u, u = v5 := ⟨_, rfl⟩
  have HV5 : Kp _ := ⟨hu5⟩
  rw [e5]
  have HE5 : Kp _ := ⟨e5⟩
  clear e5 hu5
  go_wp2_with fail
  refine (CA.out _ _ _ _ _ hB5 HI5.out (by omega) HMs5.out).mono ?_
  rintro e y1 ⟨rfl, hc⟩
  rw [HE1.out]
  go_wp2_with (with_reducible refine wpList_alloc (o := ⟨some 11, _, _, _, _, _⟩) tyDig rfl rfl ?_)
  intro y2 hk2 hb2 hs2
  have HG0 : Kp _ := ⟨hk2⟩
  have hbb := hc.trans (hb2.mono hc.size)
  have hsz := hc.size
  obtain ⟨go, hg0⟩ : ∃ g, g = y1.heap.size := ⟨_, rfl⟩
  have hgego : w5.heap.size ≤ go := by rw [hg0]; exact hsz
  rw [← hg0] at HG0 ⊢
  clear hk2 hb2 hs2 hc hg0 hsz
  go_wp2_with (refine wpList_storeAll (o := ⟨none, _, _, _, _, _⟩) (vs := cells8 O) rwDig rfl (.tmp 11) (.tmp 47) rfl rfl HG0.out HZz.out HLO.out (cells8_one _) rfl ?_)
  intro y3 hk3 ho3
  have Hgo : Kp _ := ⟨hk3⟩
  have hlgo : go < y3.heap.size := hk3.lt
  have hBy : Below w5.heap.size w5 y3 := hbb.trans (ho3.below hgego)
  clear hk3 ho3 HG0 hbb
  have Hga6 : Kp _ := ⟨Hga5.out.below hBy Hga5.out.lt⟩
  have hB6 := hB5.trans (hBy.mono hB5.size)
  have HOwn6 := Lib.hid (own2_below HOwn5.out hBy)
  have HM6 : Kp _ := ⟨HM5.out.below (hBy.mono hB5.size)⟩
  have hne : v5.ownBlock ≠ some go := own2_ne HOwn5.out hgego
  have hnea : x3.heap.size ≤ y3.heap.size := Nat.le_trans hs5 hBy.size
  rw [HE5.out] at HOwn6 hne
  clear HOwn5 HM5 Hga5 hBy HI5 hB5
  go_wp2_with (at_builtin; refine wpList_appI Try.underlying28 hi hi0 hi2 hi32 rfl rfl _ _ rfl x3.heap.size _ (p + 1) (M ++ [(z, B, m, d)]) rfl (own2_below HOwn6.out ((Below.refl _ y3).alloc (Nat.le_refl _) _)) (some ⟨y3.heap.size, 0, none⟩) 1 1 [(z, B, m, d)] rfl rfl (fun h => by cases h) (two_cells y3 _ z B m d) (by simp only [maxLen]; omega) (by omega) (by simp; omega) ?_)
  intro v7 w7 hown7 hb7' hg7
  have hown7 : w7.ownsRow x3.heap.size 35 2 v7 (p + 1 + 1) (hdCells (M ++ [(z, B, m, d)] ++ [(z, B, m, d)])) := by
    have h := hown7
    simp only [List.append_assoc, List.cons_append, List.nil_append] at h ⊢
    exact h
  have hb7 : Below x3.heap.size y3 w7 := ((Below.refl _ y3).alloc hnea _).trans hb7'
  have hB7 := hB6.trans (hb7.mono hB0)
  have Hga7 : Kp _ := ⟨Hga6.out.below hb7 hlga⟩
  have Hgo7 : Kp (Blk w7 go 23 (cells8 O)) := ⟨(Hgo.out.alloc _).grown' hg7 hne⟩
  have HM7 : Kp (Leads w7 w0.heap.size (M ++ [(z, B, m, d)] ++ [(z, B, m, d)]) (its ++ [(z, b)] ++ [(z, b)])) := ⟨(HM6.out.below (hb7.mono hB0)).append (Leads.one HZ.out (HB.out.below hB7))⟩
  obtain ⟨A7, c7, rfl, hI7⟩ := Its.of_own hown7 HM7.out hB7.size
  have HI7 : Kp _ := ⟨hI7⟩
  have HMs7 : Kp (∀ x ∈ its ++ [(z, b)] ++ [(z, b)], x.2.length ≤ 523000) := ⟨fun x hx => by
    rcases List.mem_append.1 hx with hx | hx
    · exact HMs5.out x hx
    · simp at hx; rw [hx]; exact HMb.out⟩
  clear hown7 hb7' hb7 hg7 Hga6 Hgo HM6 HM7 HOwn6 hB6 hI7 hne
  go_wp2_with fail
  refine (CA.out _ _ _ _ _ hB7 HI7.out (by omega) HMs7.out).mono ?_
  rintro e r1 ⟨rfl, hc⟩
  rw [HE2.out]
  go_wp2_with (with_reducible refine wpList_alloc (o := ⟨some 12, _, _, _, _, _⟩) tyDig rfl rfl ?_)
  intro r2 hk2 hb2 hs2
  have HG0 : Kp _ := ⟨hk2⟩
  have hbb := hc.trans (hb2.mono hc.size)
  have hsz := hc.size
  obtain ⟨gv, hg0⟩ : ∃ g, g = r1.heap.size := ⟨_, rfl⟩
  have hgegv : w7.heap.size ≤ gv := by rw [hg0]; exact hsz
  rw [← hg0] at HG0 ⊢
  clear hk2 hb2 hs2 hc hg0 hsz
  go_wp2_with (refine wpList_storeAll (o := ⟨none, _, _, _, _, _⟩) (vs := cells8 V) rwDig rfl (.tmp 12) (.tmp 56) rfl rfl HG0.out HZz.out HLV.out (cells8_one _) rfl ?_)
  intro r3 hk3 ho3
  have Hgv : Kp _ := ⟨hk3⟩
  have hlgv : gv < r3.heap.size := hk3.lt
  have hBr : Below w7.heap.size w7 r3 := hbb.trans (ho3.below hgegv)
  clear hk3 ho3 HG0 hbb
  have Hga8 : Kp _ := ⟨Hga7.out.below hBr Hga7.out.lt⟩
  have Hgo8 : Kp _ := ⟨Hgo7.out.below hBr Hgo7.out.lt⟩
  have hB8 := hB7.trans (hBr.mono hB7.size)
  clear Hga7 Hgo7 hBr HI7 hB7
  go_wp2_with fail
  refine (HO.out _ hB8).mono ?_
  rintro e s1 ⟨rfl, hc⟩
  go_wp2_with (with_reducible refine wpList_alloc (o := ⟨some 13, _, _, _, _, _⟩) tyDig rfl rfl ?_)
  intro s2 hk2 hb2 hs2
  have HG0 : Kp _ := ⟨hk2⟩
  have hbb := hc.trans (hb2.mono hc.size)
  have hsz := hc.size
  obtain ⟨gx, hg0⟩ : ∃ g, g = s1.heap.size := ⟨_, rfl⟩
  have hgegx : r3.heap.size ≤ gx := by rw [hg0]; exact hsz
  rw [← hg0] at HG0 ⊢
  clear hk2 hb2 hs2 hc hg0 hsz
  go_wp2_with (refine wpList_storeAll (o := ⟨none, _, _, _, _, _⟩) (vs := cells8 X) rwDig rfl (.tmp 13) (.tmp 60) rfl rfl HG0.out HZz.out HLX.out (cells8_one _) rfl ?_)
  intro s3 hk3 ho3
  have Hgx : Kp _ := ⟨hk3⟩
  have hlgx : gx < s3.heap.size := hk3.lt
  have hBs : Below r3.heap.size r3 s3 := hbb.trans (ho3.below hgegx)
  clear hk3 ho3 HG0 hbb
  have hT : Keep4 w0 ga go gv gx 23 (cells8 Y) (cells8 O) (cells8 V) (cells8 X) s3 := ⟨Hga8.out.below hBs Hga8.out.lt, Hgo8.out.below hBs Hgo8.out.lt, Hgv.out.below hBs Hgv.out.lt, Hgx.out, hB8.trans (hBs.mono hB8.size)⟩
  clear Hga8 Hgo8 Hgv Hgx hBs hB8
  go_wp2_with fail
  refine wp_region_held_drew (S := Keep4 w0 ga go gv gx 23 (cells8 Y) (cells8 O) (cells8 V) (cells8 X)) (by kernel_rfl) (hT.drew) (fun hHeld => ?_)
  generalize s3.drew = wS at *
  refine wpAnyH_take (i := 0) (oi := ⟨some 61, _, _, _, _, _⟩) (v := _) rfl (by kernel_rfl) (by kernel_rfl) (by kernel_rfl) (fun _ _ _ h => h) (yieldsIf_load_mid (by rfl) _ (.tmp 11) rfl _ _ rfl (cells8 O) _ (fun W hW => hW.b.range (take_all32 HLO.out)) huD rfl (hiD O HLO.out)) (by assumption) ?_
  try simp only [Act.put, List.setIfInBounds_toArray, List.set_cons_zero, List.set_cons_succ]
  refine wpAnyH_take (i := 1) (oi := ⟨some 62, _, _, _, _, _⟩) (v := _) rfl (by kernel_rfl) (by kernel_rfl) (by kernel_rfl) (fun _ _ _ h => h) (yieldsIf_load_mid (by rfl) _ (.tmp 9) rfl _ _ rfl (cells8 Y) _ (fun W hW => hW.a.range (take_all32 HLY.out)) huD rfl (hiD Y HLY.out)) (by assumption) ?_
  try simp only [Act.put, List.setIfInBounds_toArray, List.set_cons_zero, List.set_cons_succ]
  refine wpAnyH_take (i := 3) (oi := ⟨some 64, _, _, _, _, _⟩) (v := _) rfl (by kernel_rfl) (by kernel_rfl) (by kernel_rfl) (fun _ _ _ h => h) (yieldsIf_load_mid (by rfl) _ (.tmp 13) rfl _ _ rfl (cells8 X) _ (fun W hW => hW.d.range (take_all32 HLX.out)) huD rfl (hiD X HLX.out)) (by assumption) ?_
  try simp only [Act.put, List.setIfInBounds_toArray, List.set_cons_zero, List.set_cons_succ]
  refine wpAnyH_ready (rs := [2]) (by kernel_rfl) (by simp) ?_
  refine AllReadyH.cons (o := ⟨some 63, _, _, _, _, _⟩) rfl (fun K hK => ?_) AllReadyH.nil
  go_simp
  refine (S1.out _).mono ?_
  rintro e w51 ⟨rfl, hb'⟩
  refine hK.out _ _ (hHeld.next hb') (fun hHeld2 => ?_)
  clear hb'
  clear hK K hHeld
  have hHeld := hHeld2
  clear hHeld2
  try simp only [Act.put, List.setIfInBounds_toArray, List.set_cons_zero, List.set_cons_succ]
  refine wpAnyH_take (i := 4) (oi := ⟨some 65, _, _, _, _, _⟩) (v := _) rfl (by kernel_rfl) (by kernel_rfl) (by kernel_rfl) (fun _ _ _ h => h) (yieldsIf_eql (by rfl) eqDig Try.eqGuardType23 (.tmp 63) (.tmp 64) rfl X X rfl rfl HXl.out HXl.out (beq_self_eq_true _)) (by assumption) ?_
  try simp only [Act.put, List.setIfInBounds_toArray, List.set_cons_zero, List.set_cons_succ]
  refine wpAnyH_take (i := 5) (oi := ⟨some 66, _, _, _, _, _⟩) (v := ?_) rfl (by kernel_rfl) (by kernel_rfl) (by kernel_rfl) (fun _ _ _ h => h) (Or.inl ⟨by rfl, by intro w hSw; go_simp; try rfl⟩) (by assumption) ?_
  try simp only [Act.put, List.setIfInBounds_toArray, List.set_cons_zero, List.set_cons_succ]
  refine wpAnyH_take (i := 6) (oi := ⟨some 67, _, _, _, _, _⟩) (v := _) rfl (by kernel_rfl) (by kernel_rfl) (by kernel_rfl) (fun _ _ _ h => h) (yieldsIf_load_mid (by rfl) _ (.tmp 12) rfl _ _ rfl (cells8 V) _ (fun W hW => hW.c.range (take_all32 HLV.out)) huD rfl (hiD V HLV.out)) (by assumption) ?_
  try simp only [Act.put, List.setIfInBounds_toArray, List.set_cons_zero, List.set_cons_succ]
  refine wpAnyH_take (i := 7) (oi := ⟨some 68, _, _, _, _, _⟩) (v := _) rfl (by kernel_rfl) (by kernel_rfl) (by kernel_rfl) (fun _ _ _ h => h) (yieldsIf_load_mid (by rfl) _ (.tmp 11) rfl _ _ rfl (cells8 O) _ (fun W hW => hW.b.range (take_all32 HLO.out)) huD rfl (hiD O HLO.out)) (by assumption) ?_
  try simp only [Act.put, List.setIfInBounds_toArray, List.set_cons_zero, List.set_cons_succ]
  refine wpAnyH_take (i := 9) (oi := ⟨some 70, _, _, _, _, _⟩) (v := _) rfl (by kernel_rfl) (by kernel_rfl) (by kernel_rfl) (fun _ _ _ h => h) (yieldsIf_load_mid (by rfl) _ (.tmp 13) rfl _ _ rfl (cells8 X) _ (fun W hW => hW.d.range (take_all32 HLX.out)) huD rfl (hiD X HLX.out)) (by assumption) ?_
  try simp only [Act.put, List.setIfInBounds_toArray, List.set_cons_zero, List.set_cons_succ]
  refine wpAnyH_ready (rs := [8]) (by kernel_rfl) (by simp) ?_
  refine AllReadyH.cons (o := ⟨some 69, _, _, _, _, _⟩) rfl (fun K hK => ?_) AllReadyH.nil
  go_simp
  refine (S2.out _).mono ?_
  rintro e w52 ⟨rfl, hb'⟩
  refine hK.out _ _ (hHeld.next hb') (fun hHeld2 => ?_)
  clear hb'
  clear hK K hHeld
  have hHeld := hHeld2
  clear hHeld2
  try simp only [Act.put, List.setIfInBounds_toArray, List.set_cons_zero, List.set_cons_succ]
  refine wpAnyH_take (i := 10) (oi := ⟨some 71, _, _, _, _, _⟩) (v := _) rfl (by kernel_rfl) (by kernel_rfl) (by kernel_rfl) (fun _ _ _ h => h) (yieldsIf_eql (by rfl) eqDig Try.eqGuardType23 (.tmp 69) (.tmp 70) rfl X X rfl rfl HXl.out HXl.out (beq_self_eq_true _)) (by assumption) ?_
  try simp only [Act.put, List.setIfInBounds_toArray, List.set_cons_zero, List.set_cons_succ]
  refine wpAnyH_take (i := 11) (oi := ⟨some 72, _, _, _, _, _⟩) (v := ?_) rfl (by kernel_rfl) (by kernel_rfl) (by kernel_rfl) (fun _ _ _ h => h) (Or.inl ⟨by rfl, by intro w hSw; go_simp; try rfl⟩) (by assumption) ?_
  try simp only [Act.put, List.setIfInBounds_toArray, List.set_cons_zero, List.set_cons_succ]
  refine wpAnyH_take (i := 12) (oi := ⟨some 73, _, _, _, _, _⟩) (v := ?_) rfl (by kernel_rfl) (by kernel_rfl) (by kernel_rfl) (fun _ _ _ h => h) (Or.inl ⟨by rfl, by intro w hSw; go_simp; try rfl⟩) (by assumption) ?_
  try simp only [Act.put, List.setIfInBounds_toArray, List.set_cons_zero, List.set_cons_succ]
  refine wpAnyH_take (i := 13) (oi := ⟨some 74, _, _, _, _, _⟩) (v := _) rfl (by kernel_rfl) (by kernel_rfl) (by kernel_rfl) (fun _ _ _ h => h) (yieldsIf_load_mid (by rfl) _ (.tmp 12) rfl _ _ rfl (cells8 V) _ (fun W hW => hW.c.range (take_all32 HLV.out)) huD rfl (hiD V HLV.out)) (by assumption) ?_
  try simp only [Act.put, List.setIfInBounds_toArray, List.set_cons_zero, List.set_cons_succ]
  refine wpAnyH_take (i := 14) (oi := ⟨some 75, _, _, _, _, _⟩) (v := _) rfl (by kernel_rfl) (by kernel_rfl) (by kernel_rfl) (fun _ _ _ h => h) (yieldsIf_load_mid (by rfl) _ (.tmp 9) rfl _ _ rfl (cells8 Y) _ (fun W hW => hW.a.range (take_all32 HLY.out)) huD rfl (hiD Y HLY.out)) (by assumption) ?_
  try simp only [Act.put, List.setIfInBounds_toArray, List.set_cons_zero, List.set_cons_succ]
  refine wpAnyH_take (i := 16) (oi := ⟨some 77, _, _, _, _, _⟩) (v := _) rfl (by kernel_rfl) (by kernel_rfl) (by kernel_rfl) (fun _ _ _ h => h) (yieldsIf_load_mid (by rfl) _ (.tmp 13) rfl _ _ rfl (cells8 X) _ (fun W hW => hW.d.range (take_all32 HLX.out)) huD rfl (hiD X HLX.out)) (by assumption) ?_
  try simp only [Act.put, List.setIfInBounds_toArray, List.set_cons_zero, List.set_cons_succ]
  refine wpAnyH_take (i := 17) (oi := ⟨some 78, _, _, _, _, _⟩) (v := _) rfl (by kernel_rfl) (by kernel_rfl) (by kernel_rfl) (fun _ _ _ h => h) (yieldsIf_load_mid (by rfl) _ (.tmp 13) rfl _ _ rfl (cells8 X) _ (fun W hW => hW.d.range (take_all32 HLX.out)) huD rfl (hiD X HLX.out)) (by assumption) ?_
  try simp only [Act.put, List.setIfInBounds_toArray, List.set_cons_zero, List.set_cons_succ]
  refine wpAnyH_ready (rs := [15]) (by kernel_rfl) (by simp) ?_
  refine AllReadyH.cons (o := ⟨some 76, _, _, _, _, _⟩) rfl (fun K hK => ?_) AllReadyH.nil
  go_simp
  refine (S3.out _).mono ?_
  rintro e w53 ⟨rfl, hb'⟩
  refine hK.out _ _ (hHeld.next hb') (fun hHeld2 => ?_)
  clear hb'
  clear hK K hHeld
  have hHeld := hHeld2
  clear hHeld2
  try simp only [Act.put, List.setIfInBounds_toArray, List.set_cons_zero, List.set_cons_succ]
  refine wpAnyH_ready (rs := [18]) (by kernel_rfl) (by simp) ?_
  refine AllReadyH.cons (o := ⟨some 79, _, _, _, _, _⟩) rfl (fun K hK => ?_) AllReadyH.nil
  go_simp
  refine (S4.out _).mono ?_
  rintro e w54 ⟨rfl, hb'⟩
  refine hK.out _ _ (hHeld.next hb') (fun hHeld2 => ?_)
  clear hb'
  clear hK K hHeld
  have hHeld := hHeld2
  clear hHeld2
  try simp only [Act.put, List.setIfInBounds_toArray, List.set_cons_zero, List.set_cons_succ]
  refine wpAnyH_take (i := 19) (oi := ⟨some 80, _, _, _, _, _⟩) (v := _) rfl (by kernel_rfl) (by kernel_rfl) (by kernel_rfl) (fun _ _ _ h => h) (yieldsIf_eql (by rfl) eqDig Try.eqGuardType23 (.tmp 76) (.tmp 79) rfl D D rfl rfl HDl.out HDl.out (beq_self_eq_true _)) (by assumption) ?_
  try simp only [Act.put, List.setIfInBounds_toArray, List.set_cons_zero, List.set_cons_succ]
  refine wpAnyH_take (i := 20) (oi := ⟨some 81, _, _, _, _, _⟩) (v := ?_) rfl (by kernel_rfl) (by kernel_rfl) (by kernel_rfl) (fun _ _ _ h => h) (Or.inl ⟨by rfl, by intro w hSw; go_simp; try rfl⟩) (by assumption) ?_
  try simp only [Act.put, List.setIfInBounds_toArray, List.set_cons_zero, List.set_cons_succ]
  refine wpAnyH_take (i := 21) (oi := ⟨some 82, _, _, _, _, _⟩) (v := ?_) rfl (by kernel_rfl) (by kernel_rfl) (by kernel_rfl) (fun _ _ _ h => h) (Or.inl ⟨by rfl, by intro w hSw; go_simp; try rfl⟩) (by assumption) ?_
  try simp only [Act.put, List.setIfInBounds_toArray, List.set_cons_zero, List.set_cons_succ]
  refine wpAnyH_ready (rs := [22]) (by kernel_rfl) (by simp) ?_
  refine AllReadyH.cons (o := ⟨some 83, _, _, _, _, _⟩) rfl (fun K hK => ?_) AllReadyH.nil
  go_simp
  refine (known5_any _).mono ?_
  rintro e w55 ⟨rfl, hb'⟩
  refine hK.out _ _ (hHeld.next hb') (fun hHeld2 => ?_)
  clear hb'
  clear hK K hHeld
  have hHeld := hHeld2
  clear hHeld2
  try simp only [Act.put, List.setIfInBounds_toArray, List.set_cons_zero, List.set_cons_succ]
  refine wpAnyH_take (i := 23) (oi := ⟨some 84, _, _, _, _, _⟩) (v := ?_) rfl (by kernel_rfl) (by kernel_rfl) (by kernel_rfl) (fun _ _ _ h => h) (Or.inl ⟨by rfl, by intro w hSw; go_simp; try rfl⟩) (by assumption) ?_
  try simp only [Act.put, List.setIfInBounds_toArray, List.set_cons_zero, List.set_cons_succ]
  refine wpAnyH_take (i := 24) (oi := ⟨some 8, _, _, _, _, _⟩) (v := ?_) rfl (by kernel_rfl) (by kernel_rfl) (by kernel_rfl) (fun _ _ _ h => h) (Or.inl ⟨by rfl, by intro w hSw; go_simp; try rfl⟩) (by assumption) ?_
  try simp only [Act.put, List.setIfInBounds_toArray, List.set_cons_zero, List.set_cons_succ]
  refine wpAnyH_done (by kernel_rfl) ?_ _
  go_wp2
  go_ret
  exact ⟨by rfl, hHeld.below⟩
end Go.Proofs.Ytjllfaeamjadcaa
