/- The contract of package node's Spans; rows of spans. -/
import Derived.Test.YtmiobgongddaiaaNdS
import Derived.Test.YtmiobgongddaiaaItsRow
import Derived.Shelf.Abstract
namespace Go.Proofs.Ytmiobgongddaiaa
open Go.RowKit Go.Shelf

def spCells (l : List Sp) : List Value := l.flatMap spV
theorem spCells_length (l : List Sp) : (spCells l).length = l.length * 3 := by
  induction l with
  | nil => rfl
  | cons s r ih => rw [spCells, List.flatMap_cons, List.length_append, List.length_cons, show r.flatMap spV = spCells r from rfl, ih]; simp [spV]; omega
theorem spCells_snoc (l : List Sp) (s : Sp) : spCells (l ++ [s]) = spCells l ++ spV s := by simp [spCells]
theorem spV_one (s : Sp) : ∀ u ∈ spV s, u.oneCell' = true := by
  intro u hu
  simp only [spV, List.mem_cons, List.not_mem_nil, or_false] at hu
  rcases hu with rfl | rfl | rfl <;> rfl
theorem spCells_at (l : List Sp) (j i : Nat) (hj : j < l.length) (hi : i < 3) : (spCells l)[3 * j + i]? = (spV l[j])[i]? := by
  induction l generalizing j with
  | nil => cases hj
  | cons s r ih =>
    rw [spCells, List.flatMap_cons, show r.flatMap spV = spCells r from rfl]
    cases j with
    | zero => rw [List.getElem?_append_left (by simp [spV]; omega)]; simp
    | succ j =>
      rw [List.getElem?_append_right (by simp [spV]; omega), show 3 * (j + 1) + i - (spV s).length = 3 * j + i by simp [spV]; omega, ih j (by simpa using hj)]; rfl
/-- A slice of n of room c at A reads as the spans l; its cells lie below block B. -/
structure Sps (w : World) (B : Nat) (A : Option Addr) (n c : Nat) (l : List Sp) : Prop where
  len : l.length = n
  cap : n ≤ c
  max : c ≤ maxLen
  nil : A = none → c = 0
  cells : 0 < n → ∃ b o, A = some ⟨b, o, none⟩ ∧ b < B ∧ ∀ j (h : j < l.length), w.rangeAt b (o + j * 3) (spV l[j])
section
variable {w w' : World} {B B' : Nat} {A : Option Addr} {n c : Nat} {l : List Sp}
theorem Sps.le (h : Sps w B A n c l) : n ≤ 9223372036854775807 := by have := h.cap; have := h.max; simp only [maxLen] at this; omega
theorem Sps.keep (h : Sps w B A n c l) (hk : ∀ p : Addr, p.block < B → w'.cell? p = w.cell? p) : Sps w' B A n c l :=
  ⟨h.len, h.cap, h.max, h.nil, fun h0 => by
    obtain ⟨b, o, hA, hb, hc⟩ := h.cells h0
    exact ⟨b, o, hA, hb, fun j hj i v hv => (hk _ hb).trans (hc j hj i v hv)⟩⟩
theorem Sps.more (h : Sps w B A n c l) (hB : B ≤ B') : Sps w B' A n c l :=
  ⟨h.len, h.cap, h.max, h.nil, fun h0 => by
    obtain ⟨b, o, hA, hb, hc⟩ := h.cells h0
    exact ⟨b, o, hA, by omega, hc⟩⟩
theorem Sps.below (h : Sps w B A n c l) (hb : Below B w w') : Sps w' B A n c l := h.keep fun _ hp => hb.cell hp
theorem Sps.next {w0 w1 : World} (h : Sps w0 B A n c l) (hb : Below w0.heap.size w0 w1) (hB : B ≤ w0.heap.size) : Sps w1 w1.heap.size A n c l :=
  (h.below (hb.mono hB)).more (Nat.le_trans hB hb.size)
theorem Sps.nought (w : World) (B : Nat) : Sps w B none 0 0 [] := ⟨rfl, Nat.le_refl _, Nat.zero_le _, fun _ => rfl, fun h => absurd h (by omega)⟩
theorem Sps.at (h : Sps w B A n c l) {i : Nat} (hi : i < n) : ∃ b o, A = some ⟨b, o, none⟩ ∧ b < B ∧ w.rangeAt b (o + i * 3) (spV (l[i]'(by have := h.len; omega))) := by
  obtain ⟨b, o, hA, hb, hc⟩ := h.cells (by omega)
  exact ⟨b, o, hA, hb, hc i (by have := h.len; omega)⟩
theorem Sps.of_own {base : Nat} {e : TypeId} {v : Value} (h : w.ownsRow base e 3 v n (spCells l)) : ∃ A c, v = .slice A n c ∧ Sps w w.heap.size A n c l := by
  have hl : l.length = n := by have := h.1; rw [spCells_length] at this; omega
  rcases h.2 with ⟨rfl, rfl⟩ | ⟨g, cap, cur, rfl, hg, hh, hn, hm, hs, ht⟩
  · obtain rfl : l = [] := List.eq_nil_of_length_eq_zero hl
    exact ⟨none, 0, rfl, Sps.nought w _⟩
  · refine ⟨some ⟨g, 0, none⟩, cap, rfl, hl, hn, hm, (fun h => by cases h), fun h0 => ⟨g, 0, rfl, (Array.getElem?_eq_some_iff.1 hh).1, fun j hj i v hv => ?_⟩⟩
    have hi : i < 3 := by
      have := (List.getElem?_eq_some_iff.1 hv).1
      simpa [spV] using this
    have h3 : (spCells l)[j * 3 + i]? = some v := by rw [Nat.mul_comm, spCells_at l j i hj hi]; exact hv
    have := h.cells (g := g) rfl (j * 3 + i) v h3
    rw [Addr.add_lit] at this
    rw [Nat.zero_add] at this ⊢
    exact this
end
theorem infSp : ((Try.prog).info? 55).map (fun i => (i.zero, i.size, i.bytes)) = some (some (.agg zeroSp.toArray), 3, 24) := by kernel_rfl
theorem run_buildSp (w : World) (s : Sp) : (Instr.buildSlice 48 1 #[(0, .agg (spV s).toArray)]).run Try.prog w = .ok (.slice (some ⟨w.heap.size, 0, none⟩) 1 1) (w.alloc (.cells (spV s).toArray 55)) := by
  simp only [spV]
  go_simp
section
variable {w : World} {ops : Array Oper} {o : Oper} {a : Act} {Q : Exit → Act → World → Prop}
theorem step_buildSp {K : Act → World → Prop} {C : Prop} (hgd : o.guard = none) (x : Operand) (hop : o.op = .buildSlice 48 1 #[(0, x)]) (s : Sp) (hx : a.eval x = .agg (spV s).toArray)
    (h : K (a.put o.dst (.slice (some ⟨w.heap.size, 0, none⟩) 1 1)) (w.alloc (.cells (spV s).toArray 55))) : if Region.wanted o (yielded ops a.tmps) = true then Oper.wp Try.prog o a w K Q else C := by
  have hw : Region.wanted o (yielded ops a.tmps) = true := by simp [Region.wanted, hgd]
  rw [if_pos hw]
  unfold Oper.wp execOp
  simp only [hop, Sem.run_bind, List.map_toArray, List.map_cons, List.map_nil, hx, run_buildSp w s, Result.andThen_ok, Sem.run_pure]
  exact h
end
/-- what lies between two rounds -/
structure SpI (Lb s0 : Nat) (w : World) (pre : List Sp) (X : World) : Prop where
  low : Below w.heap.size w X
  size : s0 ≤ X.heap.size
  row : ∃ v, Blk X Lb 48 [v] ∧ X.ownsRow s0 55 3 v pre.length (spCells pre)
theorem SpI.own {Lb s0 B : Nat} {w : World} (hB : w.heap.size ≤ B) : OwnFrom B (SpI Lb s0 w) := fun _ _ _ _ h hg hr =>
  ⟨below_nc h.low hg (fun r e => (hr r e).1) hB (Nat.le_refl _), Nat.le_trans h.size hg.size, by
    obtain ⟨v, h1, h2⟩ := h.row
    exact ⟨v, blk_nc h1 hg (fun r e => (hr r e).2), own_nc h2 hg (fun r e => (hr r e).2)⟩⟩
theorem keepsFrom_set {B g : Nat} {t : TypeId} {cs : List Value} {X : World} (h : Blk X g t cs) (i : Nat) (v : Value) : KeepsFrom B X (X.setCell ⟨g, i, none⟩ v) := by
  have ho := Only.setCell X ⟨g, i, none⟩ v
  refine ⟨by rw [ho.size]; exact Nat.le_refl _, fun k o _ hk hc => (ho.block k (fun e => ?_)).trans hk⟩
  have e' : k = g := e
  subst e'
  rw [h.heap] at hk
  cases hk
  cases hc
theorem keepsFrom_row {B base n size : Nat} {e : TypeId} {v : Value} {xs : List Value} {X Y : World} (h : X.ownsRow base e size v n xs) (hg : X.grownBy Y v.ownBlock) : KeepsFrom B X Y := by
  refine ⟨hg.size, fun k o _ hk hc => (hg.block k (Array.getElem?_eq_some_iff.1 hk).1 (fun e => ?_)).trans hk⟩
  rcases h.2 with ⟨rfl, h0⟩ | ⟨g, cap, cur, rfl, hb, hh, hrest⟩
  · cases e
  · have e2 : some k = some g := e.symm ▸ rfl
    have e3 := Option.some.inj e2
    subst e3
    rw [hh] at hk
    cases hk
    cases hc
theorem zip_one (T : Array Value) (p : Tmp) (v : Value) : (Array.zip #[p] #[v]).foldl (fun t (x : Tmp × Value) => t.setIfInBounds x.1 x.2) T = T.setIfInBounds p v := by simp
section
set_option maxRecDepth 100000
set_option maxHeartbeats 4000000
theorem spans_no (a n : Int) (w : World) (_h1 : -9223372036854775808 ≤ a) (_h2 : a ≤ 9223372036854775807) (_h3 : -9223372036854775808 ≤ n) (_h4 : n ≤ 9223372036854775807) (hno : a < 0 ∨ (0 ≤ a ∧ n < 1) ∨ (0 ≤ a ∧ 1 ≤ n ∧ a < n ∧ 17920 < n) ∨ (0 ≤ a ∧ 1 ≤ n ∧ n ≤ a ∧ 17920 < a)) :
    Calls Try.prog 25 #[.int .i64 a, .int .i64 n] w fun e w' => e = .returned (.slice none 0 0) ∧ Below w.heap.size w w' := by
  rcases hno with h | ⟨h, h'⟩ | ⟨h, h', h'', h5⟩ | ⟨h, h', h'', h5⟩
  all_goals
    go_enter Try.func25, Try.ntmps25
    go_wp2
    go_ret
    exact ⟨rfl, Below.refl _ _⟩
theorem spans_yes (a n : Nat) (w : World) (h1 : a ≤ 17920) (h2 : n ≤ 17920) (h3 : 1 ≤ n) (hc : n ≤ a ∨ a < n) :
    Calls Try.prog 25 #[.int .i64 (a : Int), .int .i64 (n : Int)] w fun e w' => ∃ A m c, e = .returned (.slice A m c) ∧ Sps w' w'.heap.size A m c (spsN a (a + n)) ∧ Below w.heap.size w w' := by
  obtain ⟨Lb, hLb⟩ : ∃ x, x = w.heap.size := ⟨_, rfl⟩
  have hb1 : Below w.heap.size w (w.alloc (.cells #[.slice none 0 0] 48)) := (Below.refl _ _).alloc (Nat.le_refl _) _
  have hk1 : Blk (w.alloc (.cells #[.slice none 0 0] 48)) w.heap.size 48 [.slice none 0 0] := Blk.new w _ _
  rw [← hLb] at hk1
  obtain ⟨E, hE⟩ : ∃ E, E = a + n := ⟨_, rfl⟩
  have hs : IntKind.i64.wrap ((a : Int) + (n : Int)) = (E : Int) := by rw [IntKind.wrap_i64]; omega
  have hs' : (a : Int) + (n : Int) = (E : Int) := by omega
  have HE : Kp (E = a + n ∧ E ≤ 35840) := ⟨hE, by omega⟩
  rw [← hE]
  clear hE
  rcases hc with hc | hc
  all_goals
    refine (callsIn_wide (n := 8)).1 (callsIn_of_wp_marks (F := Fence.wide) (n := 8) Try.func25 rfl trivial ?_ rfl)
    simp only [Try.ntmps25, List.size_toArray, List.length_cons, List.length_nil, Nat.reduceAdd, Nat.reduceSub, Array.replicate_succ, Array.replicate_zero, List.push_toArray, List.append_toArray, List.nil_append, List.cons_append]
    refine wpIn_wide.2 ?_
    go_upto_region 4 with fail
    rw [← hLb]
    generalize w.alloc (.cells #[.slice none 0 0] 48) = w1 at *
    have HB1 : Kp _ := ⟨hb1⟩
    have HK1 : Kp _ := ⟨hk1⟩
    have HLb : Kp (w.heap.size ≤ Lb) := ⟨by omega⟩
    clear hb1 hk1 hLb
    go_wp2_with fail
    refine (mspans_any (a : Int) (E : Int) w1).mono ?_
    rintro r w3 ⟨B, hBs, rfl, hka, hke, hb3⟩
    have HLn : Kp (Lb ∉ [B, B + 1]) := ⟨by
      have := HK1.out.lt
      simp only [List.mem_cons, List.not_mem_nil, or_false]
      omega⟩
    have HBz : Kp (w1.heap.size ≤ B) := ⟨by omega⟩
    have HS3 : Kp (B + 1 < w3.heap.size) := ⟨hke.lt⟩
    have HB3 : Kp (Below w.heap.size w w3) := ⟨HB1.out.trans (hb3.mono HB1.out.size)⟩
    have HKa : Kp _ := ⟨hka⟩
    have HKe : Kp _ := ⟨hke⟩
    have hWw : w.heap.size ≤ w3.heap.size := HB3.out.size
    have HLl : Kp (Lb < w3.heap.size) := ⟨Nat.lt_of_lt_of_le HK1.out.lt hb3.size⟩
    have HI0 : Kp (SpI Lb w3.heap.size w [] w3) := ⟨⟨HB3.out, Nat.le_refl _, _, HK1.out.below hb3 HK1.out.lt, ownS_nil _ _ _ _⟩⟩
    clear hka hke hb3 hBs HB1 HK1 hs hs'
    go_wp2_with fail
    refine (wpIn_wide (n := 8)).1 ?_
    refine wp_rangeR (α := Sp) (gf := 48) (lb := #[.pointer (some ⟨B, 0, none⟩), .pointer (some ⟨B + 1, 0, none⟩)]) rfl (enters_of Try.func48 (by kernel_rfl) rfl) (R := KpB w.heap.size [B, B + 1]) (n₀ := w.heap.size) (fun _ _ _ => KpB.trans) (fun l W o o' h ho hn => KpB.put o' h ho hn)
      (spans_stops w.heap.size a E B (B + 1) w3 hWw HKa.out HKe.out (by omega) HE.out.2) (Below.refl _ _) hWw (fun _ => rfl)
      (SpI Lb w3.heap.size w) (fun _ _ _ => False) (SpI.own hWw) (fun _ _ _ _ _ h _ _ => h) HI0.out
      (fun s a' X => ∃ (Bx : Nat) (t0 t1 t2 t3 t4 t7 t8 t9 t10 t11 t12 t13 t14 t15 t16 t17 t18 t19 t20 t21 t22 t23 t24 t25 t26 t27 t28 t29 : Value), Blk X Bx 55 (spV s) ∧ a' = { tmps := #[t0, t1, t2, t3, t4, .pointer (some ⟨Lb, 0, none⟩), .pointer (some ⟨Bx, 0, none⟩), t7, t8, t9, t10, t11, t12, t13, t14, t15, t16, t17, t18, t19, t20, t21, t22, t23, t24, t25, t26, t27, t28, t29], defers := [] })
      ?hAx ?assign ?body ?done ?stop
    case hAx =>
      rintro x a' _ X Y row ⟨Bx, t0, t1, t2, t3, t4, t7, t8, t9, t10, t11, t12, t13, t14, t15, t16, t17, t18, t19, t20, t21, t22, t23, t24, t25, t26, t27, t28, t29, hk, rfl⟩ hg hrow
      exact ⟨Bx, t0, t1, t2, t3, t4, t7, t8, t9, t10, t11, t12, t13, t14, t15, t16, t17, t18, t19, t20, t21, t22, t23, t24, t25, t26, t27, t28, t29, blk_nc hk hg (fun r e => (hrow r e).2), rfl⟩
    case assign =>
      intro lr pre s X K hi hKK
      simp only [zip_one, List.setIfInBounds_toArray, List.set_cons_succ, List.set_cons_zero]
      refine wpIn_region_lit ?_
      refine list_inRound lr (by intro c h; cases h) rfl fun K1 hK1 => ?_
      refine step_alloc tySp rfl rfl ?_
      intro x1 hk1 hb1
      refine hK1 _ _ ?_
      clear hK1 K1
      refine list_inRound lr (by intro c h; cases h) rfl fun K1 hK1 => ?_
      refine step_store rwSp rfl (.tmp 6) (.tmp 24) rfl (vs := spV s) rfl rfl hk1 rfl (fit_all (l := zeroSp) rfl) (spV_one s) ?_
      intro x2 hk2 ho2
      refine hK1 _ _ ?_
      clear hK1 K1
      refine wpListIn_nil ?_
      have hb2 : Below X.heap.size X x2 := hb1.trans (ho2.below (Nat.le_refl _))
      rw [store_all (n := 3) rfl] at hk2
      obtain ⟨v, hr1, hr2⟩ := hi.row
      exact hKK _ _ (keepsFrom_below hb2) (KpB.of_below hb2 hi.low.size)
        ⟨hi.low.trans (hb2.mono hi.low.size), Nat.le_trans hi.size hb2.size, v, hr1.below hb2 hr1.lt, ownS_below hr2 hb2⟩
        ⟨X.heap.size, _, _, _, _, _, _, _, _, _, _, _, _, _, _, _, _, _, _, _, _, _, _, _, _, _, _, _, _, hk2, rfl⟩
    case body =>
      rintro lr pre s a' X hlr hi ⟨Bx, t0, t1, t2, t3, t4, t7, t8, t9, t10, t11, t12, t13, t14, t15, t16, t17, t18, t19, t20, t21, t22, t23, t24, t25, t26, t27, t28, t29, hx, rfl⟩ hlen
      obtain ⟨v, hr1, hr2⟩ := hi.row
      have HLow : Kp _ := ⟨hi.low⟩
      have HLv : Kp _ := ⟨hr1⟩
      have HOw : Kp _ := ⟨hr2⟩
      have HX : Kp _ := ⟨hx⟩
      have HPl : Kp (pre.length < 200) := ⟨hlen⟩
      have HBX : Kp (Bx < X.heap.size) := ⟨hx.lt⟩
      have HXs : Kp (w3.heap.size ≤ X.heap.size) := ⟨hi.size⟩
      clear hi hr1 hr2 hx hlen
      refine wpIn_block ?_
      refine wpIn_region_lit ?_
      refine list_inRound lr (by intro c h; cases h) rfl fun K1 hK1 => ?_
      have c0 := HLv.out.cell? 0
      simp only [List.getElem?_cons_zero] at c0
      go_simp
      refine hK1 _ _ ?_
      clear hK1 K1 c0
      try simp only [Act.put, List.setIfInBounds_toArray, List.set_cons_zero, List.set_cons_succ]
      refine list_inRound lr (by intro c h; cases h) rfl fun K1 hK1 => ?_
      refine step_load rwSp rfl (.tmp 6) rfl rfl HX.out (fit_all rfl) (take_all rfl) ?_
      refine hK1 _ _ ?_
      clear hK1 K1
      try simp only [Act.put, List.setIfInBounds_toArray, List.set_cons_zero, List.set_cons_succ]
      refine list_inRound lr (by intro c h; cases h) rfl fun K1 hK1 => ?_
      refine step_buildSp rfl (.tmp 26) rfl s rfl ?_
      refine hK1 _ _ ?_
      clear hK1 K1
      try simp only [Act.put, List.setIfInBounds_toArray, List.set_cons_zero, List.set_cons_succ]
      have hb4 : Below X.heap.size X (X.alloc (.cells (spV s).toArray 55)) := (Below.refl _ _).alloc (Nat.le_refl _) _
      have HS4 : Kp (Blk (X.alloc (.cells (spV s).toArray 55)) X.heap.size 55 (spV s)) := ⟨Blk.new X _ _⟩
      have HLv4 : Kp _ := ⟨HLv.out.below hb4 HLv.out.lt⟩
      have HOw4 : Kp _ := ⟨ownS_below HOw.out hb4⟩
      have HB4 : Kp _ := ⟨hb4⟩
      clear hb4 HLv HOw HX
      generalize X.alloc (.cells (spV s).toArray 55) = x4 at *
      obtain ⟨G4, hG4⟩ : ∃ g, g = X.heap.size := ⟨_, rfl⟩
      rw [← hG4] at HS4 ⊢
      have h3s : w3.heap.size ≤ x4.heap.size := Nat.le_trans HXs.out HB4.out.size
      refine list_inRound lr (by intro c h; cases h) rfl fun K1 hK1 => ?_
      refine step_appG (Try.underlying48) infSp rfl (by decide) rfl (.tmp 25) (.tmp 27) rfl w3.heap.size v pre.length (spCells pre) rfl HOw4.out G4 _ (spV s) rfl HS4.out rfl (spV_one s) (by have := HPl.out; simp only [maxLen]; omega) (by have := HPl.out; omega) h3s ?_
      intro v5 x5 hown5 hg5 _
      refine hK1 _ _ ?_
      clear hK1 K1
      try simp only [Act.put, List.setIfInBounds_toArray, List.set_cons_zero, List.set_cons_succ]
      have HLv5 : Kp (Blk x5 Lb 48 [v]) := ⟨HLv4.out.grown' hg5 (fun e => by have := ownS_low HOw4.out Lb e; have := HLl.out; omega)⟩
      have HO5 : Kp (x5.ownsRow w3.heap.size 55 3 v5 (pre ++ [s]).length (spCells (pre ++ [s]))) := ⟨by rw [List.length_append, List.length_singleton, spCells_snoc]; exact hown5⟩
      have HKp5 : Kp (KpB w.heap.size [B, B + 1] X x5) := ⟨(KpB.of_below HB4.out (Nat.le_trans hWw HXs.out)).trans (KpB.row hg5 (fun r e => by
        have h1 := ownS_low HOw4.out r e
        have h2 := HS3.out
        refine ⟨Nat.le_trans hWw h1, ?_⟩
        simp only [List.mem_cons, List.not_mem_nil, or_false]
        omega) (Nat.le_trans hWw h3s))⟩
      have HKf5 : Kp (KeepsFrom w3.heap.size X x5) := ⟨keepsFrom_trans (keepsFrom_below HB4.out) (keepsFrom_row HOw4.out hg5)⟩
      obtain ⟨A5, c5, rfl⟩ := own_sl hown5
      have HEnd : Kp (KeepsFrom w3.heap.size X (x5.setCell ⟨Lb, 0, none⟩ (.slice A5 (pre.length + 1) c5)) ∧ KpB w.heap.size [B, B + 1] X (x5.setCell ⟨Lb, 0, none⟩ (.slice A5 (pre.length + 1) c5)) ∧ SpI Lb w3.heap.size w (pre ++ [s]) (x5.setCell ⟨Lb, 0, none⟩ (.slice A5 (pre.length + 1) c5))) := ⟨by
        have ho := Only.setCell x5 ⟨Lb, 0, none⟩ (.slice A5 (pre.length + 1) c5)
        have hl : Below w.heap.size w x5 := HLow.out.trans HKp5.out.below
        refine ⟨keepsFrom_trans HKf5.out (keepsFrom_set HLv5.out 0 _), HKp5.out.trans (KpB.set HLn.out HLb.out 0 _), hl.trans (ho.below HLb.out), ?_, .slice A5 (pre.length + 1) c5, HLv5.out.set 0 _, ownS_only HO5.out ho (fun e => ?_)⟩
        · rw [ho.size]; exact Nat.le_trans HXs.out HKp5.out.below.size
        · have := ownS_low HO5.out Lb e
          have := HLl.out
          omega⟩
      clear hown5 hg5 HS4 HLv4 HOw4 HB4 hG4
      refine list_inRound lr (by intro c h; cases h) rfl fun K1 hK1 => ?_
      have c0 := HLv5.out.cell? 0
      have f0 := HLv5.out.frozen 0
      simp only [List.getElem?_cons_zero] at c0
      go_simp
      refine hK1 _ _ ?_
      clear hK1 K1 c0 f0
      refine wpListIn_nil ?_
      exact HEnd.out
    case done =>
      rintro D ys X hD hys hi hKd
      obtain ⟨v, hr1, hr2⟩ := hi.row
      rw [hys] at hr2
      obtain ⟨A5, c5, rfl⟩ := own_sl hr2
      have c0 : X.cell? ⟨Lb, 0, none⟩ = some (.slice A5 (spsN a E).length c5) := hr1.cell? 0
      obtain ⟨m5, hm5⟩ : ∃ m, m = (spsN a E).length := ⟨_, rfl⟩
      rw [← hm5] at hr2 c0
      have HI : Kp _ := ⟨hi⟩
      have HOw : Kp _ := ⟨hr2⟩
      have HKd : Kp _ := ⟨hKd⟩
      clear hi hKd hys hr1 hr2 hm5
      go_wp2
      refine ⟨by simp, .inl ⟨_, _, rfl, run_takeDeferred HKd.out, ?_⟩⟩
      have hg := grownBy_putObj' X D (.deferred none)
      have hrow : ∀ r, some D = some r → ∃ o : Obj, X.heap[r]? = some o ∧ o.isCells = false := fun r e => by cases e; exact ⟨_, HKd.out, rfl⟩
      obtain ⟨A6, c6, e6, hsp⟩ := Sps.of_own (own_nc HOw.out hg hrow)
      cases e6
      exact ⟨_, results_tmp rfl _ _ _, A5, m5, c5, rfl, hsp, below_nc HI.out.low hg (fun r e => by cases e; exact Nat.le_trans hWw hD) (Nat.le_refl _) (Nat.le_refl _)⟩
    case stop =>
      rintro D cc pre X hD hp h _
      exact h.elim
theorem spans_any (a n : Int) (w : World) (h1 : -9223372036854775808 ≤ a) (h2 : a ≤ 9223372036854775807) (h3 : -9223372036854775808 ≤ n) (h4 : n ≤ 9223372036854775807) :
    Calls Try.prog 25 #[.int .i64 a, .int .i64 n] w fun e w' => ∃ A m c, e = .returned (.slice A m c) ∧ Sps w' w'.heap.size A m c (spA a n) ∧ Below w.heap.size w w' := by
  by_cases hb : 0 ≤ a ∧ 1 ≤ n ∧ a ≤ 17920 ∧ n ≤ 17920
  · obtain ⟨x, rfl⟩ := Int.eq_ofNat_of_zero_le hb.1
    obtain ⟨y, rfl⟩ := Int.eq_ofNat_of_zero_le (show 0 ≤ n by omega)
    have e : spA (x : Int) (y : Int) = spsN x (x + y) := by
      unfold spA spB
      rw [decide_eq_true hb.1, decide_eq_true hb.2.1, decide_eq_true hb.2.2.1, decide_eq_true hb.2.2.2]; rfl
    rw [e]
    exact spans_yes x y w (by omega) (by omega) (by omega) (by omega)
  · have e : spA a n = [] := by
      unfold spA
      rw [if_neg]
      unfold spB
      intro h
      simp only [Bool.and_eq_true, decide_eq_true_eq] at h
      omega
    rw [e]
    refine (spans_no a n w h1 h2 h3 h4 (by omega)).mono ?_
    rintro r w' ⟨rfl, hb'⟩
    exact ⟨none, 0, 0, rfl, Sps.nought _ _, hb'⟩
end
end Go.Proofs.Ytmiobgongddaiaa
