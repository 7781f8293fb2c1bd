/- Some that are free: package bits' Some. -/
import Derived.Test.YtgkeckfiacdpkaaDoorBtS
namespace Go.Proofs.YtgkeckfiacdpkaaDoor
open Go.RowKit Go.Shelf

theorem wp_noPanic {P : Program} {c : Code} {K : Act → World → Prop} {Q' : Exit → Act → World → Prop} {a : Act} {w : World} (h : c.wp P (Exit.then K (fun _ _ _ => False)) a w) : c.wp P (Exit.then K Q') a w :=
  wp_mono h (by
    intro e a' w' hq
    cases e <;> first | exact hq | exact hq.elim)
theorem results_tt {P : Program} {w : World} {tmps : Array Value} {fn : Func} {p q : Tmp} {v1 v2 : Value} (hr : fn.results = #[.tmp p, .tmp q]) (hp : tmps.getD p undef = v1) (hq : tmps.getD q undef = v2) : (results fn tmps).run P w = .ok (.tuple #[v1, v2]) w := by
  have hp' : tmps[p]?.getD undef = v1 := by simpa using hp
  have hq' : tmps[q]?.getD undef = v2 := by simpa using hq
  simp only [results, hr]
  simp [hp', hq']
/-- numbers as ints -/
def intsL (l : List Nat) : List Int := l.map fun (i : Nat) => (i : Int)
theorem intsL_snoc (l : List Nat) (k : Nat) : cellsZ (intsL (l ++ [k])) = cellsZ (intsL l) ++ [.int .i64 (k : Int)] := by simp [cellsZ, intsL]
theorem intsL_length (l : List Nat) : (intsL l).length = l.length := by simp [intsL]
/-- between two rounds -/
structure SmI (w : World) (S Nb Lb n : Nat) (pre : List Nat) (X : World) : Prop where
  low : Below w.heap.size w X
  size : S ≤ X.heap.size
  less : pre.length < n
  n : Blk X Nb 3 [.int .i64 (n : Int)]
  l : ∃ v, Blk X Lb 24 [v] ∧ X.ownsRow S 3 1 v pre.length (cellsZ (intsL pre))
structure SmX (w : World) (S Nb Lb n : Nat) (c : Code) (pre : List Nat) (X : World) : Prop where
  c : c = .exit 0
  low : Below w.heap.size w X
  full : pre.length = n
  l : ∃ v, Blk X Lb 24 [v] ∧ X.ownsRow S 3 1 v pre.length (cellsZ (intsL pre))
theorem own_nc {X Y : World} {base : Nat} {e : TypeId} {size n : Nat} {v : Value} {xs : List Value} {row : Option Nat} (h : X.ownsRow base e size v n xs) (hg : X.grownBy Y row) (hr : ∀ r, row = some r → ∃ o : Obj, X.heap[r]? = some o ∧ o.isCells = false) : Y.ownsRow base e size v n xs := by
  refine ⟨h.1, ?_⟩
  rcases h.2 with ⟨rfl, rfl⟩ | ⟨g', cap, cur, rfl, hg', hh, hx⟩
  · exact .inl ⟨rfl, rfl⟩
  · refine .inr ⟨g', cap, cur, rfl, hg', (hg.block g' (Array.getElem?_eq_some_iff.1 hh).1 (fun e => ?_)).trans hh, hx⟩
    obtain ⟨o', h2, h3⟩ := hr g' e.symm
    rw [hh] at h2
    cases Option.some.inj h2
    cases h3
theorem own_only {X Y : World} {b k : Nat} {e t : TypeId} {s n : Nat} {v : Value} {xs cs : List Value} (h : X.ownsRow b e s v n xs) (hk : Blk X k t cs) (hne : e ≠ t) (ho : Only k X Y) : Y.ownsRow b e s v n xs := by
  refine ⟨h.1, ?_⟩
  rcases h.2 with ⟨rfl, rfl⟩ | ⟨g', cap, cur, rfl, hg', hh, hx⟩
  · exact .inl ⟨rfl, rfl⟩
  · refine .inr ⟨g', cap, cur, rfl, hg', (ho.block g' (fun e1 => ?_)).trans hh, hx⟩
    subst e1
    rw [hk.heap] at hh
    have := Option.some.inj hh
    injection this with _ h9 _
    exact hne h9.symm
theorem own_sl {X : World} {b e s n : Nat} {v : Value} {xs : List Value} (h : X.ownsRow b e s v n xs) : ∃ A c, v = .slice A n c := by
  rcases h.2 with ⟨rfl, rfl⟩ | ⟨g1, cap, cur, rfl, _⟩
  · exact ⟨_, _, rfl⟩
  · exact ⟨_, _, rfl⟩
/-- a variable of another type than the row's stays -/
theorem own_blk {u w' : World} {S n k : Nat} {e t : TypeId} {v : Value} {xs cs : List Value} (hown : u.ownsRow S e 1 v n xs) (hk : ∀ g, v.ownBlock ≠ some g → g < u.heap.size → w'.heap[g]? = u.heap[g]?) (h : Blk u k t cs) (hne : e ≠ t ∨ k < S) : Blk w' k t cs := by
  refine ⟨(hk k (fun e1 => ?_) h.lt).trans h.heap⟩
  rcases hown.2 with ⟨rfl, _⟩ | ⟨g, cap, cur, rfl, hg, hh, _⟩
  · cases e1
  · have : g = k := Option.some.inj e1
    subst this
    rcases hne with hne | hlt
    · rw [h.heap] at hh
      have := Option.some.inj hh
      injection this with _ h9 _
      exact hne h9.symm
    · omega
theorem SmI.own {w : World} {S Nb Lb n B : Nat} (hB : w.heap.size ≤ B) : OwnFrom B (SmI w S Nb Lb n) := fun _ _ _ _ h hg hr => by
  obtain ⟨v, h1, h2⟩ := h.l
  exact ⟨below_nc h.low hg (fun r e => (hr r e).1) hB (Nat.le_refl _), Nat.le_trans h.size hg.size, h.less, blk_nc h.n hg (fun r e => (hr r e).2), v, blk_nc h1 hg (fun r e => (hr r e).2), own_nc h2 hg (fun r e => (hr r e).2)⟩
theorem SmX.own {w : World} {S Nb Lb n B : Nat} (hB : w.heap.size ≤ B) (c : Code) : OwnFrom B (SmX w S Nb Lb n c) := fun _ _ _ _ h hg hr => by
  obtain ⟨v, h1, h2⟩ := h.l
  exact ⟨h.c, below_nc h.low hg (fun r e => (hr r e).1) hB (Nat.le_refl _), h.full, v, blk_nc h1 hg (fun r e => (hr r e).2), own_nc h2 hg (fun r e => (hr r e).2)⟩
section
set_option maxRecDepth 100000
set_option maxHeartbeats 2000000
attribute [local go_sem] Oper.semAt_some
theorem some_no (A : Option Addr) (n c : Nat) (b : List UInt8) (q : Nat) (f t : Int) (w : World) (hb : Bs w w.heap.size A n c b) (hn : n ≤ 4294967296) (hf : f ≤ 9223372036854775807) (ht : t ≤ 9223372036854775807) (hq : 0 < q) (hq2 : (freeL b f.toNat (hiN n t)).length < q) (hq63 : q ≤ 9223372036854775807) :
    Calls Tryd.prog 10 #[.slice A n c, .int .i64 (q : Int), .int .i64 f, .int .i64 t] w fun e w' => e = .returned (.tuple #[.slice none 0 0, .int .i64 12]) ∧ Below w.heap.size w w' := by
  have HB : Kp _ := ⟨hb⟩
  have HLt : Kp (∀ i ∈ freeL b f.toNat (hiN n t), i < 8 * n) := ⟨fun i hi => by have := (pick_mem.1 hi).1; unfold hiN at this; omega⟩
  have HL8 : Kp ((freeL b f.toNat (hiN n t)).length ≤ 8 * n) := ⟨Nat.le_trans (pick_length_le _ _ _) (by unfold hiN; omega)⟩
  have HCt : Kp _ := ⟨fun w hb => ctfree_any A n c b f t w hb hn hf ht⟩
  obtain ⟨L, hL⟩ : ∃ L, L = freeL b f.toNat (hiN n t) := ⟨_, rfl⟩
  have HL : Kp _ := ⟨hL⟩
  rw [← hL] at hq2 HLt HL8 HCt
  have HQ2 : Kp _ := ⟨hq2⟩
  clear hb hL
  refine (callsIn_wide (n := 8)).1 (callsIn_of_wp_marks (F := Fence.wide) (n := 8) Tryd.func10 rfl trivial ?_ rfl)
  simp only [Tryd.ntmps10, List.size_toArray, List.length_cons, List.length_nil, Nat.reduceAdd, Nat.reduceSub, Array.replicate_succ, Array.replicate_zero, List.push_toArray, List.append_toArray, List.nil_append, List.cons_append]
  refine wpIn_wide.2 ?_
  have hqI : ¬ ((q : Int) ≤ 0) := by omega
  have hq0 : decide (q = 0) = false := decide_eq_false (by omega)
  go_upto_region 3 with fail
  have hkn : Blk (w.alloc (.cells #[.int .i64 (q : Int)] 3)) w.heap.size 3 [.int .i64 (q : Int)] := Blk.new _ _ _
  have hb1 : Below w.heap.size w (w.alloc (.cells #[.int .i64 (q : Int)] 3)) := (Below.refl _ w).alloc (Nat.le_refl _) _
  generalize w.alloc (.cells #[.int .i64 (q : Int)] 3) = W1 at *
  obtain ⟨Nb, hNb⟩ : ∃ x, x = w.heap.size := ⟨_, rfl⟩
  rw [← hNb] at hkn
  rw [show w.heap.size = Nb from hNb.symm] at ⊢
  have HNge : Kp (w.heap.size ≤ Nb) := ⟨by omega⟩
  have HNb : Kp _ := ⟨hkn⟩
  have HGr : Kp _ := ⟨hb1⟩
  have hdec : decide ((L.length : Int) < (q : Int)) = true := by exact decide_eq_true (by omega)
  have HRel : Value.bool (decide (L.length < q)) = Value.bool true := by congr 1; exact decide_eq_true (by omega)
  have HD2 : decide (L.length < q) = true := by exact decide_eq_true (by omega)
  clear hkn hb1 hNb
  go_cut [19] from 14 to 19 (fun v19 wx => v19 = .bool true ∧ Kp (Blk wx Nb 3 [.int .i64 (q : Int)]) ∧ Kp (Below w.heap.size w wx))
  case first =>
    refine wp_noPanic ?_
    go_wp2_with fail
    refine wp_region_any (by kernel_rfl) ?_
    change wpAny _ _ _ _ _ _ _ W1.drew
    replace HNb : Kp _ := ⟨HNb.out.drew⟩
    replace HGr : Kp _ := ⟨HGr.out.drew⟩
    clear HRel
    have HRel : Value.bool true = Value.bool true := rfl
    generalize W1.drew = wS at *
    refine wpAny_take (i := 0) (oi := ⟨some 14, _, _, _, _, _⟩) (v := ?_) rfl (by kernel_rfl) (by kernel_rfl) (by kernel_rfl) (fun _ _ _ h => h) (Or.inl ⟨by rfl, by intro w; go_simp; try rfl⟩) ?_
    try simp only [Act.put, List.setIfInBounds_toArray, List.set_cons_zero, List.set_cons_succ]
    refine wpAny_take (i := 1) (oi := ⟨some 15, _, _, _, _, _⟩) (v := ?_) rfl (by kernel_rfl) (by kernel_rfl) (by kernel_rfl) (fun _ _ _ h => h) (Or.inl ⟨by rfl, by intro w; go_simp; try rfl⟩) ?_
    try simp only [Act.put, List.setIfInBounds_toArray, List.set_cons_zero, List.set_cons_succ]
    refine wpAny_take (i := 2) (oi := ⟨some 16, _, _, _, _, _⟩) (v := ?_) rfl (by kernel_rfl) (by kernel_rfl) (by kernel_rfl) (fun _ _ _ h => h) (Or.inl ⟨by rfl, by intro w; go_simp; try rfl⟩) ?_
    try simp only [Act.put, List.setIfInBounds_toArray, List.set_cons_zero, List.set_cons_succ]
    repeat' (first
      | ((with_reducible change ite (Region.wanted ⟨some 17, _, _, _, _, _⟩ _ = true) _ _); go_simp; refine (HCt.out _ ((HB.out.below HGr.out).more HGr.out.size)).mono ?_; rintro e wZ ⟨rfl, hb'⟩; refine hK _ _ ?_; clear hK K; (try simp only [Act.put, List.setIfInBounds_toArray, List.set_cons_zero, List.set_cons_succ]); replace HNb : Kp _ := ⟨HNb.out.below hb' HNb.out.lt⟩; replace HGr : Kp _ := ⟨HGr.out.trans (hb'.mono HGr.out.size)⟩; clear hb'; obtain ⟨wS, rfl⟩ : ∃ x, x = wZ := ⟨_, rfl⟩)
      | ((with_reducible change ite (Region.wanted ⟨some 18, _, _, _, _, _⟩ _ = true) _ _); have c0 := HNb.out.cell? 0; simp only [List.getElem?_cons_zero] at c0; go_simp; refine hK _ _ ?_; clear hK K c0; (try simp only [Act.put, List.setIfInBounds_toArray, List.set_cons_zero, List.set_cons_succ]))
      | ((with_reducible change ite (Region.wanted ⟨some 19, _, _, _, _, _⟩ _ = true) _ _); go_simp; refine hK _ _ ?_; clear hK K; (try simp only [Act.put, List.setIfInBounds_toArray, List.set_cons_zero, List.set_cons_succ]))
      | ((with_reducible change wpAny _ _ _ _ _ _ _ _); refine wpAny_ready (rs := [3, 4]) (by decide +kernel) (by simp) ?_; refine AllReady.cons (o := ⟨some 17, _, _, _, _, _⟩) rfl (fun K hK => ?_) (AllReady.cons (o := ⟨some 18, _, _, _, _, _⟩) rfl (fun K hK => ?_) AllReady.nil))
      | ((with_reducible change wpAny _ _ _ _ _ _ _ _); refine wpAny_ready (rs := [3]) (by decide +kernel) (by simp) ?_; refine AllReady.cons (o := ⟨some 17, _, _, _, _, _⟩) rfl (fun K hK => ?_) AllReady.nil)
      | ((with_reducible change wpAny _ _ _ _ _ _ _ _); refine wpAny_ready (rs := [4]) (by decide +kernel) (by simp) ?_; refine AllReady.cons (o := ⟨some 18, _, _, _, _, _⟩) rfl (fun K hK => ?_) AllReady.nil)
      | ((with_reducible change wpAny _ _ _ _ _ _ _ _); refine wpAny_ready (rs := [5]) (by decide +kernel) (by simp) ?_; refine AllReady.cons (o := ⟨some 19, _, _, _, _, _⟩) rfl (fun K hK => ?_) AllReady.nil)
      | ((with_reducible change wpAny _ _ _ _ _ _ _ _); refine wpAny_done (by decide +kernel) ?_ _; go_wp2_with fail; go_meet; case rel => first | exact ⟨rfl, HNb, HGr⟩ | exact ⟨HNb, HGr⟩)
      | fail)
  case rest =>
    clear HNb HGr HRel hdec HD2
    obtain ⟨rfl, HNb, HGr⟩ := hcut
    clear HLt HL8 HL HCt HQ2 HNb
    go_wp2
    exact ⟨_, results_tt rfl rfl rfl, rfl, HGr.out⟩
theorem some_any (A : Option Addr) (n c : Nat) (b : List UInt8) (q : Nat) (f t : Int) (w : World) (h0 : 0 < w.heap.size) (hT : TabD w) (hb : Bs w w.heap.size A n c b) (hn : n ≤ 4294967296) (hf : f ≤ 9223372036854775807) (ht : t ≤ 9223372036854775807) (hq : 0 < q) (hq2 : q ≤ (freeL b f.toNat (hiN n t)).length) :
    Calls Tryd.prog 10 #[.slice A n c, .int .i64 (q : Int), .int .i64 f, .int .i64 t] w fun e w' => ∃ A' c', e = .returned (.tuple #[.slice A' q c', .int .i64 0]) ∧ Zs w' w'.heap.size .i64 A' q c' (intsL ((freeL b f.toNat (hiN n t)).take q)) ∧ Below w.heap.size w w' := by
  have HT : Kp _ := ⟨hT⟩
  have HB : Kp _ := ⟨hb⟩
  have HLt : Kp (∀ i ∈ freeL b f.toNat (hiN n t), i < 8 * n) := ⟨fun i hi => by have := (pick_mem.1 hi).1; unfold hiN at this; omega⟩
  have HL8 : Kp ((freeL b f.toNat (hiN n t)).length ≤ 8 * n) := ⟨Nat.le_trans (pick_length_le _ _ _) (by unfold hiN; omega)⟩
  have HCt : Kp _ := ⟨fun w hb => ctfree_any A n c b f t w hb hn hf ht⟩
  obtain ⟨L, hL⟩ : ∃ L, L = freeL b f.toNat (hiN n t) := ⟨_, rfl⟩
  have HL : Kp _ := ⟨hL⟩
  rw [← hL] at hq2 HLt HL8 HCt
  have HQ2 : Kp _ := ⟨hq2⟩
  rw [← hL]
  clear hb hL hT
  refine (callsIn_wide (n := 8)).1 (callsIn_of_wp_marks (F := Fence.wide) (n := 8) Tryd.func10 rfl trivial ?_ rfl)
  simp only [Tryd.ntmps10, List.size_toArray, List.length_cons, List.length_nil, Nat.reduceAdd, Nat.reduceSub, Array.replicate_succ, Array.replicate_zero, List.push_toArray, List.append_toArray, List.nil_append, List.cons_append]
  refine wpIn_wide.2 ?_
  have hqI : ¬ ((q : Int) ≤ 0) := by omega
  have hq0 : decide (q = 0) = false := decide_eq_false (by omega)
  go_upto_region 3 with fail
  have hkn : Blk (w.alloc (.cells #[.int .i64 (q : Int)] 3)) w.heap.size 3 [.int .i64 (q : Int)] := Blk.new _ _ _
  have hb1 : Below w.heap.size w (w.alloc (.cells #[.int .i64 (q : Int)] 3)) := (Below.refl _ w).alloc (Nat.le_refl _) _
  generalize w.alloc (.cells #[.int .i64 (q : Int)] 3) = W1 at *
  obtain ⟨Nb, hNb⟩ : ∃ x, x = w.heap.size := ⟨_, rfl⟩
  rw [← hNb] at hkn
  rw [show w.heap.size = Nb from hNb.symm] at ⊢
  have HNge : Kp (w.heap.size ≤ Nb) := ⟨by omega⟩
  have HNb : Kp _ := ⟨hkn⟩
  have HGr : Kp _ := ⟨hb1⟩
  have hdec : decide ((L.length : Int) < (q : Int)) = false := by exact decide_eq_false (by omega)
  have HRel : Value.bool (decide (L.length < q)) = Value.bool false := by congr 1; exact decide_eq_false (by omega)
  have HD2 : decide (L.length < q) = false := by exact decide_eq_false (by omega)
  clear hkn hb1 hNb
  go_cut [19] from 14 to 19 (fun v19 wx => v19 = .bool false ∧ Kp (Blk wx Nb 3 [.int .i64 (q : Int)]) ∧ Kp (Below w.heap.size w wx))
  case first =>
    refine wp_noPanic ?_
    go_wp2_with fail
    refine wp_region_any (by kernel_rfl) ?_
    change wpAny _ _ _ _ _ _ _ W1.drew
    replace HNb : Kp _ := ⟨HNb.out.drew⟩
    replace HGr : Kp _ := ⟨HGr.out.drew⟩
    clear HRel
    have HRel : Value.bool false = Value.bool false := rfl
    generalize W1.drew = wS at *
    refine wpAny_take (i := 0) (oi := ⟨some 14, _, _, _, _, _⟩) (v := ?_) rfl (by kernel_rfl) (by kernel_rfl) (by kernel_rfl) (fun _ _ _ h => h) (Or.inl ⟨by rfl, by intro w; go_simp; try rfl⟩) ?_
    try simp only [Act.put, List.setIfInBounds_toArray, List.set_cons_zero, List.set_cons_succ]
    refine wpAny_take (i := 1) (oi := ⟨some 15, _, _, _, _, _⟩) (v := ?_) rfl (by kernel_rfl) (by kernel_rfl) (by kernel_rfl) (fun _ _ _ h => h) (Or.inl ⟨by rfl, by intro w; go_simp; try rfl⟩) ?_
    try simp only [Act.put, List.setIfInBounds_toArray, List.set_cons_zero, List.set_cons_succ]
    refine wpAny_take (i := 2) (oi := ⟨some 16, _, _, _, _, _⟩) (v := ?_) rfl (by kernel_rfl) (by kernel_rfl) (by kernel_rfl) (fun _ _ _ h => h) (Or.inl ⟨by rfl, by intro w; go_simp; try rfl⟩) ?_
    try simp only [Act.put, List.setIfInBounds_toArray, List.set_cons_zero, List.set_cons_succ]
    repeat' (first
      | ((with_reducible change ite (Region.wanted ⟨some 17, _, _, _, _, _⟩ _ = true) _ _); go_simp; refine (HCt.out _ ((HB.out.below HGr.out).more HGr.out.size)).mono ?_; rintro e wZ ⟨rfl, hb'⟩; refine hK _ _ ?_; clear hK K; (try simp only [Act.put, List.setIfInBounds_toArray, List.set_cons_zero, List.set_cons_succ]); replace HNb : Kp _ := ⟨HNb.out.below hb' HNb.out.lt⟩; replace HGr : Kp _ := ⟨HGr.out.trans (hb'.mono HGr.out.size)⟩; clear hb'; obtain ⟨wS, rfl⟩ : ∃ x, x = wZ := ⟨_, rfl⟩)
      | ((with_reducible change ite (Region.wanted ⟨some 18, _, _, _, _, _⟩ _ = true) _ _); have c0 := HNb.out.cell? 0; simp only [List.getElem?_cons_zero] at c0; go_simp; refine hK _ _ ?_; clear hK K c0; (try simp only [Act.put, List.setIfInBounds_toArray, List.set_cons_zero, List.set_cons_succ]))
      | ((with_reducible change ite (Region.wanted ⟨some 19, _, _, _, _, _⟩ _ = true) _ _); go_simp; refine hK _ _ ?_; clear hK K; (try simp only [Act.put, List.setIfInBounds_toArray, List.set_cons_zero, List.set_cons_succ]))
      | ((with_reducible change wpAny _ _ _ _ _ _ _ _); refine wpAny_ready (rs := [3, 4]) (by decide +kernel) (by simp) ?_; refine AllReady.cons (o := ⟨some 17, _, _, _, _, _⟩) rfl (fun K hK => ?_) (AllReady.cons (o := ⟨some 18, _, _, _, _, _⟩) rfl (fun K hK => ?_) AllReady.nil))
      | ((with_reducible change wpAny _ _ _ _ _ _ _ _); refine wpAny_ready (rs := [3]) (by decide +kernel) (by simp) ?_; refine AllReady.cons (o := ⟨some 17, _, _, _, _, _⟩) rfl (fun K hK => ?_) AllReady.nil)
      | ((with_reducible change wpAny _ _ _ _ _ _ _ _); refine wpAny_ready (rs := [4]) (by decide +kernel) (by simp) ?_; refine AllReady.cons (o := ⟨some 18, _, _, _, _, _⟩) rfl (fun K hK => ?_) AllReady.nil)
      | ((with_reducible change wpAny _ _ _ _ _ _ _ _); refine wpAny_ready (rs := [5]) (by decide +kernel) (by simp) ?_; refine AllReady.cons (o := ⟨some 19, _, _, _, _, _⟩) rfl (fun K hK => ?_) AllReady.nil)
      | ((with_reducible change wpAny _ _ _ _ _ _ _ _); refine wpAny_done (by decide +kernel) ?_ _; go_wp2_with fail; go_meet; case rel => first | exact ⟨rfl, HNb, HGr⟩ | exact ⟨HNb, HGr⟩)
      | fail)
  case rest =>
    clear HNb HGr HRel hdec HD2
    obtain ⟨rfl, HNb, HGr⟩ := hcut
    have cq : wc.cell? ⟨Nb, 0, none⟩ = some (.int .i64 (q : Int)) := HNb.out.cell? 0
    have hq8 : 8 * q ≤ 281474976710656 := by have := HL8.out; have := HQ2.out; omega
    have hqm : q ≤ maxLen := by simp only [maxLen]; omega
    have HNl : Kp _ := ⟨HNb.out.lt⟩
    clear hqI hq0 HCt
    go_wp2_with (with_reducible refine wpList_mk0 (o := ⟨some 21, _, _, _, _, _⟩) elI rfl _ _ rfl wc.heap.size .i64 .i64 (q : Int) q rfl rfl rfl hq8 hqm (Nat.le_refl _) ?_)
    intro w5 hown hb5
    have HO5 : Kp _ := ⟨hown.out⟩
    have HG5 : Kp (Below w.heap.size w w5) := ⟨HGr.out.trans (hb5.mono HGr.out.size)⟩
    have HN5 : Kp _ := ⟨HNb.out.below hb5 HNb.out.lt⟩
    have hs5 : wc.heap.size ≤ w5.heap.size := hb5.size
    clear hown hb5 cq HNb
    go_upto_region 6 with fail
    have hkl : Blk (w5.alloc (.cells #[.slice (some ⟨wc.heap.size, 0, none⟩) 0 q] 24)) w5.heap.size 24 [.slice (some ⟨wc.heap.size, 0, none⟩) 0 q] := Blk.new _ _ _
    have hb6 : Below w5.heap.size w5 (w5.alloc (.cells #[.slice (some ⟨wc.heap.size, 0, none⟩) 0 q] 24)) := (Below.refl _ _).alloc (Nat.le_refl _) _
    have HO6 : Kp ((w5.alloc (.cells #[.slice (some ⟨wc.heap.size, 0, none⟩) 0 q] 24)).ownsRow wc.heap.size 3 1 (.slice (some ⟨wc.heap.size, 0, none⟩) 0 q) 0 []) := ⟨HO5.out.alloc _⟩
    generalize w5.alloc (.cells #[.slice (some ⟨wc.heap.size, 0, none⟩) 0 q] 24) = w6 at *
    obtain ⟨Lb, hLb⟩ : ∃ x, x = w5.heap.size := ⟨_, rfl⟩
    rw [← hLb] at hkl ⊢
    obtain ⟨S, hS⟩ : ∃ x, x = wc.heap.size := ⟨_, rfl⟩
    rw [← hS] at HO6 hkl HNl
    have HSL : Kp (S ≤ Lb) := ⟨by omega⟩
    have HwS : Kp (w.heap.size ≤ S) := ⟨by rw [hS]; exact HGr.out.size⟩
    have HSw : Kp (S ≤ w6.heap.size) := ⟨Nat.le_trans (by omega) hb6.size⟩
    have HG6 : Kp (Below w.heap.size w w6) := ⟨HG5.out.trans (hb6.mono HG5.out.size)⟩
    have HN6 : Kp _ := ⟨HN5.out.below hb6 HN5.out.lt⟩
    have HL6 : Kp _ := ⟨hkl⟩
    have hnw : w.heap.size ≤ w6.heap.size := HG6.out.size
    clear hkl hb6 HN5 HG5 HO5 hs5 hLb hS HGr
    go_wp2_with fail
    refine (frees_any A n c f t w6).mono ?_
    rintro e w3 ⟨B, hBs, rfl, hkb, hkf, hkt, hb3, hs3⟩
    have hWw : w.heap.size ≤ w3.heap.size := Nat.le_trans hnw hb3.size
    have HB3 : Kp (Below w.heap.size w w3) := ⟨HG6.out.trans (hb3.mono hnw)⟩
    have HI0 : Kp (SmI w S Nb Lb q [] w3) := ⟨⟨HB3.out, Nat.le_trans HSw.out hb3.size, hq, HN6.out.below hb3 HN6.out.lt, _, HL6.out.below hb3 HL6.out.lt, own_nc HO6.out (grown_below hb3) (fun r e => by cases e)⟩⟩
    have HKb : Kp _ := ⟨hkb⟩
    have HKf : Kp _ := ⟨hkf⟩
    have HKt : Kp _ := ⟨hkt⟩
    clear hkb hkf hkt hb3 hs3 hBs HG6 HO6
    go_wp2_with fail
    refine (wpIn_wide (n := 8)).1 ?_
    refine wp_rangeO (α := Nat) (gf := 35) (lb := #[.pointer (some ⟨B, 0, none⟩), .pointer (some ⟨B + 1, 0, none⟩), .pointer (some ⟨B + 2, 0, none⟩)]) rfl (enters_of Tryd.func35 (by kernel_rfl) rfl)
      (free_stops w.heap.size A n c b f t B (B + 1) (B + 2) w3 hWw h0 (HT.out.below HB3.out h0) (HB.out.below HB3.out) hn hf ht HKb.out HKf.out HKt.out) (Below.refl _ _) hWw (fun _ => rfl)
      (SmI w S Nb Lb q) (SmX w S Nb Lb q) (SmI.own hWw) (SmX.own hWw) HI0.out
      (fun k a' X => ∃ (t0 t1 t2 t3 t4 t6 t7 t8 t9 t12 t13 t14 t15 t16 t17 t18 t19 t20 t21 t22 t23 t24 t25 t26 t27 t28 t29 t30 t31 t32 t33 t34 t35 : Value), a' = { tmps := #[t0, t1, t2, t3, t4, .pointer (some ⟨Nb, 0, none⟩), t6, t7, t8, t9, .pointer (some ⟨Lb, 0, none⟩), .int .i64 (k : Int), t12, t13, t14, t15, t16, t17, t18, t19, t20, t21, t22, t23, t24, t25, t26, t27, t28, t29, t30, t31, t32, t33, t34, t35], defers := [] })
      ?hAx ?assign ?body ?done ?stop
    case hAx =>
      rintro x a' _ X Y row h hg hrow
      exact h
    case assign =>
      intro lr pre k X K hi hKK
      simp only [zip_one, List.setIfInBounds_toArray, List.set_cons_succ, List.set_cons_zero]
      refine wpIn_region_lit ?_
      refine list_inRound lr (by intro c h; cases h) rfl fun K1 hK1 => ?_
      go_simp
      refine hK1 _ _ ?_
      clear hK1 K1
      refine wpListIn_nil ?_
      try simp only [Act.put, List.setIfInBounds_toArray, List.set_cons_zero, List.set_cons_succ]
      exact hKK _ _ (KeepsFrom.refl _ _) (KpG.refl _) hi ⟨_, _, _, _, _, _, _, _, _, _, _, _, _, _, _, _, _, _, _, _, _, _, _, _, _, _, _, _, _, _, _, _, _, rfl⟩
    case body =>
      rintro lr pre k a' X hlr hi ⟨t0, t1, t2, t3, t4, t6, t7, t8, t9, t12, t13, t14, t15, t16, t17, t18, t19, t20, t21, t22, t23, t24, t25, t26, t27, t28, t29, t30, t31, t32, t33, t34, t35, rfl⟩ hlen
      obtain ⟨v, hl, ho⟩ := hi.l
      obtain ⟨A1, c1, rfl⟩ := own_sl ho
      have HKl : Kp _ := ⟨hl⟩
      have HOw : Kp _ := ⟨ho⟩
      have HLow : Kp _ := ⟨hi.low⟩
      have HSz : Kp _ := ⟨hi.size⟩
      have HKn : Kp _ := ⟨hi.n⟩
      have HLs : Kp _ := ⟨hi.less⟩
      have hq8' : q ≤ 8 * n := by have := HL8.out; have := HQ2.out; omega
      have hpl : pre.length < q := hi.less
      have c0 : X.cell? ⟨Lb, 0, none⟩ = some (.slice A1 pre.length c1) := hl.cell? 0
      clear hi hl ho hq8 hqm
      refine wpIn_block ?_
      refine wpIn_seq ?_
      refine wpIn_region_lit ?_
      refine list_inRound lr (by intro c h; cases h) rfl fun K1 hK1 => ?_
      go_simp
      refine hK1 _ _ ?_
      clear hK1 K1 c0
      refine list_inRound lr (by intro c h; cases h) rfl fun K1 hK1 => ?_
      go_simp
      refine hK1 _ _ ?_
      clear hK1 K1
      refine list_inRound lr (by intro c h; cases h) rfl fun K1 hK1 => ?_
      go_simp
      refine hK1 _ _ ?_
      clear hK1 K1
      refine list_inRound lr (by intro c h; cases h) rfl fun K1 hK1 => ?_
      refine step_app1 X rfl elI rfl (.tmp 27) (.tmp 29) rfl S (.slice A1 pre.length c1) pre.length (cellsZ (intsL pre)) rfl HOw.out rfl rfl (by simp only [maxLen]; omega) (by omega) HSz.out ?_
      intro v' w7 hown7 hb7 hk7 _ _
      refine hK1 _ _ ?_
      clear hK1 K1
      have HRn : Kp _ := ⟨own_round (n₀ := w.heap.size) (B := w3.heap.size) (G := TY3) HOw.out hb7 hk7 (by decide) HwS.out⟩
      have HKl7 : Kp _ := ⟨own_blk HOw.out hk7 HKl.out (.inl (by decide))⟩
      have HKn7 : Kp _ := ⟨own_blk HOw.out hk7 HKn.out (.inr HNl.out)⟩
      have HO7 : Kp (w7.ownsRow S 3 1 v' (pre.length + 1) (cellsZ (intsL (pre ++ [k])))) := ⟨by rw [intsL_snoc]; exact hown7.out⟩
      obtain ⟨A2, c2, rfl⟩ := own_sl hown7.out
      have HLow7 : Kp (Below w.heap.size w w7) := ⟨HLow.out.trans (hb7.mono HwS.out)⟩
      have hs7 : S ≤ w7.heap.size := Nat.le_trans HSz.out hb7.size
      have c0 : w7.cell? ⟨Lb, 0, none⟩ = some (.slice A1 pre.length c1) := HKl7.out.cell? 0
      have f0 := HKl7.out.frozen 0
      clear hown7 hb7 hk7 HOw HKl HKn
      refine list_inRound lr (by intro c h; cases h) rfl fun K1 hK1 => ?_
      go_simp
      refine hK1 _ _ ?_
      clear hK1 K1 c0 f0
      refine wpListIn_nil ?_
      try simp only [Act.put, List.setIfInBounds_toArray, List.set_cons_zero, List.set_cons_succ]
      have ho8 := Only.setCell w7 ⟨Lb, 0, none⟩ (.slice A2 (pre.length + 1) c2)
      have HKl8 : Kp _ := ⟨HKl7.out.set 0 (.slice A2 (pre.length + 1) c2)⟩
      have HO8 : Kp _ := ⟨own_only HO7.out HKl7.out (by decide) ho8⟩
      have HKn8 : Kp (Blk (w7.setCell ⟨Lb, 0, none⟩ (.slice A2 (pre.length + 1) c2)) Nb 3 [.int .i64 (q : Int)]) := ⟨HKn7.out.other (by show Nb ≠ Lb; have := HNl.out; have := HSL.out; omega) _⟩
      have HLow8 : Kp (Below w.heap.size w (w7.setCell ⟨Lb, 0, none⟩ (.slice A2 (pre.length + 1) c2))) := ⟨HLow7.out.setCell (p := ⟨Lb, 0, none⟩) (by show w.heap.size ≤ Lb; have := HwS.out; have := HSL.out; omega) _⟩
      have HKp8 : Kp _ := ⟨HRn.out.1.trans (KpG.set HKl7.out (by decide) (by have := HwS.out; have := HSL.out; omega) 0 (.slice A2 (pre.length + 1) c2))⟩
      have HKf8 : Kp _ := ⟨keepsFrom_trans HRn.out.2 (keepsFrom_set HKl7.out 0 (.slice A2 (pre.length + 1) c2))⟩
      have hs8 : S ≤ (w7.setCell ⟨Lb, 0, none⟩ (.slice A2 (pre.length + 1) c2)).heap.size := by rw [ho8.size]; exact hs7
      generalize w7.setCell ⟨Lb, 0, none⟩ (.slice A2 (pre.length + 1) c2) = w8 at *
      have c1' : w8.cell? ⟨Lb, 0, none⟩ = some (.slice A2 (pre.length + 1) c2) := HKl8.out.cell? 0
      have c2' : w8.cell? ⟨Nb, 0, none⟩ = some (.int .i64 (q : Int)) := HKn8.out.cell? 0
      clear ho8 HO7 HKl7 HKn7 HLow7 HRn hs7
      have hpq : pre.length + 1 = (pre ++ [k]).length := by simp
      have HPQ : Kp _ := ⟨hpq⟩
      clear hpq
      by_cases hend : pre.length + 1 = q
      · have hendI : ((pre.length : Int) + 1) = (q : Int) := by omega
        have HEd : Kp _ := ⟨hend⟩
        clear hend
        gi_wp2
        refine ⟨HKf8.out, rfl, HLow8.out, by rw [← HPQ.out]; exact HEd.out, _, HKl8.out, ?_⟩
        rw [← HPQ.out]
        exact HO8.out
      · have hendI : ¬ ((pre.length : Int) + 1) = (q : Int) := by omega
        have HEd : Kp (pre.length + 1 < q) := ⟨by omega⟩
        clear hend
        gi_wp2
        refine ⟨HKf8.out, HKp8.out, HLow8.out, hs8, by rw [← HPQ.out]; exact HEd.out, HKn8.out, _, HKl8.out, ?_⟩
        rw [← HPQ.out]
        exact HO8.out
    case done =>
      rintro D ys X hD hys hi hKd
      have h1 := hi.less
      rw [hys, ← HL.out] at h1
      have := HQ2.out
      omega
    case stop =>
      rintro D cc pre X hD hp h hKd
      obtain ⟨rfl, hlow, hfull, v, hkl, hown⟩ := h
      obtain ⟨A1, c1, rfl⟩ := own_sl hown
      have HKd : Kp _ := ⟨hKd⟩
      have HPr : Kp (pre = L.take q) := ⟨by
        rw [HL.out]
        obtain ⟨r, hr⟩ := hp
        rw [← hr, ← hfull]; simp⟩
      have HFu : Kp _ := ⟨hfull⟩
      have HOw : Kp _ := ⟨hown⟩
      have HLw : Kp _ := ⟨hlow⟩
      have HDw : Kp (w.heap.size ≤ D) := ⟨by omega⟩
      have c0 : X.cell? ⟨Lb, 0, none⟩ = some (.slice A1 pre.length c1) := hkl.cell? 0
      clear hp hown hlow hfull hkl hKd
      refine wpIn_wide.2 ?_
      go_wp2
      refine ⟨by simp, .inl ⟨_, _, rfl, run_takeDeferred HKd.out, ?_⟩⟩
      have hgp : X.grownBy (X.putObj D (.deferred none)) (some D) := grownBy_putObj' X D _
      have hown9 := own_nc HOw.out hgp (fun r e => by cases e; exact ⟨_, HKd.out, rfl⟩)
      rw [HFu.out] at hown9
      obtain ⟨A9, c9, e9, hz⟩ := Zs.of_own hown9 (fun z hz => by
        obtain ⟨i, hi, rfl⟩ := List.mem_map.1 hz
        rw [HPr.out] at hi
        have := HLt.out i (List.mem_of_mem_take hi)
        exact WalkArith.wf_i64 (by omega))
      injection e9 with e1 _ e3
      subst e1 e3
      refine ⟨_, results_tt rfl rfl rfl, A1, c1, ?_, ?_, below_nc HLw.out hgp (fun r e => by cases e; exact HDw.out) (Nat.le_refl _) (Nat.le_refl _)⟩
      · rw [HFu.out]; rfl
      · rw [← HPr.out]; exact hz
end
end Go.Proofs.YtgkeckfiacdpkaaDoor
