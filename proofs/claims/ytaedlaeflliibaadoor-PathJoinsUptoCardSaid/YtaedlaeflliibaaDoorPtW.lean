/- The contracts of Join and Last, the program's and the document's. -/
import Derived.Test.YtaedlaeflliibaaDoorPtV
import Derived.Deep.RegionHeld3
namespace Go.Proofs.YtaedlaeflliibaaDoor
open Go.RowKit Go.Shelf Go.Deep

section
variable {ops : Array Oper} {S : World → Prop} {op : Oper} {a : Act} {g o : Nat}
theorem yieldsIf_ldS (hw : Region.wanted op (yielded ops a.tmps) = true) (x : Operand) (ho : op.op = .load 9 x) (hx : a.eval x = .pointer (some ⟨g, o, none⟩)) (s : ByteArray) (hS : ∀ W, S W → W.cell? ⟨g, o, none⟩ = some (.string s)) :
    YieldsIf Tryd.prog ops S op (.string s) a :=
  .inl ⟨hw, fun w h => by
    have hc := hS w h
    unfold execOp
    simp only [ho, hx]
    go_simp⟩
theorem yieldsIf_ldB (hw : Region.wanted op (yielded ops a.tmps) = true) (x : Operand) (ho : op.op = .load 4 x) (hx : a.eval x = .pointer (some ⟨g, o, none⟩)) (b : Bool) (hS : ∀ W, S W → W.cell? ⟨g, o, none⟩ = some (.bool b)) :
    YieldsIf Tryd.prog ops S op (.bool b) a :=
  .inl ⟨hw, fun w h => by
    have hc := hS w h
    unfold execOp
    simp only [ho, hx]
    go_simp⟩
theorem yieldsIf_ldL (hw : Region.wanted op (yielded ops a.tmps) = true) (x : Operand) (ho : op.op = .load 23 x) (hx : a.eval x = .pointer (some ⟨g, o, none⟩)) (A : Option Addr) (n c : Nat) (hS : ∀ W, S W → W.cell? ⟨g, o, none⟩ = some (.slice A n c)) :
    YieldsIf Tryd.prog ops S op (.slice A n c) a :=
  .inl ⟨hw, fun w h => by
    have hc := hS w h
    unfold execOp
    simp only [ho, hx]
    go_simp⟩
theorem yieldsIf_build2 {t : TypeId} (hw : Region.wanted op (yielded ops a.tmps) = true) (i j : Nat) (x y : Operand) (ho : op.op = .build t #[(i, x), (j, y)]) {v u : Value} (hx : a.eval x = v) (hy : a.eval y = u) {cs : List Value} (hb : (Tryd.prog).built t [(i, v), (j, u)] = some cs.toArray) : YieldsIf Tryd.prog ops S op (.agg cs.toArray) a :=
  .inl ⟨hw, fun w _ => by
    have hr := run_build (P := Tryd.prog) w t #[(i, v), (j, u)] cs.toArray (by simpa using hb)
    unfold execOp
    simp only [ho, Sem.run_bind, List.map_toArray, List.map_cons, List.map_nil, hx, hy, hr, Result.andThen_ok, Sem.run_pure]⟩
theorem yieldsIf_cutSt (hw : Region.wanted op (yielded ops a.tmps) = true) (x hi : Operand) (hop : op.op = Op.slice 23 x none (some hi) none) {b o n c k : Nat} (hx : a.eval x = .slice (some ⟨b, o, none⟩) n c) (hhi : a.eval hi = .int .i64 (k : Int)) (hk : k ≤ c) :
    YieldsIf Tryd.prog ops S op (.slice (some ⟨b, o, none⟩) k c) a :=
  .inl ⟨hw, fun w _ => by
    have hrun := run_slice_h (P := Tryd.prog) (w := w) 23 (some ⟨b, o, none⟩) n c elSt.ty' .i64 (k : Int) (by omega) (by omega)
    rw [elSt.sizeOf] at hrun
    unfold execOp
    simp [hop, hx, hhi, run_sliceAt_slice (P := Tryd.prog) (w := w) 23 _ _ _ _ elSt.ty', hrun, Result.andThen, sliced]
    intro _; simp [Addr.add]⟩
theorem step_appSt {w : World} {K : Act → World → Prop} {C : Prop} {Q : Exit → Act → World → Prop} (hgd : op.guard = none) (s x : Operand)
    (ho : op.op = .call { callee := .builtin .append, args := #[s, x], argTypes := #[23, 23] })
    (base : Nat) (v : Value) (n : Nat) (L : List Nm) (hs : a.eval s = v) (hown : w.ownsRow base 9 1 v n (stCells L))
    {B : Nat} {A : Option Addr} {m c : Nat} {M : List Nm} (hx : a.eval x = .slice A m c) (hM : Ss w B A m c M) (hbytes : n + m ≤ 8796093022208) (hbase : base ≤ w.heap.size)
    (h : ∀ v' w', w'.ownsRow base 9 1 v' (n + m) (stCells (L ++ M)) → Below base w w' → w.grownBy w' v.ownBlock → K (a.put op.dst v') w') :
    if Region.wanted op (yielded ops a.tmps) = true then Oper.wp Tryd.prog op a w K Q else C := by
  have hw : Region.wanted op (yielded ops a.tmps) = true := by simp [Region.wanted, hgd]
  rw [if_pos hw]
  obtain ⟨i, hi, hz0, hz1, hz2⟩ := info_parts elSt.info
  cases A with
  | some ad =>
    obtain ⟨v', w', hrun, h2, h3, _, h5⟩ := run_append_own_at (P := Tryd.prog) w base 23 op.type 9 i _ 1 16 elSt.ty hi hz0 hz1 hz2 rfl (by decide) v n _ hown ad m c (stCells M) (by rw [stCells_length, hM.len, Nat.mul_one]) (hM.news ad rfl) (stCells_one M) (by simp only [maxLen]; omega) (by omega) hbase
    unfold Oper.wp execOp
    simp only [ho, resolve, invoke, builtin, Sem.run_bind, Sem.run_pure, Result.andThen_ok, List.map_toArray, List.map_cons, List.map_nil, hs, hx, hrun]
    exact h v' w' (by rw [stCells_app]; exact h2) (below_of_grown hown hbase h3) h3
  | none =>
    obtain ⟨rfl, rfl⟩ := hM.nils rfl
    obtain rfl : M = [] := List.eq_nil_of_length_eq_zero hM.len
    have hrun := run_append_owned_none (P := Tryd.prog) w base 23 op.type 9 i 1 elSt.ty hi v n (stCells L) hown
    unfold Oper.wp
    simp [execOp, ho, resolve, invoke, builtin, hs, hx, hrun, Result.andThen]
    exact h v w (by simpa using hown) (Below.refl _ _) (World.grownBy.refl _ _)
end
theorem built_pt2 (b : Bool) (A : Option Addr) (n c : Nat) : (Tryd.prog).built 25 [(0, .bool b), (1, .slice A n c)] = some #[.bool b, .slice A n c] := by kernel_rfl
theorem one_pt (b : Bool) (A : Option Addr) (n c : Nat) : ∀ v ∈ [Value.bool b, .slice A n c], v.oneCell' = true := by
  intro v hv
  simp only [List.mem_cons, List.not_mem_nil, or_false] at hv
  rcases hv with rfl | rfl <;> rfl
theorem results_pt {P : Program} {w : World} {tmps : Array Value} {t : TypeId} {fn : Func} {p : Tmp} (hr : fn.results = #[.cell p t]) {d : TypeDesc} (ht : P.underlying t = some d) (hd : (match d with | .struct _ | .array _ _ => true | _ => false) = true)
    {g : Nat} {t' : TypeId} {cs : List Value} (hx : tmps.getD p undef = .pointer (some ⟨g, 0, none⟩)) (hb : Blk w g t' cs) (hi : (P.info? t).map (·.size) = some cs.length) :
    (results fn tmps).run P w = .ok (.agg cs.toArray) w := results_cell_row hr tmps w g t' cs.toArray (0, 0) d hx hb.heap ht hd (by rw [hi]; simp)
theorem results_pt3 {P : Program} {w : World} {tmps : Array Value} {t : TypeId} {fn : Func} {p q r : Tmp} (hr : fn.results = #[.cell p t, .tmp q, .tmp r]) {d : TypeDesc} (ht : P.underlying t = some d) (hd : (match d with | .struct _ | .array _ _ => true | _ => false) = true)
    {g : Nat} {t' : TypeId} {cs : List Value} (hx : tmps.getD p undef = .pointer (some ⟨g, 0, none⟩)) (hb : Blk w g t' cs) (hi : (P.info? t).map (·.size) = some cs.length) :
    (results fn tmps).run P w = .ok (.tuple #[.agg cs.toArray, tmps.getD q undef, tmps.getD r undef]) w := by
  have hx' : tmps[p]?.getD undef = .pointer (some ⟨g, 0, none⟩) := by simpa using hx
  have h1 : (loadVar t ⟨g, 0, none⟩).run P w = .ok (.agg cs.toArray) w := run_loadVar_row w g t' t cs.toArray (0, 0) d hb.heap ht hd (by rw [hi]; simp)
  simp [results, hr, hx', asAddr, h1]
/-- two paths, boxed, and a third for the result -/
theorem box_three (w : World) (cs ds es : List Value) : (Blk (((w.alloc (.cells cs.toArray 25)).alloc (.cells ds.toArray 25)).alloc (.cells es.toArray 25)) w.heap.size 25 cs ∧ Blk (((w.alloc (.cells cs.toArray 25)).alloc (.cells ds.toArray 25)).alloc (.cells es.toArray 25)) (w.heap.size + 1) 25 ds) ∧
    Blk (((w.alloc (.cells cs.toArray 25)).alloc (.cells ds.toArray 25)).alloc (.cells es.toArray 25)) (w.heap.size + 1 + 1) 25 es ∧ Below w.heap.size w (((w.alloc (.cells cs.toArray 25)).alloc (.cells ds.toArray 25)).alloc (.cells es.toArray 25)) := by
  have h := box_two w cs ds
  refine ⟨⟨h.1.alloc _, h.2.1.alloc _⟩, ?_, h.2.2.alloc h.2.2.size _⟩
  have h := Blk.new ((w.alloc (.cells cs.toArray 25)).alloc (.cells ds.toArray 25)) 25 es
  rw [World.size_alloc, World.size_alloc] at h
  exact h
def joinL (b2 : Bool) (l m : List Nm) : List Nm := if b2 then m else l ++ m
section
set_option maxRecDepth 100000
set_option maxHeartbeats 4000000
theorem joinPt_any (b b2 : Bool) (A B : Option Addr) (n c m d : Nat) (xs ys : List Nm) (w : World) (L M : Nat) (ha : Ss w L A n c xs) (hb : Ss w M B m d ys) (hL : L ≤ w.heap.size) (hM : M ≤ w.heap.size) (hn : n + m ≤ 8796093022208) :
    Calls Tryd.prog 19 #[.agg #[.bool b, .slice A n c], .agg #[.bool b2, .slice B m d]] w fun e w' => ∃ A' n' c', e = .returned (.agg #[.bool (b2 || b), .slice A' n' c']) ∧ Ss w' w'.heap.size A' n' c' (joinL b2 xs ys) ∧ Below w.heap.size w w' := by
  have hx3 := box_three w [.bool b, .slice A n c] [.bool b2, .slice B m d] [.bool false, .slice none 0 0]
  have HA : Kp (∀ W, Below w.heap.size w W → Ss W L A n c xs) := ⟨fun W h => ha.below (h.mono hL)⟩
  have HB : Kp (∀ W, Below w.heap.size w W → Ss W M B m d ys) := ⟨fun W h => hb.below (h.mono hM)⟩
  have HOk : Kp (∀ x ∈ xs ++ ys, x.length ≤ 140737488351232) := ⟨fun x hx => by
    rcases List.mem_append.1 hx with h | h
    · exact ha.ok x h
    · exact hb.ok x h⟩
  have H3 : Kp _ := ⟨hx3⟩
  have HLw : Kp (L ≤ w.heap.size ∧ M ≤ w.heap.size) := ⟨hL, hM⟩
  clear ha hb hx3 hL hM
  cases b2 with
  | true =>
    go_enter Tryd.func19, Tryd.ntmps19
    go_upto_region 2 with fail
    have c0 := H3.out.1.2.cell? 0
    have c1 := H3.out.1.2.cell? 1
    have r0 := H3.out.2.1.cell? 0
    simp only [List.getElem?_cons_succ, List.getElem?_cons_zero] at c0 c1
    obtain ⟨w1, hw1⟩ : ∃ w1, w1 = ((w.alloc (.cells #[.bool b, .slice A n c] 25)).alloc (.cells #[.bool true, .slice B m d] 25)).alloc (.cells #[.bool false, .slice none 0 0] 25) := ⟨_, rfl⟩
    simp only [← hw1] at c0 c1 ⊢
    have HR : Kp (Blk w1 (w.heap.size + 1 + 1) 25 [.bool false, .slice none 0 0]) := ⟨by rw [hw1]; exact H3.out.2.1⟩
    have HW1 : Kp (Below w.heap.size w w1) := ⟨by rw [hw1]; exact H3.out.2.2⟩
    have hls : M ≤ w1.heap.size := Nat.le_trans HLw.out.2 HW1.out.size
    clear hw1 H3 r0
    go_wp2_with (first
      | (go_at_call 26
         refine (cloneSt_any B m d ys _ M (HB.out _ HW1.out) hls (by omega)).mono ?_
         rintro e w2 ⟨v1, rfl, hown, hbx⟩
         obtain ⟨A5, c5, rfl, hss⟩ := Ss.of_own hown (fun x hx => HOk.out x (List.mem_append_right _ hx))
         have HS5 : Kp _ := ⟨hss⟩
         have HR2 : Kp _ := ⟨HR.out.below hbx HR.out.lt⟩
         have HW2 : Kp (Below w.heap.size w w2) := ⟨HW1.out.trans (hbx.mono HW1.out.size)⟩
         have HO5 : Kp _ := ⟨hown⟩
         have HW15 : Kp (w.heap.size + 1 + 1 < w1.heap.size) := ⟨HR.out.lt⟩
         have r0 := HR2.out.cell? 0
         have r1 := HR2.out.cell? 1
         have f0 := HR2.out.frozen 0
         have f1 := HR2.out.frozen 1
         simp only [List.getElem?_cons_succ, List.getElem?_cons_zero] at r0 r1
         clear hown hbx hss c0 c1)
      | (refine wpList_build2 (o := ⟨some 10, _, _, _, _, _⟩) rfl 0 1 _ _ rfl rfl rfl (cs := [.bool true, .slice A5 m c5]) (built_pt2 true A5 m c5) ?_))
    obtain ⟨Z, hZ⟩ : ∃ Z, Z = (w2.setCell ⟨w.heap.size + 1 + 1, 0, none⟩ (.bool true)).setCell ⟨w.heap.size + 1 + 1, 1, none⟩ (.slice A5 m c5) := ⟨_, rfl⟩
    have hr : Blk Z (w.heap.size + 1 + 1) 25 [.bool true, .slice A5 m c5] := by rw [hZ]; exact (HR2.out.set 0 _).set 1 _
    have ho : Only (w.heap.size + 1 + 1) w2 Z := by rw [hZ]; exact Only.trans (Only.setCell w2 ⟨w.heap.size + 1 + 1, 0, none⟩ (.bool true)) (Only.setCell (w2.setCell ⟨w.heap.size + 1 + 1, 0, none⟩ (.bool true)) ⟨w.heap.size + 1 + 1, 1, none⟩ (.slice A5 m c5))
    rw [← hZ]
    refine bodyPost_ret (results_pt rfl Tryd.underlying25 rfl rfl hr szPt) rfl ?_
    have how := ownS_only HO5.out ho (fun e => by have := ownS_low HO5.out _ e; have := HW15.out; omega)
    obtain ⟨A6, c6, e6, hsp⟩ := Ss.of_own how (fun x hx => HOk.out x (List.mem_append_right _ hx))
    cases e6
    exact ⟨A5, m, c5, rfl, hsp, HW2.out.trans (ho.below (by omega))⟩
  | false =>
    go_enter Tryd.func19, Tryd.ntmps19
    go_upto_region 3 with fail
    obtain ⟨w1, hw1⟩ : ∃ w1, w1 = ((w.alloc (.cells #[.bool b, .slice A n c] 25)).alloc (.cells #[.bool false, .slice B m d] 25)).alloc (.cells #[.bool false, .slice none 0 0] 25) := ⟨_, rfl⟩
    simp only [← hw1] at ⊢
    have HQ : Kp _ := ⟨H3.out⟩
    rw [← hw1] at HQ
    obtain ⟨G, hG⟩ : ∃ G, G = w.heap.size := ⟨_, rfl⟩
    rw [← hG] at HQ ⊢
    have HG : Kp (w.heap.size = G ∧ G + 1 + 1 < w1.heap.size) := ⟨hG.symm, HQ.out.2.1.lt⟩
    clear hw1 H3 hG
    refine wp_region_held_drew (S := fun WW => (Blk WW G 25 [.bool b, .slice A n c] ∧ Blk WW (G + 1) 25 [.bool false, .slice B m d]) ∧ (∃ es, es.length = 2 ∧ Blk WW (G + 1 + 1) 25 es) ∧ Below G w WW) (by kernel_rfl) (⟨⟨HQ.out.1.1.drew, HQ.out.1.2.drew⟩, ⟨_, rfl, HQ.out.2.1.drew⟩, HQ.out.2.2.drew⟩) (fun hHeld => ?_)
    generalize w1.drew = wS at *
    refine wpAnyH_take (i := 0) (oi := ⟨some 11, _, _, _, _, _⟩) (v := ?_) rfl (by kernel_rfl) (by kernel_rfl) (by kernel_rfl) (fun _ _ _ h => h) (Or.inl ⟨by rfl, by intro w hSw; go_simp; try rfl⟩) (by assumption) ?_
    try simp only [Act.put, List.setIfInBounds_toArray, List.set_cons_zero, List.set_cons_succ]
    refine wpAnyH_take (i := 1) (oi := ⟨some 12, _, _, _, _, _⟩) (v := _) rfl (by kernel_rfl) (by kernel_rfl) (by kernel_rfl) (fun _ _ _ h => h) (yieldsIf_ldB rfl _ rfl rfl b (fun W h => h.1.1.cell? 0)) (by assumption) ?_
    try simp only [Act.put, List.setIfInBounds_toArray, List.set_cons_zero, List.set_cons_succ]
    refine wpAnyH_take (i := 2) (oi := ⟨some 13, _, _, _, _, _⟩) (v := ?_) rfl (by kernel_rfl) (by kernel_rfl) (by kernel_rfl) (fun _ _ _ h => h) (Or.inl ⟨by rfl, by intro w hSw; go_simp; try rfl⟩) (by assumption) ?_
    try simp only [Act.put, List.setIfInBounds_toArray, List.set_cons_zero, List.set_cons_succ]
    refine wpAnyH_take (i := 3) (oi := ⟨some 14, _, _, _, _, _⟩) (v := _) rfl (by kernel_rfl) (by kernel_rfl) (by kernel_rfl) (fun _ _ _ h => h) (yieldsIf_ldL rfl _ rfl rfl A n c (fun W h => h.1.1.cell? 1)) (by assumption) ?_
    try simp only [Act.put, List.setIfInBounds_toArray, List.set_cons_zero, List.set_cons_succ]
    refine wpAnyH_take (i := 5) (oi := ⟨some 16, _, _, _, _, _⟩) (v := ?_) rfl (by kernel_rfl) (by kernel_rfl) (by kernel_rfl) (fun _ _ _ h => h) (Or.inl ⟨by rfl, by intro w hSw; go_simp; try rfl⟩) (by assumption) ?_
    try simp only [Act.put, List.setIfInBounds_toArray, List.set_cons_zero, List.set_cons_succ]
    refine wpAnyH_take (i := 6) (oi := ⟨some 17, _, _, _, _, _⟩) (v := _) rfl (by kernel_rfl) (by kernel_rfl) (by kernel_rfl) (fun _ _ _ h => h) (yieldsIf_ldL rfl _ rfl rfl B m d (fun W h => h.1.2.cell? 1)) (by assumption) ?_
    try simp only [Act.put, List.setIfInBounds_toArray, List.set_cons_zero, List.set_cons_succ]
    refine wpAnyH_ready (rs := [4]) (by kernel_rfl) (by simp) ?_
    refine AllReadyH.cons (o := ⟨some 15, _, _, _, _, _⟩) rfl (fun K hK => ?_) AllReadyH.nil
    go_simp
    refine (cloneSt_any A n c xs wS L (HA.out _ (by rw [HG.out.1]; exact hHeld.2.2)) (by have h1 := HLw.out.1; have h2 := hHeld.2.2.size; have h3 := HG.out.1; omega) (by omega)).mono ?_
    rintro e w51 ⟨v5, rfl, hown, hb'⟩
    obtain ⟨A5, c5, rfl⟩ := own_sl hown
    obtain ⟨b5, hb5⟩ : ∃ x, x = wS.heap.size := ⟨_, rfl⟩
    rw [← hb5] at hown hb'
    have HB5 : Kp (G + 1 + 1 < b5 ∧ b5 ≤ w51.heap.size) := ⟨by obtain ⟨es, h1, h2⟩ := hHeld.2.1; have := h2.lt; have := hb'.size; omega⟩
    have HO5 : Kp _ := ⟨hown⟩
    refine hK.out _ _ (⟨⟨hHeld.1.1.below hb' (by have := HB5.out; omega), hHeld.1.2.below hb' (by have := HB5.out; omega)⟩, (by obtain ⟨es, h1, h2⟩ := hHeld.2.1; exact ⟨es, h1, h2.below hb' HB5.out.1⟩), hHeld.2.2.trans (hb'.mono (by have := HB5.out; omega))⟩) (fun hHeld2 => ?_)
    clear hown hb' hb5
    clear hK K hHeld
    have hHeld := hHeld2
    clear hHeld2
    try simp only [Act.put, List.setIfInBounds_toArray, List.set_cons_zero, List.set_cons_succ]
    refine wpAnyH_ready (rs := [7]) (by kernel_rfl) (by simp) ?_
    refine AllReadyH.cons (o := ⟨some 18, _, _, _, _, _⟩) rfl (fun K hK => ?_) AllReadyH.nil
    refine step_appSt rfl _ _ rfl b5 _ n xs rfl HO5.out rfl (HB.out w51 (by rw [HG.out.1]; exact hHeld.2.2)) hn HB5.out.2 ?_
    intro v6 w52 hown6 hb6 _
    obtain ⟨A6, c6, rfl⟩ := own_sl hown6
    have HO6 : Kp _ := ⟨hown6⟩
    refine hK.out _ _ (⟨⟨hHeld.1.1.below hb6 (by have := HB5.out; omega), hHeld.1.2.below hb6 (by have := HB5.out; omega)⟩, (by obtain ⟨es, h1, h2⟩ := hHeld.2.1; exact ⟨es, h1, h2.below hb6 HB5.out.1⟩), hHeld.2.2.trans (hb6.mono (by have := HB5.out; omega))⟩) (fun hHeld2 => ?_)
    clear hown6 hb6
    clear hK K hHeld
    have hHeld := hHeld2
    clear hHeld2
    try simp only [Act.put, List.setIfInBounds_toArray, List.set_cons_zero, List.set_cons_succ]
    refine wpAnyH_take (i := 8) (oi := ⟨some 19, _, _, _, _, _⟩) (v := _) rfl (by kernel_rfl) (by kernel_rfl) (by kernel_rfl) (fun _ _ _ h => h) (yieldsIf_build2 rfl 0 1 _ _ rfl rfl rfl (cs := [.bool b, .slice A6 (n + m) c6]) (built_pt2 b A6 (n + m) c6)) (by assumption) ?_
    try simp only [Act.put, List.setIfInBounds_toArray, List.set_cons_zero, List.set_cons_succ]
    refine wpAnyH_ready (rs := [9]) (by kernel_rfl) (by simp) ?_
    refine AllReadyH.cons (o := ⟨none, _, _, _, _, _⟩) rfl (fun K hK => ?_) AllReadyH.nil
    obtain ⟨es, he1, he2⟩ := hHeld.2.1
    refine step_store rwPt rfl (.tmp 4) (.tmp 19) rfl rfl rfl he2 rfl (by rw [he1]; exact Nat.le_refl 2) (one_pt b A6 (n + m) c6) ?_
    intro w53 hk9 ho9
    rw [show es.take 0 ++ [Value.bool b, .slice A6 (n + m) c6] ++ es.drop (0 + 2) = [Value.bool b, .slice A6 (n + m) c6] by rw [List.drop_eq_nil_of_le (by omega)]; simp] at hk9
    have HR9 : Kp _ := ⟨hk9⟩
    have HO9 : Kp _ := ⟨ownS_only HO6.out ho9 (fun e => by have := ownS_low HO6.out _ e; have := HB5.out; omega)⟩
    refine hK.out _ _ (⟨⟨hHeld.1.1.only ho9 (by omega), hHeld.1.2.only ho9 (by omega)⟩, ⟨_, rfl, hk9⟩, hHeld.2.2.trans (ho9.below (by omega))⟩) (fun hHeld2 => ?_)
    clear hk9 ho9 he1 he2
    clear hK K hHeld
    have hHeld := hHeld2
    clear hHeld2
    try simp only [Act.put]
    refine wpAnyH_done (by kernel_rfl) ?_ _
    go_wp2
    refine bodyPost_ret (results_pt rfl Tryd.underlying25 rfl rfl HR9.out szPt) rfl ?_
    obtain ⟨A7, c7, e7, hsp⟩ := Ss.of_own HO9.out HOk.out
    cases e7
    exact ⟨A6, n + m, c6, rfl, hsp, by rw [HG.out.1]; exact hHeld.2.2⟩
end
end Go.Proofs.YtaedlaeflliibaaDoor
