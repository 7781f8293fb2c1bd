/- The contract of package path's Parse. -/
import Derived.Test.YtaedlaeflliibaaDoorPtI
import Derived.Test.YtaedlaeflliibaaDoorPtS
import Derived.Test.YtaedlaeflliibaaDoorNmN
import Derived.Test.YtaedlaeflliibaaDoorRnd
import Derived.Test.YtaedlaeflliibaaDoorBuild
import Derived.Shelf.Abstract
namespace Go.Proofs.YtaedlaeflliibaaDoor
open Go.RowKit Go.Shelf

def zeroPt : List Value := [.bool false, .slice none 0 0]
theorem tyPt : Ty Tryd.prog 25 zeroPt := ⟨by kernel_rfl⟩
theorem rwPt : Rw Tryd.prog 25 (match (Tryd.prog).underlying 25 with | some d => d | none => .bool) 2 := ⟨by kernel_rfl, by kernel_rfl, by kernel_rfl⟩
theorem built_pt (b : Bool) : (Tryd.prog).built 25 [(0, .bool b)] = some #[.bool b, .slice none 0 0] := by kernel_rfl
theorem prefix_any (l : Nm) (w : World) : Calls Tryd.prog 23 #[.string ⟨l.toArray⟩, .string ⟨#[47]⟩] w fun e w' => e = .returned (.bool (slashS l)) ∧ w' = w := by
  have h := Any.strings_HasPrefix prefixA ⟨l.toArray⟩ ⟨#[47]⟩ w
  have e : Lib.hasPrefix (ByteArray.mk l.toArray).data.toList (ByteArray.mk #[47]).data.toList = slashS l := by
    cases l with
    | nil => rfl
    | cons c t => simp [Lib.hasPrefix, slashS, List.isPrefixOf]; exact BEq.comm
  rw [e] at h
  exact h
theorem results_pe {P : Program} {w : World} {tmps : Array Value} {t u : TypeId} {fn : Func} {p q : Tmp} (hr : fn.results = #[.cell p t, .cell q u]) {d : TypeDesc} (ht : P.underlying t = some d) (hd : (match d with | .struct _ | .array _ _ => true | _ => false) = true)
    (hu : P.underlying u = some (.int .i64)) {g g2 : Nat} {t' u' : TypeId} {cs : List Value} {e : Int} (hx : tmps.getD p undef = .pointer (some ⟨g, 0, none⟩)) (hy : tmps.getD q undef = .pointer (some ⟨g2, 0, none⟩)) (hb : Blk w g t' cs) (hi : (P.info? t).map (·.size) = some cs.length) (hb2 : Blk w g2 u' [.int .i64 e]) :
    (results fn tmps).run P w = .ok (.tuple #[.agg cs.toArray, .int .i64 e]) w := by
  have hc : w.cell? ⟨g2, 0, none⟩ = some (.int .i64 e) := hb2.cell? 0
  have hx' : tmps[p]?.getD undef = .pointer (some ⟨g, 0, none⟩) := by simpa using hx
  have hy' : tmps[q]?.getD undef = .pointer (some ⟨g2, 0, none⟩) := by simpa using hy
  have h1 : (loadVar t ⟨g, 0, none⟩).run P w = .ok (.agg cs.toArray) w := run_loadVar_row w g t' t cs.toArray (0, 0) d hb.heap ht hd (by rw [hi]; simp)
  have h2 : (loadVar u ⟨g2, 0, none⟩).run P w = .ok (.int .i64 e) w := by simp [loadVar, isAgg, run_underlying hu, Result.andThen, hc]
  simp [results, hr, hx', hy', asAddr, h1, h2]
theorem zip_one (T : Array Value) (p : Tmp) (v : Value) : (Array.zip #[p] #[v]).foldl (fun t (x : Tmp × Value) => t.setIfInBounds x.1 x.2) T = T.setIfInBounds p v := by simp
theorem keepsFrom_set {B g : Nat} {t : TypeId} {cs : List Value} {X : World} (h : Blk X g t cs) (i : Nat) (v : Value) : KeepsFrom B X (X.setCell ⟨g, i, none⟩ v) := by
  have ho := Only.setCell X ⟨g, i, none⟩ v
  refine ⟨by rw [ho.size]; exact Nat.le_refl _, fun k o _ hk hc => (ho.block k (fun e => ?_)).trans hk⟩
  have e' : k = g := e
  subst e'
  rw [h.heap] at hk
  cases hk
  cases hc
theorem keepsFrom_row {B base n size : Nat} {e : TypeId} {v : Value} {xs : List Value} {X Y : World} (h : X.ownsRow base e size v n xs) (hg : X.grownBy Y v.ownBlock) : KeepsFrom B X Y := by
  refine ⟨hg.size, fun k o _ hk hc => (hg.block k (Array.getElem?_eq_some_iff.1 hk).1 (fun e => ?_)).trans hk⟩
  rcases h.2 with ⟨rfl, h0⟩ | ⟨g, cap, cur, rfl, hb, hh, hrest⟩
  · cases e
  · have e2 : some k = some g := e.symm ▸ rfl
    have e3 := Option.some.inj e2
    subst e3
    rw [hh] at hk
    cases hk
    cases hc
theorem szPt : ((Tryd.prog).info? 25).map (·.size) = some 2 := by kernel_rfl
/-- a row of the results, whatever is known of the call's world -/
theorem ret_pt (w : World) (e : Int) (cs : List Value) : Blk ((w.alloc (.cells cs.toArray 25)).alloc (.cells #[.int .i64 e] 26)) w.heap.size 25 cs ∧ Blk ((w.alloc (.cells cs.toArray 25)).alloc (.cells #[.int .i64 e] 26)) (w.heap.size + 1) 26 [.int .i64 e] := by
  refine ⟨(Blk.new w _ cs).alloc _, ?_⟩
  have h := Blk.new (w.alloc (.cells cs.toArray 25)) 26 [.int .i64 e]
  rw [World.size_alloc] at h
  exact h
attribute [local go_sem] Oper.semAt_some
section
set_option maxRecDepth 100000
set_option maxHeartbeats 4000000
theorem parse_no (s : Nm) (w : World) (hs : s.length < 1 ∨ 200 < s.length) (hl : s.length ≤ 140737488351232) :
    Calls Tryd.prog 11 #[.string ⟨s.toArray⟩] w fun e w' => e = .returned (.tuple #[.agg #[.bool false, .slice none 0 0], .int .i64 11]) ∧ Below w.heap.size w w' := by
  have hsz : (ByteArray.mk s.toArray).size = s.length := by simp [ByteArray.size]
  have e1 := eqs_str s []
  rcases hs with hs | hs
  · obtain rfl : s = [] := List.eq_nil_of_length_eq_zero (by omega)
    go_enter Tryd.func11, Tryd.ntmps11
    go_wp2
    go_step3
    go_wp2
    rw [Exit.noGoto_ret]
    refine bodyPost_ret (results_pe rfl Tryd.underlying25 rfl Tryd.underlying26 rfl rfl (ret_pt w 11 [.bool false, .slice none 0 0]).1 szPt (ret_pt w 11 [.bool false, .slice none 0 0]).2) rfl ?_
    exact ⟨rfl, ((Below.refl _ w).alloc (Nat.le_refl _) _).alloc (by simp) _⟩
  · have i1 : (s == []) = false := by
      cases s with
      | nil => simp at hs
      | cons _ _ => rfl
    rw [i1] at e1
    have h200 : (200 : Int) < (s.length : Int) := by omega
    clear i1 hs
    go_enter Tryd.func11, Tryd.ntmps11
    go_wp2
    go_step3
    go_wp2
    all_goals
      rw [Exit.noGoto_ret]
      refine bodyPost_ret (results_pe rfl Tryd.underlying25 rfl Tryd.underlying26 rfl rfl (ret_pt w 11 [.bool false, .slice none 0 0]).1 szPt (ret_pt w 11 [.bool false, .slice none 0 0]).2) rfl ?_
      exact ⟨rfl, ((Below.refl _ w).alloc (Nat.le_refl _) _).alloc (by simp) _⟩
/-- what lies between two rounds of Parse -/
structure PaI (w : World) (s0 R2 R3 Pb : Nat) (b : Bool) (pre : List Pt) (X : World) : Prop where
  low : Below w.heap.size w X
  size : s0 ≤ X.heap.size
  r2 : Blk X R2 25 [.bool false, .slice none 0 0]
  r3 : Blk X R3 26 [.int .i64 0]
  fine : ∀ x ∈ ptL pre, badP x = false
  row : ∃ v, Blk X Pb 25 [.bool b, v] ∧ X.ownsRow s0 9 1 v ((ptL pre).filter keepP).length (stCells ((ptL pre).filter keepP))
structure PaX (w : World) (s0 R2 R3 : Nat) (c : Code) (pre : List Pt) (X : World) : Prop where
  ret : c = .ret
  low : Below w.heap.size w X
  r2 : Blk X R2 25 [.bool false, .slice none 0 0]
  r3 : Blk X R3 26 [.int .i64 11]
  bad : ∃ x ∈ ptL pre, badP x = true
theorem PaI.own {w : World} {s0 R2 R3 Pb B : Nat} {b : Bool} (hB : w.heap.size ≤ B) : OwnFrom B (PaI w s0 R2 R3 Pb b) := fun _ _ _ _ h hg hr =>
  ⟨below_nc h.low hg (fun r e => (hr r e).1) hB (Nat.le_refl _), Nat.le_trans h.size hg.size, blk_nc h.r2 hg (fun r e => (hr r e).2), blk_nc h.r3 hg (fun r e => (hr r e).2), h.fine, by
    obtain ⟨v, h1, h2⟩ := h.row
    exact ⟨v, blk_nc h1 hg (fun r e => (hr r e).2), own_nc h2 hg (fun r e => (hr r e).2)⟩⟩
theorem PaX.own {w : World} {s0 R2 R3 B : Nat} (hB : w.heap.size ≤ B) (c : Code) : OwnFrom B (PaX w s0 R2 R3 c) := fun _ _ _ _ h hg hr =>
  ⟨h.ret, below_nc h.low hg (fun r e => (hr r e).1) hB (Nat.le_refl _), blk_nc h.r2 hg (fun r e => (hr r e).2), blk_nc h.r3 hg (fun r e => (hr r e).2), h.bad⟩
theorem PaI.skip {w : World} {s0 R2 R3 Pb : Nat} {b : Bool} {pre : List Pt} {X : World} {x : Pt} (h : PaI w s0 R2 R3 Pb b pre X) (hx : keepP x.1 = false) : PaI w s0 R2 R3 Pb b (pre ++ [x]) X := by
  refine ⟨h.low, h.size, h.r2, h.r3, ?_, ?_⟩
  · rw [ptL_snoc]
    intro y hy
    rcases List.mem_append.1 hy with hy | hy
    · exact h.fine y hy
    · rw [List.mem_singleton.1 hy]; unfold badP; rw [hx]; rfl
  · have e : (ptL (pre ++ [x])).filter keepP = (ptL pre).filter keepP := by
      rw [ptL_snoc, List.filter_append, List.filter_cons, if_neg (by rw [hx]; simp)]; simp
    rw [e]
    exact h.row
theorem PaI.more {w : World} {s0 R2 R3 Pb : Nat} {b : Bool} {pre : List Pt} {X Y : World} (h : PaI w s0 R2 R3 Pb b pre X) (hb : Below X.heap.size X Y) : PaI w s0 R2 R3 Pb b pre Y := by
  refine ⟨h.low.trans (hb.mono h.low.size), Nat.le_trans h.size hb.size, h.r2.below hb h.r2.lt, h.r3.below hb h.r3.lt, h.fine, ?_⟩
  obtain ⟨v, k1, k2⟩ := h.row
  exact ⟨v, k1.below hb k1.lt, ownS_below k2 hb⟩
theorem PaI.setB {w : World} {s0 R2 R3 Pb Bs : Nat} {b : Bool} {pre : List Pt} {X : World} (h : PaI w s0 R2 R3 Pb b pre X) (v : Value) (h1 : R2 ≠ Bs) (h2 : R3 ≠ Bs) (h3 : Pb ≠ Bs) (h4 : w.heap.size ≤ Bs) (h5 : Bs < s0) : PaI w s0 R2 R3 Pb b pre (X.setCell ⟨Bs, 0, none⟩ v) := by
  have ho := Only.setCell X ⟨Bs, 0, none⟩ v
  refine ⟨h.low.trans (ho.below h4), by rw [ho.size]; exact h.size, h.r2.only ho h1, h.r3.only ho h2, h.fine, ?_⟩
  obtain ⟨u, k1, k2⟩ := h.row
  exact ⟨u, k1.only ho h3, ownS_only k2 ho (fun e => by have := ownS_low k2 Bs e; omega)⟩
theorem keepsFrom_app {X Y : World} {B base n : Nat} {e : TypeId} {v : Value} {xs : List Value} (h : X.ownsRow base e 1 v n xs) (hs : X.heap.size ≤ Y.heap.size) (hsm : ∀ g, v.ownBlock ≠ some g → g < X.heap.size → Y.heap[g]? = X.heap[g]?) : KeepsFrom B X Y := by
  refine ⟨hs, fun k o _ hk hc => (hsm k (fun e => ?_) (Array.getElem?_eq_some_iff.1 hk).1).trans hk⟩
  rcases h.2 with ⟨rfl, h0⟩ | ⟨g, cap, cur, rfl, hb, hh, hrest⟩
  · cases e
  · have e2 : some k = some g := e.symm ▸ rfl
    have e3 := Option.some.inj e2
    subst e3
    rw [hh] at hk
    cases hk
    cases hc
theorem PaI.step {w : World} {s0 R2 R3 Pb m c5 : Nat} {b : Bool} {pre : List Pt} {X Y : World} {x : Pt} {F : List Nm} {A5 : Option Addr} {v6 : Value} {L : List Nat} (h : PaI w s0 R2 R3 Pb b pre X) (hf : badP x.1 = false) (hq : (ptL (pre ++ [x])).filter keepP = F ++ [x.1]) (hm : m = F.length)
    (hk : Blk X Pb 25 [.bool b, .slice A5 m c5]) (ho : X.ownsRow s0 9 1 (.slice A5 m c5) m (stCells F)) (H6 : Y.ownsRow s0 9 1 v6 (m + 1) (stCells F ++ [.string ⟨x.1.toArray⟩])) (hb6 : Below s0 X Y)
    (hsm : ∀ g, (Value.slice A5 m c5).ownBlock ≠ some g → g < X.heap.size → Y.heap[g]? = X.heap[g]?) (l1 : R2 < s0) (l2 : R3 < s0) (l3 : Pb < s0) (l4 : R2 ≠ Pb) (l5 : R3 ≠ Pb) (l6 : w.heap.size ≤ Pb) (hL : ∀ g ∈ L, g < s0) (hPL : Pb ∉ L) (hws : w.heap.size ≤ s0) :
    ∃ A6 c6, v6 = .slice A6 (m + 1) c6 ∧ Y.cell? ⟨Pb, 1, none⟩ = some (.slice A5 m c5) ∧ Y.frozen? ⟨Pb, 1, none⟩ = false ∧
      (KeepsFrom s0 X (Y.setCell ⟨Pb, 1, none⟩ (.slice A6 (m + 1) c6)) ∧ KpB w.heap.size L X (Y.setCell ⟨Pb, 1, none⟩ (.slice A6 (m + 1) c6)) ∧ PaI w s0 R2 R3 Pb b (pre ++ [x]) (Y.setCell ⟨Pb, 1, none⟩ (.slice A6 (m + 1) c6))) := by
  obtain ⟨A6, c6, rfl⟩ := own_sl H6
  have low : ∀ g, g < s0 → Y.heap[g]? = X.heap[g]? := fun g hg => hb6.block g hg
  have hkY : Blk Y Pb 25 [.bool b, .slice A5 m c5] := ⟨(low Pb l3).trans hk.heap⟩
  have hz := Only.setCell Y ⟨Pb, 1, none⟩ (.slice A6 (m + 1) c6)
  have hkp : KpB w.heap.size L X Y := ⟨hb6.mono hws, fun g hg o hgo _ => (low g (hL g hg)).trans hgo⟩
  refine ⟨A6, c6, rfl, hkY.cell? 1, hkY.frozen 1, keepsFrom_trans (keepsFrom_app ho hb6.size hsm) (keepsFrom_set hkY 1 _), hkp.trans (KpB.set hPL l6 1 _), ?_⟩
  refine ⟨(h.low.trans (hb6.mono hws)).trans (hz.below l6), by rw [hz.size]; exact Nat.le_trans h.size hb6.size, Blk.only ⟨(low R2 l1).trans h.r2.heap⟩ hz l4, Blk.only ⟨(low R3 l2).trans h.r3.heap⟩ hz l5, ?_, .slice A6 (m + 1) c6, hkY.set 1 _, ?_⟩
  · rw [ptL_snoc]
    intro y hy
    rcases List.mem_append.1 hy with hy | hy
    · exact h.fine y hy
    · rw [List.mem_singleton.1 hy]; exact hf
  · rw [hq, stCells_snoc, List.length_append, List.length_singleton, ← hm]
    exact ownS_only H6 hz (fun e => by have := ownS_low H6 Pb e; omega)
theorem parse_yes (s : Nm) (w : World) (h1 : 1 ≤ s.length) (h2 : s.length ≤ 200) :
    Calls Tryd.prog 11 #[.string ⟨s.toArray⟩] w fun e w' => ∃ A n c, e = .returned (.tuple #[.agg #[.bool (absS s), .slice A n c], .int .i64 (errS s)]) ∧ Ss w' w'.heap.size A n c (namS s) ∧ Below w.heap.size w w' := by
  have hsz : (ByteArray.mk s.toArray).size = s.length := by simp [ByteArray.size]
  have hne : ¬ s = [] := by intro e; subst e; simp at h1
  have e1 := eqs_str s []
  have i1 : (s == []) = false := by simpa using hne
  rw [i1] at e1
  have h200 : ¬ (200 : Int) < (s.length : Int) := by omega
  have hie : s.isEmpty = false := by simpa using hne
  clear i1
  refine (callsIn_wide (n := 8)).1 (callsIn_of_wp_marks (F := Fence.wide) (n := 8) Tryd.func11 rfl trivial ?_ rfl)
  simp only [Tryd.ntmps11, List.size_toArray, List.length_cons, List.length_nil, Nat.reduceAdd, Nat.reduceSub, Array.replicate_succ, Array.replicate_zero, List.push_toArray, List.append_toArray, List.nil_append, List.cons_append]
  refine wpIn_wide.2 ?_
  obtain ⟨b, hb⟩ : ∃ b, b = slashS s := ⟨_, rfl⟩
  have HPr : Kp _ := ⟨fun W => prefix_any s W⟩
  rw [← hb] at HPr
  have HB0 : Kp _ := ⟨hb⟩
  have HL : Kp (1 ≤ s.length ∧ s.length ≤ 200) := ⟨h1, h2⟩
  clear hb hne h1 h2
  go_wp2
  go_step3
  go_wp2_with (first
    | (go_at_call 23; refine (HPr.out _).mono ?_; rintro e w' ⟨rfl, rfl⟩)
    | (refine wpList_build1 (o := ⟨some 16, _, _, _, _, _⟩) rfl 0 _ rfl rfl (cs := [.bool b, .slice none 0 0]) (built_pt b) ?_))
  go_step3
  go_wp2_with fail
  obtain ⟨w2, hw2⟩ : ∃ w2, w2 = ((w.alloc (.cells #[.bool false, .slice none 0 0] 25)).alloc (.cells #[.int .i64 0] 26)).alloc (.cells #[.bool b, .slice none 0 0] 25) := ⟨_, rfl⟩
  have hr := ret_pt w 0 [.bool false, .slice none 0 0]
  have HR2 : Kp (Blk w2 w.heap.size 25 [.bool false, .slice none 0 0]) := ⟨by rw [hw2]; exact hr.1.alloc _⟩
  have HR3 : Kp (Blk w2 (w.heap.size + 1) 26 [.int .i64 0]) := ⟨by rw [hw2]; exact hr.2.alloc _⟩
  have HPb : Kp (Blk w2 (w.heap.size + 1 + 1) 25 [.bool b, .slice none 0 0]) := ⟨by
    have h := Blk.new ((w.alloc (.cells #[.bool false, .slice none 0 0] 25)).alloc (.cells #[.int .i64 0] 26)) 25 [.bool b, .slice none 0 0]
    rw [World.size_alloc, World.size_alloc] at h
    rw [hw2]; exact h⟩
  have HB2 : Kp (Below w.heap.size w w2) := ⟨by rw [hw2]; exact (((Below.refl _ w).alloc (Nat.le_refl _) _).alloc (by simp) _).alloc (by simp; omega) _⟩
  rw [← hw2]
  clear hr hw2
  obtain ⟨R2, hR2⟩ : ∃ g, g = w.heap.size := ⟨_, rfl⟩
  obtain ⟨R3, hR3⟩ : ∃ g, g = w.heap.size + 1 := ⟨_, rfl⟩
  obtain ⟨Pb, hPb⟩ : ∃ g, g = w.heap.size + 1 + 1 := ⟨_, rfl⟩
  rw [← hPb] at HPb ⊢
  rw [← hR3] at HR3 ⊢
  rw [← hR2] at HR2
  rw [show w.heap.size = R2 from hR2.symm]
  have HLt : Kp (R2 < w2.heap.size ∧ R3 < w2.heap.size ∧ Pb < w2.heap.size ∧ w.heap.size ≤ R2 ∧ w.heap.size ≤ R3 ∧ w.heap.size ≤ Pb ∧ R2 ≠ Pb ∧ R3 ≠ Pb ∧ R2 ≠ R3) := ⟨by
    have h1 := HR2.out.lt
    have h2 := HR3.out.lt
    have h3 := HPb.out.lt
    omega⟩
  have HR2w : Kp (R2 = w.heap.size) := ⟨hR2⟩
  clear hR2 hR3 hPb
  refine (splitseq_any s w2).mono ?_
  rintro r w3 ⟨B, hBs, rfl, hks, hkp, hkv, hb3⟩
  have HB3 : Kp (Below w.heap.size w w3) := ⟨HB2.out.trans (hb3.mono HB2.out.size)⟩
  have HKs : Kp _ := ⟨hks⟩
  have HKp : Kp _ := ⟨hkp⟩
  have HKv : Kp _ := ⟨hkv⟩
  have hWw : w.heap.size ≤ w3.heap.size := HB3.out.size
  have HBz : Kp (w2.heap.size = B ∧ w.heap.size ≤ B ∧ B + 2 < w3.heap.size) := ⟨⟨hBs.symm, by have := HB2.out.size; omega, hkv.lt⟩⟩
  have HI0 : Kp (PaI w w3.heap.size R2 R3 Pb b [] w3) := ⟨⟨HB3.out, Nat.le_refl _, HR2.out.below hb3 HR2.out.lt, HR3.out.below hb3 HR3.out.lt, (fun x hx => by cases hx), _, HPb.out.below hb3 HPb.out.lt, ownS_nil _ _ _ _⟩⟩
  clear hks hkp hkv hb3 hBs HB2 HR2 HR3 HPb
  go_wp2_with fail
  refine (wpIn_wide (n := 8)).1 ?_
  refine wp_rangeC (α := Pt) (gf := 35) (lb := #[.pointer (some ⟨B + 1, 0, none⟩), .pointer (some ⟨B, 0, none⟩), .pointer (some ⟨B + 2, 0, none⟩)]) rfl (enters_of Tryd.func35 (by kernel_rfl) rfl) (R := KpB w.heap.size [B, B + 1, B + 2]) (n₀ := w.heap.size) (fun _ _ _ => KpB.trans) (fun l W o o' h ho hn => KpB.put o' h ho hn)
    (split_stops w.heap.size B (B + 1) (B + 2) s w3 HKs.out HKp.out HKv.out (by omega) (by omega) HBz.out.2.1 HL.out.2) (Below.refl _ _) hWw (by have := HBz.out.2.2; omega) (fun _ => rfl)
    (PaI w w3.heap.size R2 R3 Pb b) (PaX w w3.heap.size R2 R3) (PaI.own hWw) (PaX.own hWw)
    (fun pre X v h => h.setB v (by have := HLt.out; have := HBz.out; omega) (by have := HLt.out; have := HBz.out; omega) (by have := HLt.out; have := HBz.out; omega) HBz.out.2.1 (by have := HBz.out; omega)) HI0.out
    (fun x a' _ => ∃ (t0 t1 t6 t7 t8 t9 t10 t11 t12 t13 t14 t15 t16 t17 t18 t19 t20 t21 t22 t23 t24 t25 t26 t27 t28 t29 t30 t31 t32 t33 t34 t35 t36 : Value), a' = { tmps := #[t0, t1, .pointer (some ⟨R2, 0, none⟩), .pointer (some ⟨R3, 0, none⟩), .pointer (some ⟨Pb, 0, none⟩), .string ⟨x.1.toArray⟩, t6, t7, t8, t9, t10, t11, t12, t13, t14, t15, t16, t17, t18, t19, t20, t21, t22, t23, t24, t25, t26, t27, t28, t29, t30, t31, t32, t33, t34, t35, t36], defers := [] })
    ?hAx ?assign ?body ?done ?stop
  case hAx =>
    rintro x a' _ X Y row h hg hrow
    exact h
  case assign =>
    intro lr pre x X K hi hKK
    simp only [zip_one, List.setIfInBounds_toArray, List.set_cons_succ, List.set_cons_zero]
    refine wpIn_region_lit ?_
    refine list_inRound lr (by intro c h; cases h) rfl fun K1 hK1 => ?_
    go_simp
    refine hK1 _ _ ?_
    clear hK1 K1
    refine wpListIn_nil ?_
    exact hKK _ _ (KeepsFrom.refl _ _) (KpB.refl _) hi ⟨_, _, _, _, _, _, _, _, _, _, _, _, _, _, _, _, _, _, _, _, _, _, _, _, _, _, _, _, _, _, _, _, _, rfl⟩
  case body =>
    rintro lr pre x a' X hlr hi ⟨t0, t1, t6, t7, t8, t9, t10, t11, t12, t13, t14, t15, t16, t17, t18, t19, t20, t21, t22, t23, t24, t25, t26, t27, t28, t29, t30, t31, t32, t33, t34, t35, t36, rfl⟩ hlen
    obtain ⟨⟨x, hx200⟩, rfl⟩ : ∃ y : Pt, x = y := ⟨x, rfl⟩
    dsimp only
    have HI : Kp _ := ⟨hi⟩
    have HPl : Kp (pre.length < (splitS s).length) := ⟨hlen⟩
    have q1 := eqs_str x []
    have q2 := eqs_str x [46]
    have q3 := eqs_str x [46, 46]
    clear hi hlen
    by_cases h1 : x = []
    · subst h1
      have HEnd : Kp _ := ⟨HI.out.skip (x := ⟨[], hx200⟩) rfl⟩
      clear q1 q2 q3 HI
      gi_wp2
      exact ⟨KeepsFrom.refl _ _, KpB.refl _, HEnd.out⟩
    have hxe : x.isEmpty = false := by simpa using h1
    rw [show (x == []) = false by simpa using h1] at q1
    by_cases h2 : x = [46]
    · subst h2
      have HEnd : Kp _ := ⟨HI.out.skip (x := ⟨[46], hx200⟩) rfl⟩
      clear q1 q2 q3 HI
      gi_wp2
      exact ⟨KeepsFrom.refl _ _, KpB.refl _, HEnd.out⟩
    have HKx : Kp (keepP x = true) := ⟨by
      have e1 : (x == []) = false := by simpa using h1
      have e2 : (x == dotL) = false := by simpa [dotL] using h2
      unfold keepP; rw [e1, e2]; rfl⟩
    have i2 : (x == [46]) = false := by simpa using h2
    rw [i2] at q2
    by_cases h3 : x = [46, 46]
    · subst h3
      have HFx : Kp (badP [46, 46] = false) := ⟨dots_bad⟩
      have HNm : Kp (∀ W, _) := ⟨fun W => named_any [46, 46] W (by decide)⟩
      obtain ⟨v, k1, k2⟩ := HI.out.row
      obtain ⟨A5, c5, rfl⟩ := own_sl k2
      have c1 : X.cell? ⟨Pb, 1, none⟩ = some (.slice A5 ((ptL pre).filter keepP).length c5) := k1.cell? 1
      have HEq : Kp ((ptL (pre ++ [(⟨[46, 46], hx200⟩ : Pt)])).filter keepP = (ptL pre).filter keepP ++ [[46, 46]]) := ⟨by
        rw [ptL_snoc, List.filter_append, List.filter_cons, if_pos HKx.out]; simp⟩
      have HCn : Kp (((ptL pre).filter keepP).length ≤ 201) := ⟨by
        have h1 : ((ptL pre).filter keepP).length ≤ (ptL pre).length := List.length_filter_le _ _
        have h2 := HPl.out
        have h3 := longN_count (splitS s)
        rw [longN_split] at h3
        rw [ptL_length] at h1
        have := HL.out.2
        omega⟩
      obtain ⟨F, hF⟩ : ∃ F, F = (ptL pre).filter keepP := ⟨_, rfl⟩
      rw [← hF] at HEq HCn k1 k2 c1
      obtain ⟨m, hm⟩ : ∃ m, m = F.length := ⟨_, rfl⟩
      rw [← hm] at HCn k1 k2 c1
      have HFm : Kp (m = F.length) := ⟨hm⟩
      have f1 : X.frozen? ⟨Pb, 1, none⟩ = false := k1.frozen 1
      have HPk : Kp _ := ⟨k1⟩
      have HOw : Kp _ := ⟨k2⟩
      have hXs : w3.heap.size ≤ X.heap.size := HI.out.size
      clear hF hm k1 k2 q1 q2 q3 h1 h2
      gi_wp2_with (first
        | (gi_at_call 25; refine (CallsIn.inRound lr (callsIn_wide.2 (HNm.out _))).mono ?_; rintro e Y ⟨rfl, hby⟩)
        | (gi_at_builtin
           refine list_inRound lr (by intro c h; cases h) rfl fun K1 hK1 => ?_
           refine step_app1 X rfl elSt rfl _ _ rfl w3.heap.size _ m (stCells F) rfl HOw.out rfl rfl (by have := HCn.out; simp only [maxLen]; omega) (by have := HCn.out; omega) hXs ?_
           intro v6 Y6 H6 hb6 hsm6 hps6 _
           refine hK1 _ _ ?_
           clear hK1 K1
           obtain ⟨A6, c6, rfl, c7, f7, hEnd⟩ := HI.out.step (L := [B, B + 1, B + 2]) (x := ⟨_, hx200⟩) HFx.out HEq.out HFm.out HPk.out HOw.out H6.out hb6 hsm6 (by have := HLt.out; have := HBz.out; omega) (by have := HLt.out; have := HBz.out; omega) (by have := HLt.out; have := HBz.out; omega) (by have := HLt.out; omega) (by have := HLt.out; omega) (by have := HLt.out; omega)
             (fun g hg => by have := HBz.out; simp only [List.mem_cons, List.not_mem_nil, or_false] at hg; omega) (by have := HLt.out; have := HBz.out; simp only [List.mem_cons, List.not_mem_nil, or_false]; omega) hWw
           have HEnd : Kp _ := ⟨hEnd⟩
           clear hEnd H6 hb6 hsm6 hps6 c1 f1))
      exact HEnd.out
    have HD3 : Kp (x ≠ dotsL) := ⟨h3⟩
    have i3 : (x == [46, 46]) = false := by simpa using h3
    rw [i3] at q3
    clear h1 h2 h3
    have HNm : Kp (∀ W, _) := ⟨fun W => named_any x W (by omega)⟩
    cases ho : okNm x with
    | true =>
      rw [ho] at HNm
      have HFx : Kp (badP x = false) := ⟨okNm_bad' ho⟩
      clear ho
      gi_wp2_with (first
        | (refine ⟨trivial, ?_⟩
           gi_at_call 25
           refine (CallsIn.inRound lr (callsIn_wide.2 (HNm.out _))).mono ?_
           rintro e Y ⟨rfl, hby⟩
           have HIY : Kp _ := ⟨HI.out.more hby⟩
           have HKf : Kp (KeepsFrom w3.heap.size X Y ∧ KpB w.heap.size [B, B + 1, B + 2] X Y) := ⟨keepsFrom_below hby, KpB.of_below hby (Nat.le_trans hWw HI.out.size)⟩
           obtain ⟨v, k1, k2⟩ := HIY.out.row
           obtain ⟨A5, c5, rfl⟩ := own_sl k2
           have c1 : Y.cell? ⟨Pb, 1, none⟩ = some (.slice A5 ((ptL pre).filter keepP).length c5) := k1.cell? 1
           have HEq : Kp ((ptL (pre ++ [(⟨x, hx200⟩ : Pt)])).filter keepP = (ptL pre).filter keepP ++ [x]) := ⟨by
             rw [ptL_snoc, List.filter_append, List.filter_cons, if_pos HKx.out]; simp⟩
           have HCn : Kp (((ptL pre).filter keepP).length ≤ 201) := ⟨by
             have h1 : ((ptL pre).filter keepP).length ≤ (ptL pre).length := List.length_filter_le _ _
             have h2 := HPl.out
             have h3 := longN_count (splitS s)
             rw [longN_split] at h3
             rw [ptL_length] at h1
             have := HL.out.2
             omega⟩
           obtain ⟨F, hF⟩ : ∃ F, F = (ptL pre).filter keepP := ⟨_, rfl⟩
           rw [← hF] at HEq HCn k1 k2 c1
           obtain ⟨m, hm⟩ : ∃ m, m = F.length := ⟨_, rfl⟩
           rw [← hm] at HCn k1 k2 c1
           have HFm : Kp (m = F.length) := ⟨hm⟩
           have f1 : Y.frozen? ⟨Pb, 1, none⟩ = false := k1.frozen 1
           have HPk : Kp _ := ⟨k1⟩
           have HOw : Kp _ := ⟨k2⟩
           have hXs : w3.heap.size ≤ Y.heap.size := HIY.out.size
           clear hF hm k1 k2 hby HI HNm)
        | (gi_at_builtin
           refine list_inRound lr (by intro c h; cases h) rfl fun K1 hK1 => ?_
           refine step_app1 Y rfl elSt rfl _ _ rfl w3.heap.size _ m (stCells F) rfl HOw.out rfl rfl (by have := HCn.out; simp only [maxLen]; omega) (by have := HCn.out; omega) hXs ?_
           intro v6 Y6 H6 hb6 hsm6 hps6 _
           refine hK1 _ _ ?_
           clear hK1 K1
           obtain ⟨A6, c6, rfl, c7, f7, hEnd⟩ := HIY.out.step (L := [B, B + 1, B + 2]) (x := ⟨_, hx200⟩) HFx.out HEq.out HFm.out HPk.out HOw.out H6.out hb6 hsm6 (by have := HLt.out; have := HBz.out; omega) (by have := HLt.out; have := HBz.out; omega) (by have := HLt.out; have := HBz.out; omega) (by have := HLt.out; omega) (by have := HLt.out; omega) (by have := HLt.out; omega)
             (fun g hg => by have := HBz.out; simp only [List.mem_cons, List.not_mem_nil, or_false] at hg; omega) (by have := HLt.out; have := HBz.out; simp only [List.mem_cons, List.not_mem_nil, or_false]; omega) hWw
           have HEnd : Kp _ := ⟨hEnd⟩
           clear hEnd H6 hb6 hsm6 hps6 c1 f1))
      exact ⟨keepsFrom_trans HKf.out.1 HEnd.out.1, HKf.out.2.trans HEnd.out.2.1, HEnd.out.2.2⟩
    | false =>
      rw [ho] at HNm
      have HFx : Kp (badP x = true) := ⟨by
        unfold badP
        rw [HKx.out, ho, show (x == dotsL) = false by simpa using HD3.out]; rfl⟩
      clear ho
      have HR2 : Kp _ := ⟨HI.out.r2⟩
      gi_wp2_with (refine ⟨trivial, ?_⟩
                   gi_at_call 25
                   refine (CallsIn.inRound lr (callsIn_wide.2 (HNm.out _))).mono ?_
                   rintro e Y ⟨rfl, hby⟩
                   have HIY : Kp _ := ⟨HI.out.more hby⟩
                   have HKf : Kp (KeepsFrom w3.heap.size X Y ∧ KpB w.heap.size [B, B + 1, B + 2] X Y) := ⟨keepsFrom_below hby, KpB.of_below hby (Nat.le_trans hWw HI.out.size)⟩
                   have c1 : Y.cell? ⟨R2, 0, none⟩ = some (.bool false) := HIY.out.r2.cell? 0
                   have c2 : Y.cell? ⟨R2, 1, none⟩ = some (.slice none 0 0) := HIY.out.r2.cell? 1
                   have f1 : Y.frozen? ⟨R2, 0, none⟩ = false := HIY.out.r2.frozen 0
                   have f2 : Y.frozen? ⟨R2, 1, none⟩ = false := HIY.out.r2.frozen 1
                   have HR2b : Kp (Blk ((Y.setCell ⟨R2, 0, none⟩ (.bool false)).setCell ⟨R2, 1, none⟩ (.slice none 0 0)) R2 25 [.bool false, .slice none 0 0]) := ⟨(HIY.out.r2.set 0 (.bool false)).set 1 (.slice none 0 0)⟩
                   have HR3b : Kp (Blk ((Y.setCell ⟨R2, 0, none⟩ (.bool false)).setCell ⟨R2, 1, none⟩ (.slice none 0 0)) R3 26 [.int .i64 0]) := ⟨(HIY.out.r3.only (Only.setCell _ _ _) (by have := HLt.out; show R3 ≠ R2; omega)).only (Only.setCell _ _ _) (by have := HLt.out; show R3 ≠ R2; omega)⟩
                   have c3 : ((Y.setCell ⟨R2, 0, none⟩ (.bool false)).setCell ⟨R2, 1, none⟩ (.slice none 0 0)).cell? ⟨R3, 0, none⟩ = some (.int .i64 0) := HR3b.out.cell? 0
                   have f3 : ((Y.setCell ⟨R2, 0, none⟩ (.bool false)).setCell ⟨R2, 1, none⟩ (.slice none 0 0)).frozen? ⟨R3, 0, none⟩ = false := HR3b.out.frozen 0
                   have HEnd : Kp (KeepsFrom w3.heap.size X (((Y.setCell ⟨R2, 0, none⟩ (.bool false)).setCell ⟨R2, 1, none⟩ (.slice none 0 0)).setCell ⟨R3, 0, none⟩ (.int .i64 11)) ∧ PaX w w3.heap.size R2 R3 .ret (pre ++ [⟨x, hx200⟩]) (((Y.setCell ⟨R2, 0, none⟩ (.bool false)).setCell ⟨R2, 1, none⟩ (.slice none 0 0)).setCell ⟨R3, 0, none⟩ (.int .i64 11))) := ⟨by
                     have hz := Only.setCell ((Y.setCell ⟨R2, 0, none⟩ (.bool false)).setCell ⟨R2, 1, none⟩ (.slice none 0 0)) ⟨R3, 0, none⟩ (.int .i64 11)
                     refine ⟨keepsFrom_trans HKf.out.1 (keepsFrom_trans (keepsFrom_set HIY.out.r2 0 _) (keepsFrom_trans (keepsFrom_set (HIY.out.r2.set 0 _) 1 _) (keepsFrom_set HR3b.out 0 _))), rfl, ?_, HR2b.out.only hz (by have := HLt.out; show R2 ≠ R3; omega), HR3b.out.set 0 _, ⟨x, by rw [ptL_snoc]; simp, HFx.out⟩⟩
                     have k := HLt.out
                     exact ((HIY.out.low.trans ((Only.setCell Y ⟨R2, 0, none⟩ (.bool false)).below k.2.2.2.1)).trans ((Only.setCell (Y.setCell ⟨R2, 0, none⟩ (.bool false)) ⟨R2, 1, none⟩ (.slice none 0 0)).below k.2.2.2.1)).trans (hz.below k.2.2.2.2.1)⟩
                   clear hby HI HNm)
      exact HEnd.out
  case done =>
    rintro D ys X hD hys hi hKd
    obtain ⟨v, k1, k2⟩ := hi.row
    obtain ⟨A5, c5, rfl⟩ := own_sl k2
    have HOk : Kp (okS s = true) := ⟨okS_of HL.out.1 HL.out.2 (by rw [← hys]; exact hi.fine)⟩
    have HNs : Kp ((ptL ys).filter keepP = namS s) := ⟨by rw [hys, namS_ok HOk.out]⟩
    rw [HNs.out] at k1 k2
    obtain ⟨m, hm⟩ : ∃ m, m = (namS s).length := ⟨_, rfl⟩
    rw [← hm] at k1 k2
    have HR2 : Kp _ := ⟨hi.r2⟩
    have HR3 : Kp _ := ⟨hi.r3⟩
    have HPk : Kp _ := ⟨k1⟩
    have HOw : Kp _ := ⟨k2⟩
    have HLow : Kp _ := ⟨hi.low⟩
    have HKd : Kp _ := ⟨hKd⟩
    have c0 : X.cell? ⟨Pb, 0, none⟩ = some (.bool b) := k1.cell? 0
    have c1 : X.cell? ⟨Pb, 1, none⟩ = some (.slice A5 m c5) := k1.cell? 1
    have d0 : X.cell? ⟨R2, 0, none⟩ = some (.bool false) := hi.r2.cell? 0
    have d1 : X.cell? ⟨R2, 1, none⟩ = some (.slice none 0 0) := hi.r2.cell? 1
    have f0 : X.frozen? ⟨R2, 0, none⟩ = false := hi.r2.frozen 0
    have f1 : X.frozen? ⟨R2, 1, none⟩ = false := hi.r2.frozen 1
    have k := HLt.out
    have HR3b : Kp (Blk ((X.setCell ⟨R2, 0, none⟩ (.bool b)).setCell ⟨R2, 1, none⟩ (.slice A5 m c5)) R3 26 [.int .i64 0]) := ⟨(HR3.out.only (Only.setCell _ _ _) (by show R3 ≠ R2; omega)).only (Only.setCell _ _ _) (by show R3 ≠ R2; omega)⟩
    have g0 : ((X.setCell ⟨R2, 0, none⟩ (.bool b)).setCell ⟨R2, 1, none⟩ (.slice A5 m c5)).cell? ⟨R3, 0, none⟩ = some (.int .i64 0) := HR3b.out.cell? 0
    have g1 : ((X.setCell ⟨R2, 0, none⟩ (.bool b)).setCell ⟨R2, 1, none⟩ (.slice A5 m c5)).frozen? ⟨R3, 0, none⟩ = false := HR3b.out.frozen 0
    clear hi hKd k1 k2 hm hys k
    go_wp2
    rw [Exit.noGoto_ret]
    obtain ⟨Z2, hZ2⟩ : ∃ Z2, Z2 = (X.setCell ⟨R2, 0, none⟩ (.bool b)).setCell ⟨R2, 1, none⟩ (.slice A5 m c5) := ⟨_, rfl⟩
    have k := HLt.out
    have kB := HBz.out
    have hl2 : Below w.heap.size X Z2 := by rw [hZ2]; exact ((Only.setCell X ⟨R2, 0, none⟩ (.bool b)).below k.2.2.2.1).trans ((Only.setCell (X.setCell ⟨R2, 0, none⟩ (.bool b)) ⟨R2, 1, none⟩ (.slice A5 m c5)).below k.2.2.2.1)
    have ho2 : Only R2 X Z2 := by
      rw [hZ2]
      exact Only.trans (Only.setCell X ⟨R2, 0, none⟩ (.bool b)) (Only.setCell (X.setCell ⟨R2, 0, none⟩ (.bool b)) ⟨R2, 1, none⟩ (.slice A5 m c5))
    have hr2 : Blk Z2 R2 25 [.bool b, .slice A5 m c5] := by rw [hZ2]; exact (HR2.out.set 0 _).set 1 _
    have hr3 : Blk Z2 R3 26 [.int .i64 0] := by rw [hZ2]; exact HR3b.out
    rw [← hZ2]
    have hz := Only.setCell Z2 ⟨R3, 0, none⟩ (.int .i64 0)
    have nown : ∀ g, g < w3.heap.size → (Value.slice A5 m c5).ownBlock ≠ some g := fun g hg e => by have := ownS_low HOw.out g e; omega
    have how := ownS_only (ownS_only HOw.out ho2 (nown R2 (by omega))) hz (nown R3 (by omega))
    have hKd2 : (Z2.setCell ⟨R3, 0, none⟩ (.int .i64 0)).heap[D]? = some (.deferred (some [])) := (hz.block D (by show D ≠ R3; omega)).trans ((ho2.block D (by omega)).trans HKd.out)
    refine ⟨by simp, .inl ⟨_, _, rfl, run_takeDeferred hKd2, ?_⟩⟩
    have hgp := grownBy_putObj' (Z2.setCell ⟨R3, 0, none⟩ (.int .i64 0)) D (.deferred none)
    have hrow : ∀ r, some D = some r → ∃ o : Obj, (Z2.setCell ⟨R3, 0, none⟩ (.int .i64 0)).heap[r]? = some o ∧ o.isCells = false := fun r e => by cases e; exact ⟨_, hKd2, rfl⟩
    have q2 : Blk _ R2 25 [.bool b, .slice A5 m c5] := (hr2.only hz (by show R2 ≠ R3; omega)).grown' hgp (fun e => by have := Option.some.inj e; omega)
    have q3 : Blk _ R3 26 [.int .i64 0] := (hr3.set 0 (.int .i64 0)).grown' hgp (fun e => by have := Option.some.inj e; omega)
    obtain ⟨A6, c6, e6, hsp⟩ := Ss.of_own (own_nc how hgp hrow) (fun x hx => by have := (nam_mem hx).2.2.2; omega)
    cases e6
    exact ⟨_, results_pe rfl Tryd.underlying25 rfl Tryd.underlying26 rfl rfl q2 szPt q3, A5, m, c5, by rw [absS_ok HOk.out, errS_ok HOk.out, ← HB0.out], hsp, below_nc ((HLow.out.trans hl2).trans (hz.below k.2.2.2.2.1)) hgp (fun r e => by cases e; exact Nat.le_trans hWw hD) (Nat.le_refl _) (Nat.le_refl _)⟩
  case stop =>
    rintro D cc pre X hD ⟨rr, hp⟩ h hKd
    obtain ⟨rfl, hlow, hr2, hr3, ⟨x, hx, hbx⟩⟩ := h
    have HNo : Kp (okS s = false) := ⟨okS_mem (by rw [← hp]; exact List.mem_append_left _ hx) hbx⟩
    have k := HLt.out
    have kB := HBz.out
    refine wpIn_wide.2 ?_
    go_wp2
    rw [Exit.noGoto_ret]
    refine ⟨by simp, .inl ⟨_, _, rfl, run_takeDeferred hKd, ?_⟩⟩
    have hgp := grownBy_putObj' X D (.deferred none)
    have q2 := hr2.grown' hgp (fun e => by have := Option.some.inj e; omega)
    have q3 := hr3.grown' hgp (fun e => by have := Option.some.inj e; omega)
    refine ⟨_, results_pe rfl Tryd.underlying25 rfl Tryd.underlying26 rfl rfl q2 szPt q3, none, 0, 0, ?_, ?_, below_nc hlow hgp (fun r e => by cases e; exact Nat.le_trans hWw hD) (Nat.le_refl _) (Nat.le_refl _)⟩
    · rw [absS_no HNo.out, errS_no HNo.out]
    · rw [namS_no HNo.out]; exact Ss.zero _ _
theorem parse_any (s : Nm) (w : World) (hs : s.length ≤ 140737488351232) :
    Calls Tryd.prog 11 #[.string ⟨s.toArray⟩] w fun e w' => ∃ A n c, e = .returned (.tuple #[.agg #[.bool (absS s), .slice A n c], .int .i64 (errS s)]) ∧ Ss w' w'.heap.size A n c (namS s) ∧ Below w.heap.size w w' := by
  by_cases h : s.length < 1 ∨ 200 < s.length
  · have ho : okS s = false := by
      rcases h with h | h
      · exact okS_short h
      · exact okS_long h
    refine (parse_no s w h hs).mono ?_
    rintro e w' ⟨rfl, hb⟩
    exact ⟨none, 0, 0, by rw [absS_no ho, errS_no ho], by rw [namS_no ho]; exact Ss.zero _ _, hb⟩
  · exact parse_yes s w (by omega) (by omega)
end
end Go.Proofs.YtaedlaeflliibaaDoor
