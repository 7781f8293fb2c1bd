/- The contract of audit's Same: a range over a function that is left in its first round.
   The contract of audit's Epochs, of nothing: there is one row.
   Lists of what was traced: as the walks read them, and as they came in.
   The first read that is not straight, purely. No program is named here.
   The contract of audit's kept. -/
import Derived.Test.YthpfiieaanioeaaG11
import Derived.Test.YthpfiieaanioeaaG10
import Derived.Test.YthpfiieaanioeaaG01
import Derived.Test.YthpfiieaanioeaaG02
import Derived.Test.YthpfiieaanioeaaG08
import Derived.StillTailTactics
import Derived.Deep.CutRange
namespace Go.Proofs.Ythpfiieaanioeaa
open Go.RowKit Go.Shelf

/-- what lies between two rounds: there was none -/
structure SmI (w w3 : World) (S g : Nat) (pre : List (YIt w3 w.heap.size)) (W : World) : Prop where
  none : pre = []
  size : S ≤ W.heap.size
  below : Below w.heap.size w W
  res : Blk W g 4 [.bool false]
/-- the first round has left -/
structure SmX (w w3 : World) (S g : Nat) (c : Code) (pre : List (YIt w3 w.heap.size)) (W : World) : Prop where
  ret : c = .ret
  some : pre ≠ []
  below : Below w.heap.size w W
  res : Blk W g 4 [.bool false]
theorem SmI.own {w w3 : World} {S g : Nat} (B : Nat) (hS : w.heap.size ≤ B) : OwnFrom B (SmI w w3 S g) := fun _ _ _ _ h hg hrow =>
  ⟨h.none, Nat.le_trans h.size hg.size, below_nc h.below hg (fun r e => (hrow r e).1) hS (Nat.le_refl _), blk_nc h.res hg (fun r e => (hrow r e).2)⟩
theorem SmX.own {w w3 : World} {S g : Nat} (B : Nat) (hS : w.heap.size ≤ B) (c : Code) : OwnFrom B (SmX w w3 S g c) := fun _ _ _ _ h hg hrow =>
  ⟨h.ret, h.some, below_nc h.below hg (fun r e => (hrow r e).1) hS (Nat.le_refl _), blk_nc h.res hg (fun r e => (hrow r e).2)⟩
theorem results_bool {P : Program} {w : World} {tmps : Array Value} {t : TypeId} {fn : Func} {p : Tmp} (hr : fn.results = #[.cell p t]) (ht : P.underlying t = some .bool) {g : Nat} {t' : TypeId} {b : Bool} (hx : tmps.getD p undef = .pointer (some ⟨g, 0, none⟩)) (hb : Blk w g t' [.bool b]) :
    (results fn tmps).run P w = .ok (.bool b) w := by
  have hc : w.cell? ⟨g, 0, none⟩ = some (.bool b) := hb.cell? 0
  have hx' : tmps[p]?.getD undef = .pointer (some ⟨g, 0, none⟩) := by simpa using hx
  simp only [results, hr]
  simp [hx', asAddr, loadVar, isAgg, run_underlying ht, Result.andThen, hc]
set_option maxRecDepth 100000 in
set_option maxHeartbeats 4000000 in
theorem same_any (A : Option Addr) (m c : Nat) (its : List Th) (K : Option Addr) (kn kc : Nat) (bs : List Th) (w : World) (hI : Its w w.heap.size A m c its) (hK : Its w w.heap.size K kn kc bs)
    (hm : m ≤ 4294967296) (hkn : kn ≤ 4294967296) (hbl : ∀ x ∈ its, x.2.length ≤ 4294967296) :
    Calls Try.prog 12 #[.slice A m c, .slice K kn kc] w fun e w' => e = .returned (.bool (sameL its bs)) ∧ Below w.heap.size w w' := by
  have HI : Kp _ := ⟨hI⟩
  have HK : Kp _ := ⟨hK⟩
  have HB : Kp _ := ⟨hbl⟩
  have HL : Kp (its.length = m) := ⟨hI.len⟩
  have HL2 : Kp (bs.length = kn) := ⟨hK.len⟩
  have hm63 := hI.le
  have hk63 := hK.le
  clear hI hK hbl
  refine (callsIn_wide (n := 8)).1 (callsIn_of_wp_marks (F := Fence.wide) (n := 8) Try.func12 rfl trivial ?_ rfl)
  simp only [Try.ntmps12, List.size_toArray, List.length_cons, List.length_nil, Nat.reduceAdd, Nat.reduceSub, Array.replicate_succ, Array.replicate_zero, List.push_toArray, List.append_toArray, List.nil_append, List.cons_append]
  refine wpIn_wide.2 ?_
  go_upto_region 1 with fail
  have hk1 : Blk (w.alloc (.cells #[.bool false] 4)) w.heap.size 4 [.bool false] := Blk.new _ _ _
  have hb1 : Below w.heap.size w (w.alloc (.cells #[.bool false] 4)) := (Below.refl _ _).alloc (Nat.le_refl _) _
  have hs1 : (w.alloc (.cells #[.bool false] 4)).heap.size = w.heap.size + 1 := by simp
  generalize hw1 : w.alloc (.cells #[.bool false] 4) = w1 at *
  clear hw1
  have c0 : w1.cell? ⟨w.heap.size, 0, none⟩ = some (.bool false) := hk1.cell? 0
  have f0 := hk1.frozen 0
  have HK1 : Kp _ := ⟨hk1⟩
  clear hk1
  by_cases hne : m = kn
  · subst hne
    go_wp2_with fail
    refine (without_any A m c K m kc w1).mono ?_
    rintro e w3 ⟨rfl, hw3⟩
    have hb3 : Below w1.heap.size w1 w3 := by rw [hw3]; exact ((Below.refl _ w1).alloc (Nat.le_refl _) _).alloc (by simp) _
    have hs3 : w3.heap.size = w1.heap.size + 2 := by rw [hw3]; simp
    have HBl : Kp (w3.cell? ⟨w1.heap.size, 0, none⟩ = some (.slice A m c)) := ⟨by
      rw [hw3]
      refine (Below.cell ((Below.refl (w1.heap.size + 1) (w1.alloc (.cells #[.slice A m c] 23))).alloc (by simp) _) (p := ⟨w1.heap.size, 0, none⟩) (by show w1.heap.size < w1.heap.size + 1; omega)).trans ?_
      rw [World.cell?_alloc_at _ _ _ _ rfl]; rfl⟩
    have HBk : Kp (w3.cell? ⟨w1.heap.size + 1, 0, none⟩ = some (.slice K m kc)) := ⟨by
      rw [hw3]
      rw [World.cell?_alloc_at _ _ _ _ (by simp)]; rfl⟩
    have hb13 : Below w.heap.size w w3 := hb1.trans (hb3.mono (by omega))
    have HW3 : Kp (SmI w w3 w3.heap.size w.heap.size [] w3) := ⟨⟨rfl, Nat.le_refl _, hb13, HK1.out.below hb3 HK1.out.lt⟩⟩
    have HK3 : Kp (Its w3 w.heap.size K m kc bs) := ⟨HK.out.below hb13⟩
    have HI3 : Kp (Its w3 w.heap.size A m c its) := ⟨HI.out.below hb13⟩
    obtain ⟨Bl, hBl⟩ : ∃ g, g = w1.heap.size := ⟨_, rfl⟩
    obtain ⟨g, hg⟩ : ∃ g, g = w.heap.size := ⟨_, rfl⟩
    rw [← hBl] at HBk HBl hs1 hs3 ⊢
    rw [show w.heap.size = g from hg.symm] at ⊢
    have hwb : w.heap.size ≤ w3.heap.size := by omega
    have n1 : w.heap.size < Bl := by omega
    have n2 : Bl + 1 < w3.heap.size := by omega
    have hgs : g < w3.heap.size := by omega
    have HW3' : Kp (SmI w w3 w3.heap.size g [] w3) := ⟨by rw [hg]; exact HW3.out⟩
    have hgl : g < Bl := by omega
    have hgw : w.heap.size ≤ g := by omega
    clear hw3 hb3 HW3 HK HI hBl hb1 hs1 hb13 hg c0 f0 HK1
    go_wp2_with fail
    refine (wpIn_wide (n := 8)).1 ?_
    refine wpIn_rangeFunc_ownH (F := Fence.wide) (n := 8) rfl (by decide) (gf := 30) (lb := #[.pointer (some ⟨Bl + 1, 0, none⟩), .pointer (some ⟨Bl, 0, none⟩)]) rfl trivial (enters_of Try.func30 (by kernel_rfl) rfl)
      (without_stops (8 - 1) Bl (Bl + 1) w.heap.size A m c its K m kc bs w3 hwb HBl.out HBk.out (by omega) (by omega) HI3.out HK3.out hm hkn HB.out)
      (fun h k => KpW.trans h k) (fun W l o o' hl h hc hw => KpW.put hl h hc hw hwb (by omega) (by omega))
      (Below.refl _ _) (fun _ => rfl) (SmI w w3 w3.heap.size g) (SmX w w3 w3.heap.size g) (SmI.own _ hwb) (SmX.own _ hwb) HW3'.out
      (fun x a' W => ∃ (t0 t1 t2 t3 t5 t6 t7 t8 t9 t10 t11 t12 t13 : Value), a' = { tmps := #[t0, t1, t2, t3, .pointer (some ⟨g, 0, none⟩), t5, t6, t7, t8, t9, t10, t11, t12, t13], defers := [] })
      ?hAx ?assign ?body ?done ?stop
    case hAx =>
      rintro x a' _ X Y row h hg hrow
      exact h
    case assign =>
      intro l pre x W K hi hKK
      simp only [encI, zip_one, List.setIfInBounds_toArray, List.set_cons_succ, List.set_cons_zero]
      refine wpIn_skip ?_
      exact hKK _ _ (KeepsFrom.refl _ _) (KpW.of_below (Below.refl _ _) (by have := hi.size; omega) (by have := hi.size; omega) (by have := hi.size; omega)) hi ⟨_, _, _, _, _, _, _, _, _, _, _, _, _, rfl⟩
    case body =>
      rintro l pre x a' W hl ⟨r, hr⟩ hi ⟨t0, t1, t2, t3, t5, t6, t7, t8, t9, t10, t11, t12, t13, rfl⟩ hlen
      have c0 : W.cell? ⟨g, 0, none⟩ = some (.bool false) := hi.res.cell? 0
      have f0 := hi.res.frozen 0
      refine wpIn_block ?_
      refine wpIn_seq ?_
      refine wpIn_region_lit ?_
      refine list_inRound l (by intro c h; cases h) rfl fun K1 hK1 => ?_
      go_simp
      refine hK1 _ _ ?_
      clear hK1 K1
      refine wpListIn_nil ?_
      refine wpIn_ret ?_
      have hR := Rnd.of_set (S := w3.heap.size) hi.res 0 (.bool false)
      refine ⟨hR.from _, rfl, by simp, hi.below.trans (hR.below hgw hwb), hi.res.set 0 (.bool false)⟩
    case done =>
      rintro Dd ys W hD hys hi hKd
      have HKd : Kp _ := ⟨hKd⟩
      have c0 : W.cell? ⟨g, 0, none⟩ = some (.bool false) := hi.res.cell? 0
      have f0 := hi.res.frozen 0
      have HRs : Kp _ := ⟨hi.res⟩
      have HBw : Kp _ := ⟨hi.below⟩
      have hyn := hi.none
      subst hyn
      have HS : Kp (sameL its bs = true) := ⟨by
        have h0 : minusL its bs = [] := by rw [← hys]; rfl
        unfold sameL
        rw [h0, HL.out, HL2.out]
        simp⟩
      have HDw : Kp (w.heap.size ≤ Dd) := ⟨by omega⟩
      have HDg : Kp (g ≠ Dd) := ⟨by omega⟩
      clear hi hKd hys
      go_wp2
      have hR := Rnd.of_set (S := w3.heap.size) HRs.out 0 (.bool true)
      have hKd2 : (W.setCell ⟨g, 0, none⟩ (.bool true)).heap[Dd]? = some (.deferred (some [])) := ((Only.setCell W ⟨g, 0, none⟩ (.bool true)).block Dd (fun e => HDg.out e.symm)).trans HKd.out
      refine ⟨by simp, .inl ⟨_, _, rfl, run_takeDeferred hKd2, ?_⟩⟩
      have hgp : (W.setCell ⟨g, 0, none⟩ (.bool true)).grownBy ((W.setCell ⟨g, 0, none⟩ (.bool true)).putObj Dd (.deferred none)) (some Dd) := grownBy_putObj' _ Dd _
      have hk9 : Blk ((W.setCell ⟨g, 0, none⟩ (.bool true)).putObj Dd (.deferred none)) g 4 [.bool true] := (HRs.out.set 0 (.bool true)).grown' hgp (fun e => HDg.out (Option.some.inj e).symm)
      exact ⟨_, results_bool rfl Try.underlying4 rfl hk9, by rw [HS.out], below_nc (HBw.out.trans (hR.below hgw hwb)) hgp (fun r e => by cases e; exact HDw.out) (Nat.le_refl _) (Nat.le_refl _)⟩
    case stop =>
      rintro Dd cc pre W hD hp h hKd
      obtain ⟨rfl, hpn, hbw, hrs⟩ := h
      have HS : Kp (sameL its bs = false) := ⟨by
        unfold sameL
        cases hml : minusL its bs with
        | nil =>
          rw [hml] at hp
          have h9 := List.prefix_nil.1 hp
          exact absurd (List.map_eq_nil_iff.1 h9) hpn
        | cons y r => simp⟩
      have HDw : Kp (w.heap.size ≤ Dd) := ⟨by omega⟩
      have HDg : Kp (g ≠ Dd) := ⟨by omega⟩
      refine wpIn_wide.2 ?_
      go_wp2
      refine ⟨by simp, .inl ⟨_, _, rfl, run_takeDeferred hKd, ?_⟩⟩
      have hgp : W.grownBy (W.putObj Dd (.deferred none)) (some Dd) := grownBy_putObj' _ Dd _
      exact ⟨_, results_bool rfl Try.underlying4 rfl (hrs.grown' hgp (fun e => HDg.out (Option.some.inj e).symm)), by rw [HS.out], below_nc hbw hgp (fun r e => by cases e; exact HDw.out) (Nat.le_refl _) (Nat.le_refl _)⟩
  · have HS : Kp (sameL its bs = false) := ⟨by
      unfold sameL
      rw [HL.out, HL2.out]
      simp [hne]⟩
    have hneI : ¬ ((m : Int) = (kn : Int)) := by omega
    have hR := Rnd.of_set (S := w1.heap.size) HK1.out 0 (.bool false)
    go_wp2
    exact ⟨_, results_bool rfl Try.underlying4 rfl (HK1.out.set 0 (.bool false)), by rw [HS.out], hb1.trans (hR.below (Nat.le_refl _) (by omega))⟩
end Go.Proofs.Ythpfiieaanioeaa

namespace Go.Proofs.Ythpfiieaanioeaa
open Go.RowKit Go.Shelf

theorem elR4 : El Try.prog 35 32 (.slice none 0 0) 24 := ⟨Try.underlying35, by kernel_rfl, rfl⟩
theorem rows_any (w : World) : Calls Try.prog 28 #[.slice none 0 0] w fun e w' => e = .returned (.func (.func 41) #[] #[.pointer (some ⟨w.heap.size, 0, none⟩)]) ∧ w' = w.alloc (.cells #[.slice none 0 0] 32) := by
  go_enter Try.func28, Try.ntmps28
  go_wp2
  go_ret
  exact ⟨by simp, rfl⟩
theorem rows_stops (n Bt n₀ : Nat) (w : World) (hBt : w.cell? ⟨Bt, 0, none⟩ = some (.slice none 0 0)) (hl : Bt < w.heap.size) :
    SeqStopsK Fence.wide n Try.prog 41 #[.pointer (some ⟨Bt, 0, none⟩)] (fun _ : Unit => #[.slice none 0 0]) (KpW n₀ Bt Bt) (fun ys => ys = [()]) (fun _ => True) 1 w := fun l J Jx W hW _ _ hY h0 =>
  rows1_in n l Bt n₀ J Jx W hY ((hW.cell (p := ⟨Bt, 0, none⟩) hl).trans hBt) h0
/-- what lies between two rounds -/
structure EpI (w : World) (S g : Nat) (pre : List Unit) (W : World) : Prop where
  size : S ≤ W.heap.size
  below : Below w.heap.size w W
  is : ∃ v xs, Blk W g 35 [v] ∧ W.ownsRow S 32 1 v pre.length xs
theorem EpI.own {w : World} {S g : Nat} (B : Nat) (hS : w.heap.size ≤ B) : OwnFrom B (EpI w S g) := fun _ _ _ _ h hg hrow => by
  obtain ⟨v, xs, h1, h2⟩ := h.is
  exact ⟨Nat.le_trans h.size hg.size, below_nc h.below hg (fun r e => (hrow r e).1) hS (Nat.le_refl _), v, xs, blk_nc h1 hg (fun r e => (hrow r e).2), own_nc h2 hg (fun r e => (hrow r e).2)⟩
section
variable {w : World} {ops : Array Oper} {o : Oper} {a : Act} {Q : Exit → Act → World → Prop}
/-- append of one row, which has just been laid -/
theorem step_appR {K : Act → World → Prop} {C : Prop} (hgd : o.guard = none) (s x : Operand)
    (ho : o.op = .call { callee := .builtin .append, args := #[s, x], argTypes := #[35, 35] })
    (base : Nat) (v : Value) (n : Nat) (xs : List Value) (hs : a.eval s = v) (hown : w.ownsRow base 32 1 v n xs)
    (g : Nat) (y : Value) (hy : y.oneCell' = true) (hx : a.eval x = .slice (some ⟨g, 0, none⟩) 1 1) (hk : w.cell? ⟨g, 0, none⟩ = some y)
    (hn : n ≤ 4294967296) (hbase : base ≤ w.heap.size)
    (h : ∀ v' w', w'.ownsRow base 32 1 v' (n + 1) (xs ++ [y]) → w.grownBy w' v.ownBlock → K (a.put o.dst v') w') :
    if Region.wanted o (yielded ops a.tmps) = true then Oper.wp Try.prog o a w K Q else C := by
  have hw : Region.wanted o (yielded ops a.tmps) = true := by simp [Region.wanted, hgd]
  rw [if_pos hw]
  obtain ⟨i, hi, hz0, hz1, hz2⟩ := info_parts elR4.info
  obtain ⟨v', w', hrun, h2, h3, _, h5⟩ := run_append_own_at (P := Try.prog) w base 35 o.type 32 i (.slice none 0 0) 1 24 Try.underlying35 hi hz0 hz1 hz2 rfl (by decide) v n xs hown ⟨g, 0, none⟩ 1 1 [y] rfl
    (fun j u hu => by
      cases j with
      | zero => simp at hu; subst hu; exact hk
      | succ j => simp at hu) (fun c hc => by simp at hc; subst hc; exact hy) (by simp only [maxLen]; omega) (by omega) hbase
  unfold Oper.wp execOp
  simp only [ho, resolve, invoke, builtin, Sem.run_bind, Sem.run_pure, Result.andThen_ok, List.map_toArray, List.map_cons, List.map_nil, hs, hx, hrun]
  exact h v' w' h2 h3
end
set_option maxRecDepth 100000 in
set_option maxHeartbeats 4000000 in
theorem epochs_nil (w : World) : Calls Try.prog 18 #[.slice none 0 0] w fun e w' => ∃ A c, e = .returned (.slice A 1 c) ∧ Below w.heap.size w w' := by
  refine (callsIn_wide (n := 8)).1 (callsIn_of_wp_marks (F := Fence.wide) (n := 8) Try.func18 rfl trivial ?_ rfl)
  simp only [Try.ntmps18, List.size_toArray, List.length_cons, List.length_nil, Nat.reduceAdd, Nat.reduceSub, Array.replicate_succ, Array.replicate_zero, List.push_toArray, List.append_toArray, List.nil_append, List.cons_append]
  refine wpIn_wide.2 ?_
  go_upto_region 2 with fail
  have hk1 : Blk (w.alloc (.cells #[.slice none 0 0] 35)) w.heap.size 35 [.slice none 0 0] := Blk.new _ _ _
  have hb1 : Below w.heap.size w (w.alloc (.cells #[.slice none 0 0] 35)) := (Below.refl _ _).alloc (Nat.le_refl _) _
  have hs1 : (w.alloc (.cells #[.slice none 0 0] 35)).heap.size = w.heap.size + 1 := by simp
  generalize hw1 : w.alloc (.cells #[.slice none 0 0] 35) = w1 at *
  clear hw1
  go_wp2_with fail
  refine (rows_any w1).mono ?_
  rintro e w3 ⟨rfl, hw3⟩
  have hb3 : Below w1.heap.size w1 w3 := by rw [hw3]; exact (Below.refl _ w1).alloc (Nat.le_refl _) _
  have hs3 : w3.heap.size = w1.heap.size + 1 := by rw [hw3]; simp
  have HBt : Kp (w3.cell? ⟨w1.heap.size, 0, none⟩ = some (.slice none 0 0)) := ⟨by
    rw [hw3]
    rw [World.cell?_alloc_at _ _ _ _ rfl]; rfl⟩
  have hb13 : Below w.heap.size w w3 := hb1.trans (hb3.mono (by omega))
  have HW3 : Kp (EpI w w3.heap.size w.heap.size [] w3) := ⟨⟨Nat.le_refl _, hb13, _, [], hk1.below hb3 hk1.lt, World.ownsRow_nil _ _ _ _⟩⟩
  obtain ⟨Bt, hBt⟩ : ∃ g, g = w1.heap.size := ⟨_, rfl⟩
  obtain ⟨g, hg⟩ : ∃ g, g = w.heap.size := ⟨_, rfl⟩
  rw [← hBt] at HBt hs1 hs3 ⊢
  rw [show w.heap.size = g from hg.symm] at ⊢
  have hwb : w.heap.size ≤ w3.heap.size := by omega
  have n2 : Bt < w3.heap.size := by omega
  have hgs : g < w3.heap.size := by omega
  have hgl : g < Bt := by omega
  have hgw : w.heap.size ≤ g := by omega
  have HW3' : Kp (EpI w w3.heap.size g [] w3) := ⟨by rw [hg]; exact HW3.out⟩
  clear hw3 hb3 HW3 hBt hk1 hb1 hs1 hb13 hg
  go_wp2_with fail
  refine (wpIn_wide (n := 8)).1 ?_
  refine wpIn_rangeFunc_ownH (F := Fence.wide) (n := 8) rfl (by decide) (gf := 41) (lb := #[.pointer (some ⟨Bt, 0, none⟩)]) rfl trivial (enters_of Try.func41 (by kernel_rfl) rfl)
    (rows_stops (8 - 1) Bt w.heap.size w3 HBt.out n2)
    (fun h k => KpW.trans h k) (fun W l o o' hl h hc hw => KpW.put hl h hc hw hwb (by omega) (by omega))
    (Below.refl _ _) (fun _ => rfl) (EpI w w3.heap.size g) (fun _ _ _ => False) (EpI.own _ hwb) (fun _ _ _ _ _ h _ _ => h) HW3'.out
    (fun x a' W => ∃ (t0 t1 t2 t5 t6 t7 t8 t9 t10 t11 t12 t13 : Value), a' = { tmps := #[t0, t1, t2, .pointer (some ⟨g, 0, none⟩), .slice none 0 0, t5, t6, t7, t8, t9, t10, t11, t12, t13], defers := [] })
    ?hAx ?assign ?body ?done ?stop
  case hAx =>
    rintro x a' _ X Y row h hg hrow
    exact h
  case assign =>
    intro l pre x W K hi hKK
    simp only [zip_one, List.setIfInBounds_toArray, List.set_cons_succ, List.set_cons_zero]
    refine wpIn_region_lit ?_
    refine list_inRound l (by intro c h; cases h) rfl fun K1 hK1 => ?_
    go_simp
    refine hK1 _ _ ?_
    clear hK1 K1
    refine wpListIn_nil ?_
    exact hKK _ _ (KeepsFrom.refl _ _) (KpW.of_below (Below.refl _ _) (by have := hi.size; omega) (by have := hi.size; omega) (by have := hi.size; omega)) hi ⟨_, _, _, _, _, _, _, _, _, _, _, _, rfl⟩
  case body =>
    rintro l pre x a' W hl ⟨r, hr⟩ hi ⟨t0, t1, t2, t5, t6, t7, t8, t9, t10, t11, t12, t13, rfl⟩ hlen
    have hsz := hi.size
    obtain ⟨v, xs, h1, h2⟩ := hi.is
    have HPl : Kp (pre.length = 0) := ⟨by omega⟩
    have HBlw : Kp (Below w.heap.size w W) := ⟨hi.below⟩
    have HBx : Kp (Blk W.drew g 35 [v]) := ⟨h1.drew⟩
    have hdr : Below W.heap.size W W.drew := (Below.refl _ _).drew
    have HOw : Kp (W.drew.ownsRow w3.heap.size 32 1 v pre.length xs) := ⟨own_kept h2 hdr⟩
    have HRd : Kp (Rnd w3.heap.size g W W.drew) := ⟨Rnd.of_below hdr hsz⟩
    have hszS : w3.heap.size ≤ W.drew.heap.size := hsz
    have hBS : Below W.drew.heap.size W.drew W.drew := Below.refl _ _
    clear h1 h2 hdr hi hr hl hlen
    refine wpIn_block ?_
    refine region_inRound l (by rintro ⟨a, w, h⟩; exact h) (by kernel_rfl) (by kernel_rfl) ?_
    generalize W.drew = wS at *
    refine wpAny_take (i := 1) (oi := ⟨some 9, _, _, _, _, _⟩) (v := ?_) rfl (by kernel_rfl) (by kernel_rfl) (by kernel_rfl) (fun _ _ _ h => h) (Or.inl ⟨by rfl, by intro w; go_simp; try rfl⟩) ?_
    try simp only [Act.put, List.setIfInBounds_toArray, List.set_cons_zero, List.set_cons_succ]
    refine wpAny_ready (rs := [0, 2]) (by kernel_rfl) (by simp) ?_
    refine AllReady.cons (o := ⟨some 8, _, _, _, _, _⟩) rfl (fun K hK => ?_) (AllReady.cons (o := ⟨some 10, _, _, _, _, _⟩) rfl (fun K hK => ?_) AllReady.nil)
    · have c0 := HBx.out.cell? 0
      simp only [List.getElem?_cons_zero] at c0
      go_simp
      refine hK _ _ ?_
      clear hK K c0
      try simp only [Act.put, List.setIfInBounds_toArray, List.set_cons_zero, List.set_cons_succ]
      refine wpAny_ready (rs := [2]) (by kernel_rfl) (by simp) ?_
      refine AllReady.cons (o := ⟨some 10, _, _, _, _, _⟩) rfl (fun K hK => ?_) AllReady.nil
      go_simp
      refine (apart_nil wS).mono ?_
      rintro e w62 ⟨A9, c9, rfl, hb'⟩
      refine hK _ _ ?_
      clear hK K
      try simp only [Act.put, List.setIfInBounds_toArray, List.set_cons_zero, List.set_cons_succ]
      replace HBx : Kp _ := ⟨HBx.out.below hb' HBx.out.lt⟩
      replace HRd : Kp _ := ⟨HRd.out.trans (Rnd.of_below hb' (Nat.le_trans hszS hBS.size))⟩
      replace hBS := hBS.trans (hb'.mono hBS.size)
      clear hb'
      refine wpAny_ready (rs := [3]) (by kernel_rfl) (by simp) ?_
      refine AllReady.cons (o := ⟨some 11, _, _, _, _, _⟩) rfl (fun K hK => ?_) AllReady.nil
      go_simp
      refine hK _ _ ?_
      clear hK K
      try simp only [Act.put, List.setIfInBounds_toArray, List.set_cons_zero, List.set_cons_succ]
      have hb' : Below w62.heap.size w62 (w62.alloc (.cells #[.slice A9 0 c9] 32)) := (Below.refl _ _).alloc (Nat.le_refl _) _
      have HN9 : Kp ((w62.alloc (.cells #[.slice A9 0 c9] 32)).cell? ⟨w62.heap.size, 0, none⟩ = some (.slice A9 0 c9)) := ⟨(Blk.new w62 32 [.slice A9 0 c9]).cell? 0⟩
      replace HBx : Kp _ := ⟨HBx.out.below hb' HBx.out.lt⟩
      replace HRd : Kp _ := ⟨HRd.out.trans (Rnd.of_below hb' (Nat.le_trans hszS hBS.size))⟩
      replace hBS := hBS.trans (hb'.mono hBS.size)
      clear hb'
      generalize w62.alloc (.cells #[.slice A9 0 c9] 32) = w63 at *
      generalize w62.heap.size = g9 at *
      refine wpAny_ready (rs := [4]) (by kernel_rfl) (by simp) ?_
      refine AllReady.cons (o := ⟨some 12, _, _, _, _, _⟩) rfl (fun K hK => ?_) AllReady.nil
      have hOw9 := own_kept HOw.out hBS
      have hsz9 := Nat.le_trans hszS hBS.size
      refine step_appR rfl (.tmp 8) (.tmp 11) rfl w3.heap.size v pre.length xs rfl hOw9 g9 (.slice A9 0 c9) rfl rfl HN9.out (by rw [HPl.out]; omega) hsz9 ?_
      intro v9 w64 hown9 hg9
      refine hK _ _ ?_
      clear hK K
      try simp only [Act.put, List.setIfInBounds_toArray, List.set_cons_zero, List.set_cons_succ]
      replace HBx : Kp _ := ⟨HBx.out.grown' hg9 (own_low hOw9 hgs)⟩
      replace HRd : Kp _ := ⟨HRd.out.trans (Rnd.of_own hOw9 hg9 hsz9)⟩
      have HOn : Kp _ := ⟨hown9⟩
      obtain ⟨A10, c10, rfl⟩ := own_sl hown9
      clear hOw9 hown9 hg9 HN9 hBS
      refine wpAny_ready (rs := [5]) (by kernel_rfl) (by simp) ?_
      refine AllReady.cons (o := ⟨none, _, _, _, _, _⟩) rfl (fun K hK => ?_) AllReady.nil
      have c0 := HBx.out.cell? 0
      have f0 := HBx.out.frozen 0
      simp only [List.getElem?_cons_zero] at c0
      go_simp
      refine hK _ _ ?_
      clear hK K c0 f0
      try simp only [Act.put]
      refine wpAny_done (by kernel_rfl) ?_ _
      have hk10 := HBx.out.set 0 (.slice A10 (pre.length + 1) c10)
      have ho10 := Only.setCell w64 ⟨g, 0, none⟩ (.slice A10 (pre.length + 1) c10)
      have hR10 := HRd.out.trans (Rnd.of_set (S := w3.heap.size) HBx.out 0 (.slice A10 (pre.length + 1) c10))
      refine ⟨hR10.from _, hR10.kpW (by omega) hwb (by omega) (by omega) (by omega) (by omega), ⟨Nat.le_trans hsz hR10.others.size, HBlw.out.trans (hR10.below (by omega) hwb), _, xs ++ [.slice A9 0 c9], hk10, ?_⟩⟩
      rw [List.length_append, List.length_singleton]; exact own_only HOn.out HBx.out (by decide) ho10
    · go_simp
      refine (apart_nil wS).mono ?_
      rintro e w66 ⟨A9, c9, rfl, hb'⟩
      refine hK _ _ ?_
      clear hK K
      try simp only [Act.put, List.setIfInBounds_toArray, List.set_cons_zero, List.set_cons_succ]
      replace HBx : Kp _ := ⟨HBx.out.below hb' HBx.out.lt⟩
      replace HRd : Kp _ := ⟨HRd.out.trans (Rnd.of_below hb' (Nat.le_trans hszS hBS.size))⟩
      replace hBS := hBS.trans (hb'.mono hBS.size)
      clear hb'
      refine wpAny_ready (rs := [0, 3]) (by kernel_rfl) (by simp) ?_
      refine AllReady.cons (o := ⟨some 8, _, _, _, _, _⟩) rfl (fun K hK => ?_) (AllReady.cons (o := ⟨some 11, _, _, _, _, _⟩) rfl (fun K hK => ?_) AllReady.nil)
      · have c0 := HBx.out.cell? 0
        simp only [List.getElem?_cons_zero] at c0
        go_simp
        refine hK _ _ ?_
        clear hK K c0
        try simp only [Act.put, List.setIfInBounds_toArray, List.set_cons_zero, List.set_cons_succ]
        refine wpAny_ready (rs := [3]) (by kernel_rfl) (by simp) ?_
        refine AllReady.cons (o := ⟨some 11, _, _, _, _, _⟩) rfl (fun K hK => ?_) AllReady.nil
        go_simp
        refine hK _ _ ?_
        clear hK K
        try simp only [Act.put, List.setIfInBounds_toArray, List.set_cons_zero, List.set_cons_succ]
        have hb' : Below w66.heap.size w66 (w66.alloc (.cells #[.slice A9 0 c9] 32)) := (Below.refl _ _).alloc (Nat.le_refl _) _
        have HN9 : Kp ((w66.alloc (.cells #[.slice A9 0 c9] 32)).cell? ⟨w66.heap.size, 0, none⟩ = some (.slice A9 0 c9)) := ⟨(Blk.new w66 32 [.slice A9 0 c9]).cell? 0⟩
        replace HBx : Kp _ := ⟨HBx.out.below hb' HBx.out.lt⟩
        replace HRd : Kp _ := ⟨HRd.out.trans (Rnd.of_below hb' (Nat.le_trans hszS hBS.size))⟩
        replace hBS := hBS.trans (hb'.mono hBS.size)
        clear hb'
        generalize w66.alloc (.cells #[.slice A9 0 c9] 32) = w68 at *
        generalize w66.heap.size = g9 at *
        refine wpAny_ready (rs := [4]) (by kernel_rfl) (by simp) ?_
        refine AllReady.cons (o := ⟨some 12, _, _, _, _, _⟩) rfl (fun K hK => ?_) AllReady.nil
        have hOw9 := own_kept HOw.out hBS
        have hsz9 := Nat.le_trans hszS hBS.size
        refine step_appR rfl (.tmp 8) (.tmp 11) rfl w3.heap.size v pre.length xs rfl hOw9 g9 (.slice A9 0 c9) rfl rfl HN9.out (by rw [HPl.out]; omega) hsz9 ?_
        intro v9 w69 hown9 hg9
        refine hK _ _ ?_
        clear hK K
        try simp only [Act.put, List.setIfInBounds_toArray, List.set_cons_zero, List.set_cons_succ]
        replace HBx : Kp _ := ⟨HBx.out.grown' hg9 (own_low hOw9 hgs)⟩
        replace HRd : Kp _ := ⟨HRd.out.trans (Rnd.of_own hOw9 hg9 hsz9)⟩
        have HOn : Kp _ := ⟨hown9⟩
        obtain ⟨A10, c10, rfl⟩ := own_sl hown9
        clear hOw9 hown9 hg9 HN9 hBS
        refine wpAny_ready (rs := [5]) (by kernel_rfl) (by simp) ?_
        refine AllReady.cons (o := ⟨none, _, _, _, _, _⟩) rfl (fun K hK => ?_) AllReady.nil
        have c0 := HBx.out.cell? 0
        have f0 := HBx.out.frozen 0
        simp only [List.getElem?_cons_zero] at c0
        go_simp
        refine hK _ _ ?_
        clear hK K c0 f0
        try simp only [Act.put]
        refine wpAny_done (by kernel_rfl) ?_ _
        have hk10 := HBx.out.set 0 (.slice A10 (pre.length + 1) c10)
        have ho10 := Only.setCell w69 ⟨g, 0, none⟩ (.slice A10 (pre.length + 1) c10)
        have hR10 := HRd.out.trans (Rnd.of_set (S := w3.heap.size) HBx.out 0 (.slice A10 (pre.length + 1) c10))
        refine ⟨hR10.from _, hR10.kpW (by omega) hwb (by omega) (by omega) (by omega) (by omega), ⟨Nat.le_trans hsz hR10.others.size, HBlw.out.trans (hR10.below (by omega) hwb), _, xs ++ [.slice A9 0 c9], hk10, ?_⟩⟩
        rw [List.length_append, List.length_singleton]; exact own_only HOn.out HBx.out (by decide) ho10
      · go_simp
        refine hK _ _ ?_
        clear hK K
        try simp only [Act.put, List.setIfInBounds_toArray, List.set_cons_zero, List.set_cons_succ]
        have hb' : Below w66.heap.size w66 (w66.alloc (.cells #[.slice A9 0 c9] 32)) := (Below.refl _ _).alloc (Nat.le_refl _) _
        have HN9 : Kp ((w66.alloc (.cells #[.slice A9 0 c9] 32)).cell? ⟨w66.heap.size, 0, none⟩ = some (.slice A9 0 c9)) := ⟨(Blk.new w66 32 [.slice A9 0 c9]).cell? 0⟩
        replace HBx : Kp _ := ⟨HBx.out.below hb' HBx.out.lt⟩
        replace HRd : Kp _ := ⟨HRd.out.trans (Rnd.of_below hb' (Nat.le_trans hszS hBS.size))⟩
        replace hBS := hBS.trans (hb'.mono hBS.size)
        clear hb'
        generalize w66.alloc (.cells #[.slice A9 0 c9] 32) = w71 at *
        generalize w66.heap.size = g9 at *
        refine wpAny_ready (rs := [0]) (by kernel_rfl) (by simp) ?_
        refine AllReady.cons (o := ⟨some 8, _, _, _, _, _⟩) rfl (fun K hK => ?_) AllReady.nil
        have c0 := HBx.out.cell? 0
        simp only [List.getElem?_cons_zero] at c0
        go_simp
        refine hK _ _ ?_
        clear hK K c0
        try simp only [Act.put, List.setIfInBounds_toArray, List.set_cons_zero, List.set_cons_succ]
        refine wpAny_ready (rs := [4]) (by kernel_rfl) (by simp) ?_
        refine AllReady.cons (o := ⟨some 12, _, _, _, _, _⟩) rfl (fun K hK => ?_) AllReady.nil
        have hOw9 := own_kept HOw.out hBS
        have hsz9 := Nat.le_trans hszS hBS.size
        refine step_appR rfl (.tmp 8) (.tmp 11) rfl w3.heap.size v pre.length xs rfl hOw9 g9 (.slice A9 0 c9) rfl rfl HN9.out (by rw [HPl.out]; omega) hsz9 ?_
        intro v9 w73 hown9 hg9
        refine hK _ _ ?_
        clear hK K
        try simp only [Act.put, List.setIfInBounds_toArray, List.set_cons_zero, List.set_cons_succ]
        replace HBx : Kp _ := ⟨HBx.out.grown' hg9 (own_low hOw9 hgs)⟩
        replace HRd : Kp _ := ⟨HRd.out.trans (Rnd.of_own hOw9 hg9 hsz9)⟩
        have HOn : Kp _ := ⟨hown9⟩
        obtain ⟨A10, c10, rfl⟩ := own_sl hown9
        clear hOw9 hown9 hg9 HN9 hBS
        refine wpAny_ready (rs := [5]) (by kernel_rfl) (by simp) ?_
        refine AllReady.cons (o := ⟨none, _, _, _, _, _⟩) rfl (fun K hK => ?_) AllReady.nil
        have c0 := HBx.out.cell? 0
        have f0 := HBx.out.frozen 0
        simp only [List.getElem?_cons_zero] at c0
        go_simp
        refine hK _ _ ?_
        clear hK K c0 f0
        try simp only [Act.put]
        refine wpAny_done (by kernel_rfl) ?_ _
        have hk10 := HBx.out.set 0 (.slice A10 (pre.length + 1) c10)
        have ho10 := Only.setCell w73 ⟨g, 0, none⟩ (.slice A10 (pre.length + 1) c10)
        have hR10 := HRd.out.trans (Rnd.of_set (S := w3.heap.size) HBx.out 0 (.slice A10 (pre.length + 1) c10))
        refine ⟨hR10.from _, hR10.kpW (by omega) hwb (by omega) (by omega) (by omega) (by omega), ⟨Nat.le_trans hsz hR10.others.size, HBlw.out.trans (hR10.below (by omega) hwb), _, xs ++ [.slice A9 0 c9], hk10, ?_⟩⟩
        rw [List.length_append, List.length_singleton]; exact own_only HOn.out HBx.out (by decide) ho10
  case done =>
    rintro Dd ys W hD rfl hi hKd
    obtain ⟨v, xs, h1, h2⟩ := hi.is
    have HOw : Kp _ := ⟨h2⟩
    have HBw : Kp _ := ⟨hi.below⟩
    have HKd : Kp _ := ⟨hKd⟩
    have c0 : W.cell? ⟨g, 0, none⟩ = some v := h1.cell? 0
    have HDw : Kp (w.heap.size ≤ Dd) := ⟨by omega⟩
    clear hi h1 h2 hKd
    go_wp2
    refine ⟨by simp, .inl ⟨_, _, rfl, run_takeDeferred HKd.out, ?_⟩⟩
    have hgp : W.grownBy (W.putObj Dd (.deferred none)) (some Dd) := grownBy_putObj' W Dd _
    obtain ⟨A', c', rfl⟩ := own_sl HOw.out
    exact ⟨_, results_tmp rfl _ _ _, A', c', rfl, below_nc HBw.out hgp (fun r e => by cases e; exact HDw.out) (Nat.le_refl _) (Nat.le_refl _)⟩
  case stop =>
    rintro Dd cc pre W hD hp h _
    exact h.elim
end Go.Proofs.Ythpfiieaanioeaa

namespace Go.Proofs.Ythpfiieaanioeaa
open Go.ChangeShapes Go.WideShapes Go.ChangeAt Go.RowKit Go.Deep

structure Tq where
  kind : Int
  pl : Int
  sl : Int
  bs : List UInt8
instance : Inhabited Tq := ⟨⟨0, 0, 0, []⟩⟩
structure TqOk (d : Tq) : Prop where
  kind : (Lit.int .i64 d.kind).wf = true
  pl : (Lit.int .i64 d.pl).wf = true
  sl : (Lit.int .i64 d.sl).wf = true
/-- one of them lies at o of block b -/
structure TqAt (w : World) (B b o : Nat) (d : Tq) (A : Option Addr) (n c : Nat) : Prop where
  kind : w.cell? ⟨b, o, none⟩ = some (.int .i64 d.kind)
  pl : w.cell? ⟨b, o + 1, none⟩ = some (.int .i64 d.pl)
  sl : w.cell? ⟨b, o + 2, none⟩ = some (.int .i64 d.sl)
  sli : w.cell? ⟨b, o + 3, none⟩ = some (.slice A n c)
  bytes : Bs w B A n c d.bs
/-- A slice of n of room c at A reads as the things ds; all lies below block B. -/
structure Trs (w : World) (B : Nat) (A : Option Addr) (n c : Nat) (ds : List Tq) : Prop where
  len : ds.length = n
  cap : n ≤ c
  max : c ≤ maxLen
  nil : A = none → c = 0
  ok : ∀ x ∈ ds, TqOk x
  cells : 0 < n → ∃ b o, A = some ⟨b, o, none⟩ ∧ b < B ∧ ∀ j (h : j < ds.length), ∃ A' n' c', TqAt w B b (o + j * 4) ds[j] A' n' c'
section
variable {w w' : World} {B B' b o : Nat} {A : Option Addr} {n c : Nat} {d : Tq} {ds : List Tq}
theorem TqAt.keep (h : TqAt w B b o d A n c) (hb : b < B) (hk : ∀ p : Addr, p.block < B → w'.cell? p = w.cell? p) : TqAt w' B b o d A n c :=
  ⟨(hk _ hb).trans h.kind, (hk _ hb).trans h.pl, (hk _ hb).trans h.sl, (hk _ hb).trans h.sli, h.bytes.keep hk⟩
theorem Trs.le (h : Trs w B A n c ds) : n ≤ 9223372036854775807 := by have := h.cap; have := h.max; simp only [maxLen] at this; omega
theorem Trs.below (h : Trs w B A n c ds) (hb : Below B w w') : Trs w' B A n c ds :=
  ⟨h.len, h.cap, h.max, h.nil, h.ok, fun h0 => by
    obtain ⟨b, o, hA, hbl, hc⟩ := h.cells h0
    refine ⟨b, o, hA, hbl, fun j hj => ?_⟩
    obtain ⟨A', n', c', h1⟩ := hc j hj
    exact ⟨A', n', c', h1.keep hbl fun _ hp => hb.cell hp⟩⟩
theorem Trs.more (h : Trs w B A n c ds) (hB : B ≤ B') : Trs w B' A n c ds :=
  ⟨h.len, h.cap, h.max, h.nil, h.ok, fun h0 => by
    obtain ⟨b, o, hA, hbl, hc⟩ := h.cells h0
    refine ⟨b, o, hA, by omega, fun j hj => ?_⟩
    obtain ⟨A', n', c', h1⟩ := hc j hj
    exact ⟨A', n', c', ⟨h1.kind, h1.pl, h1.sl, h1.sli, h1.bytes.more hB⟩⟩⟩
/-- the first k of them -/
theorem Trs.cut (h : Trs w B A n c ds) {k : Nat} (hk : k ≤ n) : Trs w B A k c (ds.take k) := by
  have hl := h.len
  refine ⟨by simp; omega, by have := h.cap; omega, h.max, h.nil, fun x hx => h.ok x (List.mem_of_mem_take hx), fun h0 => ?_⟩
  obtain ⟨b, o, hA, hb, hc⟩ := h.cells (by omega)
  refine ⟨b, o, hA, hb, fun j hj => ?_⟩
  have hj2 : j < ds.length := by simp at hj; omega
  obtain ⟨A', n', c', h1⟩ := hc j hj2
  refine ⟨A', n', c', ?_⟩
  rw [List.getElem_take]
  exact h1
theorem Trs.at (h : Trs w B A n c ds) {i : Nat} (hi : i < n) : ∃ b o A' n' c', A = some ⟨b, o, none⟩ ∧ b < B ∧ TqAt w B b (o + i * 4) (ds[i]'(by have := h.len; omega)) A' n' c' := by
  obtain ⟨b, o, hA, hb, hc⟩ := h.cells (by omega)
  obtain ⟨A', n', c', h1⟩ := hc i (by have := h.len; omega)
  exact ⟨b, o, A', n', c', hA, hb, h1⟩
end

/-- the shape of one of them -/
structure TrT (P : Program) (e q : TypeId) (f0 f1 f2 f3 : Field) : Prop where
  ty : P.underlying e = some (.struct #[f0, f1, f2, f3])
  t0 : P.underlying f0.type = some (.int .i64)
  t1 : P.underlying f1.type = some (.int .i64)
  t2 : P.underlying f2.type = some (.int .i64)
  t3 : P.underlying f3.type = some (.slice q)
  tq : P.underlying q = some (.int .u8)
  o0 : f0.offset = 0
  o1 : f1.offset = 1
  o2 : f2.offset = 2
  o3 : f3.offset = 3
  c0 : P.cellsOf f0.type = 1
  c1 : P.cellsOf f1.type = 1
  c2 : P.cellsOf f2.type = 1
  c3 : P.cellsOf f3.type = 1
  cq : P.cellsOf q = 1
  ce : P.cellsOf e = 4
  bq : P.bytesOf q = 1
section
variable {H : Type} {P : Program} {enc : TypeId × Value → H} {W : World} {t e q : TypeId} {a : Option Addr} {len cap : Nat} {d : DataW H} {p : List MemPlace} {f0 f1 f2 f3 : Field}
/-- one of them -/
theorem tr_read (E : TrT P e q f0 f1 f2 f3) {fuel : Nat} {cs : List Value} {x : DataW H × List MemPlace} (h : DataW.trod enc P W 0 (fun _ => true) true fuel e cs = some x) (hr : ∀ n ∈ x.1.weights P e, n ≤ reachBytes) :
    ∃ (y : Tq) (A : Option Addr) (m c : Nat), cs = [.int .i64 y.kind, .int .i64 y.pl, .int .i64 y.sl, .slice A m c] ∧ TqOk y ∧ Bs W W.heap.size A m c y.bs ∧ y.bs.length ≤ 140737488351232 := by
  obtain ⟨xs, n, _, hx, hlen, hxl, hel⟩ := DataW.trod_struct E.ty h
  rw [E.ce] at hlen
  have k0 := hel 0 f0 rfl
  have k1 := hel 1 f1 rfl
  have k2 := hel 2 f2 rfl
  have k3 := hel 3 f3 rfl
  rw [E.o0, E.c0, List.drop_zero] at k0
  rw [E.o1, E.c1] at k1
  rw [E.o2, E.c2] at k2
  rw [E.o3, E.c3] at k3
  match cs, hlen with
  | [u0, u1, u2, u3], _ =>
    match xs, hxl with
    | [x0, x1, x2, x3], _ =>
      obtain ⟨z0, e0, _, hw0⟩ := DataW.trod_int E.t0 k0
      obtain ⟨z1, e1, _, hw1⟩ := DataW.trod_int E.t1 k1
      obtain ⟨z2, e2, _, hw2⟩ := DataW.trod_int E.t2 k2
      simp only [List.take_succ_cons, List.take_zero, List.drop_succ_cons, List.drop_zero, List.cons.injEq, and_true] at e0 e1 e2
      subst e0 e1 e2
      have hr1 : ∀ n ∈ x3.1.weights P f3.type, n ≤ reachBytes := fun n hn => hr n (by
        rw [hx]
        simp only [List.map_cons, List.map_nil, DataW.weights, E.ty, DataW.weightsEach]
        simp [hn])
      have k4' : DataW.trod enc P W 0 (fun _ => true) true n f3.type [u3] = some x3 := by simpa using k3
      rcases open_ints E.t3 E.tq E.cq k4' with ⟨hcs, _⟩ | ⟨y, l, c, zs, hcs, _, hl, hm, hz, hxx, hcell, hwz⟩
      · simp only [List.cons.injEq, and_true] at hcs
        subst hcs
        exact ⟨⟨z0, z1, z2, []⟩, none, 0, 0, rfl, ⟨hw0, hw1, hw2⟩, Bs.zero _ _, by simp⟩
      · simp only [List.cons.injEq, and_true] at hcs
        subst hcs
        have hz' : zs.length = c := by simpa using hz
        have h1 := hr1
        rw [hxx] at h1
        have h2 := slice_reach E.t3 h1
        rw [E.bq] at h2
        simp only [lits, List.length_map, List.length_take, List.length_drop, reachBytes] at h2
        have hbs := bs_of_cells hl hm hz' hcell hwz
        exact ⟨⟨z0, z1, z2, _⟩, some y, l, c, rfl, ⟨hw0, hw1, hw2⟩, hbs, by show (bytesOfInts (zs.take l)).length ≤ _; rw [hbs.len]; omega⟩
/-- a list of them -/
theorem trs_open (E : TrT P e q f0 f1 f2 f3) (ht : P.underlying t = some (.slice e)) (h : DataW.Trod enc P W 0 (fun _ => true) true t (.slice a len cap) d p) (hr : ∀ n ∈ d.weights P t, n ≤ reachBytes) :
    ∃ ds, Trs W W.heap.size a len cap ds ∧ (∀ x ∈ ds, x.bs.length ≤ 140737488351232) := by
  obtain ⟨fuel, hf⟩ := h
  rcases DataW.trod_slice ht hf with ⟨hcs, _⟩ | ⟨a', l', c', elems, rest, n, _, hcs, hx, hb, hl, hm, hlen, hel, _, _⟩
  · simp [Value.cells] at hcs
    obtain ⟨rfl, rfl, rfl⟩ := hcs
    exact ⟨[], ⟨rfl, Nat.le_refl _, Nat.zero_le _, fun _ => rfl, (fun x hx => by cases hx), fun h => absurd h (by omega)⟩, fun x hx => by cases hx⟩
  · simp [Value.cells] at hcs
    obtain ⟨rfl, rfl, rfl⟩ := hcs
    obtain ⟨rfl, _⟩ := Prod.mk.inj hx
    have add_add : ∀ r i, (a'.add (r * 4)).add i = a'.add (r * 4 + i) := by
      intro r i
      by_cases h0 : r * 4 = 0
      · rw [h0, add_none, Nat.zero_add]
      · by_cases h1 : i = 0
        · rw [h1, add_none, Nat.add_zero]
        · simp [Addr.add, h0, h1, Nat.add_assoc]
    have each : ∀ r, r < len → ∃ y : Tq × (Option Addr × Nat × Nat), W.cell? (a'.add (r * 4 + 0)) = some (.int .i64 y.1.kind) ∧ W.cell? (a'.add (r * 4 + 1)) = some (.int .i64 y.1.pl) ∧ W.cell? (a'.add (r * 4 + 2)) = some (.int .i64 y.1.sl) ∧ W.cell? (a'.add (r * 4 + 3)) = some (.slice y.2.1 y.2.2.1 y.2.2.2) ∧ TqOk y.1 ∧ Bs W W.heap.size y.2.1 y.2.2.1 y.2.2.2 y.1.bs ∧ y.1.bs.length ≤ 140737488351232 := by
      intro r hr'
      have h1 := hel r hr'
      rw [E.ce, List.getElem?_eq_getElem (by omega)] at h1
      obtain ⟨cs, hc, ht2⟩ := Option.bind_eq_some_iff.1 h1
      obtain ⟨y, A, m, c, e1, h2, h3, h4⟩ := tr_read E ht2 (slice_reach_in ht hr _ (List.mem_map.2 ⟨_, List.getElem_mem (by omega), rfl⟩))
      have hcell := (World.cells?_some hc).2.2
      subst e1
      refine ⟨(y, (A, m, c)), ?_, ?_, ?_, ?_, h2, h3, h4⟩
      · have h5 := hcell 0 (by omega); rw [add_add] at h5; exact h5
      · have h5 := hcell 1 (by omega); rw [add_add] at h5; exact h5
      · have h5 := hcell 2 (by omega); rw [add_add] at h5; exact h5
      · have h5 := hcell 3 (by omega); rw [add_add] at h5; exact h5
    obtain ⟨y, hy⟩ := choose_lt each
    refine ⟨(List.range len).map fun r => (y r).1, ⟨by simp, hl, hm, (fun h => by cases h), fun x hx => ?_, fun h0 => ?_⟩, fun x hx => ?_⟩
    · obtain ⟨r, hr1, rfl⟩ := List.mem_map.1 hx
      exact (hy r (List.mem_range.1 hr1)).2.2.2.2.1
    · have h1 := (hy 0 h0).1
      rw [show 0 * 4 + 0 = 0 from rfl, add_none] at h1
      have hs := spot_of_cell h1
      refine ⟨a'.block, a'.off, by rw [← addr_lit hs], World.block_lt_of_cell? W a' h1, fun j hj => ?_⟩
      have hj' : j < len := by simpa using hj
      obtain ⟨k0, k1, k2, k3, _, k5, _⟩ := hy j hj'
      rw [addr_lit hs, Addr.add_lit] at k0 k1 k2 k3
      refine ⟨_, _, _, ⟨by simpa using k0, by simpa [Nat.add_assoc] using k1, by simpa [Nat.add_assoc] using k2, by simpa [Nat.add_assoc] using k3, by simpa using k5⟩⟩
    · obtain ⟨r, hr1, rfl⟩ := List.mem_map.1 hx
      exact (hy r (List.mem_range.1 hr1)).2.2.2.2.2.2
end
theorem trT : ∃ f0 f1 f2 f3, TrT Try.prog 46 5 f0 f1 f2 f3 :=
  ⟨_, _, _, _, Try.underlying46, by kernel_rfl, by kernel_rfl, by kernel_rfl, by kernel_rfl, by kernel_rfl, rfl, rfl, rfl, rfl, by kernel_rfl, by kernel_rfl, by kernel_rfl, by kernel_rfl, by kernel_rfl, by kernel_rfl, by kernel_rfl⟩
end Go.Proofs.Ythpfiieaanioeaa

namespace Go.Proofs.Ythpfiieaanioeaa

/-- bytes, padded and cut to a slot -/
def slotL (l : List UInt8) : List UInt8 := l.take 272 ++ List.replicate (272 - (l.take 272).length) 0
/-- which of the first i was the last write there -/
def lastW (ts : List Tq) : Nat → Int × Int → Option Nat
  | 0, _ => none
  | i + 1, x => match ts[i]? with | some t => if t.kind = 2 ∧ (t.pl, t.sl) = x then some i else lastW ts i x | none => lastW ts i x
def keptL (ts : List Tq) : Option Nat → List UInt8
  | none => slotL []
  | some j => match ts[j]? with | some t => slotL t.bs | none => slotL []
/-- is the thing i a read that is not straight? -/
def badAt (ts : List Tq) (i : Nat) : Bool := match ts[i]? with | some t => (t.kind == 1) && !(t.bs == keptL ts (lastW ts i (t.pl, t.sl))) | none => false
/-- from i on -/
def strF (ts : List Tq) : Nat → Nat → Int
  | _, 0 => -1
  | i, g + 1 => if badAt ts i then (i : Int) else strF ts (i + 1) g
def strL (ts : List Tq) : Int := strF ts 0 ts.length

theorem lastW_lt (ts : List Tq) (x : Int × Int) : ∀ i j, lastW ts i x = some j → j < i ∧ j < ts.length
  | 0, j, h => by cases h
  | i + 1, j, h => by
    unfold lastW at h
    cases hi : ts[i]? with
    | none =>
      simp only [hi] at h
      have := lastW_lt ts x i j h
      exact ⟨by omega, this.2⟩
    | some t =>
      have hl := (List.getElem?_eq_some_iff.1 hi).1
      simp only [hi] at h
      split at h
      · cases h; exact ⟨by omega, hl⟩
      · have := lastW_lt ts x i j h
        exact ⟨by omega, this.2⟩
theorem lastW_next (ts : List Tq) (i : Nat) (h : i < ts.length) (x : Int × Int) : lastW ts (i + 1) x = if ts[i].kind = 2 ∧ (ts[i].pl, ts[i].sl) = x then some i else lastW ts i x := by
  conv => lhs; unfold lastW
  rw [List.getElem?_eq_getElem h]
theorem badAt_of (ts : List Tq) (i : Nat) (h : i < ts.length) : badAt ts i = ((ts[i].kind == 1) && !(ts[i].bs == keptL ts (lastW ts i (ts[i].pl, ts[i].sl)))) := by
  unfold badAt
  rw [List.getElem?_eq_getElem h]
/-- of a longer trace the same -/
theorem lastW_app (a b : List Tq) (x : Int × Int) : ∀ i, i ≤ a.length → lastW (a ++ b) i x = lastW a i x
  | 0, _ => rfl
  | i + 1, h => by
    rw [lastW_next (a ++ b) i (by simp; omega), lastW_next a i (by omega), List.getElem_append_left (by omega), lastW_app a b x i (by omega)]
theorem badAt_app (a b : List Tq) (i : Nat) (h : i < a.length) : badAt (a ++ b) i = badAt a i := by
  rw [badAt_of (a ++ b) i (by simp; omega), badAt_of a i h, List.getElem_append_left h, lastW_app a b _ i (by omega)]
  congr 3
  cases hl : lastW a i (a[i].pl, a[i].sl) with
  | none => rfl
  | some j =>
    have := (lastW_lt a _ i j hl).2
    unfold keptL
    simp only [List.getElem?_append_left this]
theorem strF_none (ts : List Tq) : ∀ g i, (∀ j, i ≤ j → j < i + g → badAt ts j = false) → strF ts i g = -1
  | 0, _, _ => rfl
  | g + 1, i, h => by
    unfold strF
    rw [h i (Nat.le_refl _) (by omega)]
    exact strF_none ts g (i + 1) fun j h1 h2 => h j (by omega) (by omega)
theorem strF_some (ts : List Tq) : ∀ g i k, i ≤ k → k < i + g → badAt ts k = true → (∀ j, i ≤ j → j < k → badAt ts j = false) → strF ts i g = (k : Int)
  | 0, i, k, h1, h2, _, _ => by omega
  | g + 1, i, k, h1, h2, hk, hb => by
    unfold strF
    by_cases e : i = k
    · subst e; rw [hk]; rfl
    · rw [hb i (Nat.le_refl _) (by omega)]
      exact strF_some ts g (i + 1) k (by omega) (by omega) hk fun j h3 h4 => hb j (by omega) h4
theorem strF_cases (ts : List Tq) : ∀ g i, (strF ts i g = -1 ∧ ∀ j, i ≤ j → j < i + g → badAt ts j = false) ∨ ∃ k, i ≤ k ∧ k < i + g ∧ strF ts i g = (k : Int) ∧ badAt ts k = true ∧ ∀ j, i ≤ j → j < k → badAt ts j = false
  | 0, i => .inl ⟨rfl, fun j h1 h2 => by omega⟩
  | g + 1, i => by
    unfold strF
    cases hb : badAt ts i with
    | true => exact .inr ⟨i, Nat.le_refl _, by omega, by simp, hb, fun j h1 h2 => by omega⟩
    | false =>
      simp only [Bool.false_eq_true, if_false]
      rcases strF_cases ts g (i + 1) with ⟨h1, h2⟩ | ⟨k, h1, h2, h3, h4, h5⟩
      · refine .inl ⟨h1, fun j h3 h4 => ?_⟩
        by_cases e : j = i
        · rw [e]; exact hb
        · exact h2 j (by omega) (by omega)
      · refine .inr ⟨k, by omega, by omega, h3, h4, fun j h6 h7 => ?_⟩
        by_cases e : j = i
        · rw [e]; exact hb
        · exact h5 j (by omega) h7
/-- the first that is not straight: none, or one -/
theorem strL_cases (ts : List Tq) : (strL ts = -1 ∧ ∀ j, j < ts.length → badAt ts j = false) ∨ ∃ k, k < ts.length ∧ strL ts = (k : Int) ∧ badAt ts k = true ∧ ∀ j, j < k → badAt ts j = false := by
  rcases strF_cases ts ts.length 0 with ⟨h1, h2⟩ | ⟨k, _, h2, h3, h4, h5⟩
  · exact .inl ⟨h1, fun j hj => h2 j (Nat.zero_le _) (by omega)⟩
  · exact .inr ⟨k, by omega, h3, h4, fun j hj => h5 j (Nat.zero_le _) hj⟩
theorem strL_app (a b : List Tq) (k : Nat) (h : strL a = (k : Int)) : strL (a ++ b) = (k : Int) := by
  rcases strL_cases a with ⟨h1, _⟩ | ⟨k', h1, h2, h3, h4⟩
  · omega
  · obtain rfl : k' = k := by omega
    exact strF_some _ _ 0 k' (Nat.zero_le _) (by simp; omega) (by rw [badAt_app a b k' h1]; exact h3) fun j _ h6 => by rw [badAt_app a b j (by omega)]; exact h4 j h6
theorem strL_take (a : List Tq) (k : Nat) (h : strL a = (k : Int)) : strL (a.take k) = -1 ∧ strL (a.take (k + 1)) = (k : Int) := by
  rcases strL_cases a with ⟨h1, _⟩ | ⟨k', h1, h2, h3, h4⟩
  · omega
  · obtain rfl : k' = k := by omega
    have hb : ∀ m j, j < m → m ≤ a.length → badAt (a.take m) j = badAt a j := fun m j hj hm => by
      have e := badAt_app (a.take m) (a.drop m) j (by simp; omega)
      rw [List.take_append_drop] at e
      exact e.symm
    refine ⟨strF_none _ _ 0 fun j _ h6 => ?_, strF_some _ _ 0 k' (Nat.zero_le _) (by simp; omega) ?_ fun j _ h6 => ?_⟩
    · rw [hb k' j (by simp at h6; omega) (by omega)]; exact h4 j (by simp at h6; omega)
    · rw [hb (k' + 1) k' (by omega) (by omega)]; exact h3
    · rw [hb (k' + 1) j (by omega) (by omega)]; exact h4 j h6
theorem strL_none (a b : List Tq) (h : strL a = -1) : strL (a ++ b) = -1 ∨ (a.length : Int) ≤ strL (a ++ b) := by
  rcases strL_cases a with ⟨_, h2⟩ | ⟨k, _, h2, _⟩
  · rcases strL_cases (a ++ b) with ⟨h3, _⟩ | ⟨k, h3, h4, h5, h6⟩
    · exact .inl h3
    · refine .inr ?_
      rw [h4]
      by_cases hk : k < a.length
      · rw [badAt_app a b k hk, h2 k hk] at h5; cases h5
      · omega
  · omega
end Go.Proofs.Ythpfiieaanioeaa

namespace Go.Proofs.Ythpfiieaanioeaa
open Go.RowKit

theorem slotL_pad (l : List UInt8) : padL (l.take 272) 272 = slotL l := rfl
theorem slotL_length (l : List UInt8) : (slotL l).length = 272 := by simp [slotL]; omega
set_option maxRecDepth 100000 in
set_option maxHeartbeats 1000000 in
theorem kept_none (w : World) : Calls Try.prog 27 #[.pointer none] w fun e w' => ∃ A c, e = .returned (.slice A 272 c) ∧ Bs w' w'.heap.size A 272 c (slotL []) ∧ Below w.heap.size w w' := by
  go_enter Try.func27, Try.ntmps27
  go_wp2_with fail
  refine (pad_any none 0 0 272 [] w (Bs.zero _ _) (by omega) (by omega)).mono ?_
  rintro e w1 ⟨v, rfl, hown, hb⟩
  obtain ⟨A, c, rfl, hbs⟩ := Bs.of_own hown
  have HB : Kp _ := ⟨hbs⟩
  clear hown hbs
  go_wp2
  go_ret
  exact ⟨A, c, rfl, HB.out, hb⟩
theorem Bs.upto {w : World} {B : Nat} {A : Option Addr} {n c k : Nat} {l : List UInt8} (h : Bs w B A n c l) (hk : k ≤ n) : Bs w B A k c (l.take k) := by
  have hl := h.len
  refine ⟨by simp; omega, by have := h.cap; omega, h.max, h.nil, fun h0 => ?_⟩
  obtain ⟨b, o, hA, hb, hc⟩ := h.cells (by omega)
  refine ⟨b, o, hA, hb, fun j hj => ?_⟩
  rw [List.getElem_take]
  exact hc j (by simp at hj; omega)
theorem wpStill_cut_h {P : Program} {w : World} {ops : Array Oper} {rest : List Oper} {o : Oper} {a : Act} {t e : TypeId} {z : Value} {bytes : Nat} {Q : Act → Prop} (hw : Region.wanted o (yielded ops a.tmps) = true) (E : El P t e z bytes) (x hi : Operand) (ho : o.op = .slice t x none (some hi) none)
    {A : Option Addr} {n c : Nat} (hx : a.eval x = .slice A n c) {k : IntKind} {I : Int} (hhi : a.eval hi = .int k I) (j : Nat) (hI : I = j) (hj : j ≤ c) (h : wpStill P ops w Q rest (a.put o.dst (.slice A j c))) : wpStill P ops w Q (o :: rest) a := by
  subst hI
  refine wpStill_step fun K hK => ?_
  rw [if_pos hw]
  have hrun := run_slice_h (P := P) (w := w) t A n c E.ty' k (j : Int) (by omega) (by omega)
  rw [E.sizeOf] at hrun
  have e1 : (if c = 0 then A else A.map (·.add 0)) = A := by
    cases A <;> simp [Addr.add]
  unfold Oper.still execOp
  simp [ho, hx, hhi, run_sliceAt_slice (P := P) (w := w) t _ _ _ _ E.ty', hrun, Result.andThen, sliced]
  try rw [e1]
  first | exact ⟨rfl, hK _ h⟩ | exact hK _ h | (cases A <;> simp [Addr.add] <;> exact hK _ h)
set_option maxRecDepth 100000 in
set_option maxHeartbeats 1000000 in
theorem kept_any (b o : Nat) (A : Option Addr) (n c : Nat) (l : List UInt8) (w : World) (hc : w.cell? ⟨b, o + 3, none⟩ = some (.slice A n c)) (hb : Bs w w.heap.size A n c l) :
    Calls Try.prog 27 #[.pointer (some ⟨b, o, none⟩)] w fun e w' => ∃ A c, e = .returned (.slice A 272 c) ∧ Bs w' w'.heap.size A 272 c (slotL l) ∧ Below w.heap.size w w' := by
  have hn63 := hb.le
  have hcd : w.drew.cell? ⟨b, o + 3, none⟩ = some (.slice A n c) := hc
  have HC : Kp (n ≤ c) := ⟨hb.cap⟩
  by_cases hn : n ≤ 272
  · have hlt : ¬ (272 : Int) < (n : Int) := by omega
    have HB : Kp (Bs w.drew w.drew.heap.size A n c (l.take 272)) := ⟨by rw [List.take_of_length_le (by rw [hb.len]; exact hn)]; exact hb.drew⟩
    have HP : Kp (slotL l = padL (l.take 272) 272) := ⟨rfl⟩
    have HLn : Kp ((padL (l.take 272) 272).length = 272) := ⟨by rw [slotL_pad, slotL_length]⟩
    clear hb
    go_enter Try.func27, Try.ntmps27
    go_upto_region 3 with fail
    refine wp_region_still_lit (by kernel_rfl) (by kernel_rfl) ?_
    repeat still_step
    refine wpStill_cut_h (o := ⟨some 16, _, _, _, _, _⟩) rfl el8 (.tmp 9) (.tmp 15) rfl rfl rfl n rfl HC.out ?_
    repeat still_step
    refine wpStill_nil ?_
    change Exit.then _ _ _ _ w.drew
    have hbd : Below w.heap.size w w.drew := (Below.refl _ _).drew
    clear hcd hc
    generalize w.drew = wd at *
    go_wp2_with fail
    refine (pad_any A n c 272 (l.take 272) wd HB.out (by omega) (by omega)).mono ?_
    rintro e w1 ⟨v, rfl, hown, hb1⟩
    rw [HLn.out] at hown
    obtain ⟨A', c', rfl, hbs⟩ := Bs.of_own hown
    have HB1 : Kp _ := ⟨hbs⟩
    have hb2 : Below w.heap.size w w1 := hbd.trans (hb1.mono hbd.size)
    clear hown hbs hb1 hbd
    go_wp2
    go_ret
    exact ⟨A', c', rfl, by rw [HP.out]; exact HB1.out, hb2⟩
  · have hlt : (272 : Int) < (n : Int) := by omega
    have HB : Kp (Bs w.drew w.drew.heap.size A 272 c (l.take 272)) := ⟨(hb.upto (by omega)).drew⟩
    have HP : Kp (slotL l = padL (l.take 272) 272) := ⟨rfl⟩
    have HLn : Kp ((padL (l.take 272) 272).length = 272) := ⟨by rw [slotL_pad, slotL_length]⟩
    have HC2 : Kp (272 ≤ c) := ⟨by have := hb.cap; omega⟩
    clear hb
    go_enter Try.func27, Try.ntmps27
    go_upto_region 3 with fail
    refine wp_region_still_lit (by kernel_rfl) (by kernel_rfl) ?_
    repeat still_step
    refine wpStill_cut_h (o := ⟨some 16, _, _, _, _, _⟩) rfl el8 (.tmp 9) (.tmp 15) rfl rfl rfl 272 rfl HC2.out ?_
    repeat still_step
    refine wpStill_nil ?_
    change Exit.then _ _ _ _ w.drew
    have hbd : Below w.heap.size w w.drew := (Below.refl _ _).drew
    clear hcd hc
    generalize w.drew = wd at *
    go_wp2_with fail
    refine (pad_any A 272 c 272 (l.take 272) wd HB.out (by omega) (by omega)).mono ?_
    rintro e w1 ⟨v, rfl, hown, hb1⟩
    rw [HLn.out] at hown
    obtain ⟨A', c', rfl, hbs⟩ := Bs.of_own hown
    have HB1 : Kp _ := ⟨hbs⟩
    have hb2 : Below w.heap.size w w1 := hbd.trans (hb1.mono hbd.size)
    clear hown hbs hb1 hbd
    go_wp2
    go_ret
    exact ⟨A', c', rfl, by rw [HP.out]; exact HB1.out, hb2⟩
end Go.Proofs.Ythpfiieaanioeaa
