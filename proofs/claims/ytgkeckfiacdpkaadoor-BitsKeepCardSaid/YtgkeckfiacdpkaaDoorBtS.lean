/- The first that is free, and some of them: package bits' First and Some. -/
import Derived.Test.YtgkeckfiacdpkaaDoorBtC
import Derived.Test.YtgkeckfiacdpkaaDoorLens
namespace Go.Proofs.YtgkeckfiacdpkaaDoor
open Go.RowKit Go.Shelf

theorem results_int {P : Program} {w : World} {tmps : Array Value} {t : TypeId} {fn : Func} {p : Tmp} {k : IntKind} (hr : fn.results = #[.cell p t]) (ht : P.underlying t = some (.int k)) {g : Nat} {t' : TypeId} {z : Int} (hx : tmps.getD p undef = .pointer (some ⟨g, 0, none⟩)) (hb : Blk w g t' [.int k z]) :
    (results fn tmps).run P w = .ok (.int k z) w := by
  have hc : w.cell? ⟨g, 0, none⟩ = some (.int k z) := hb.cell? 0
  have hx' : tmps[p]?.getD undef = .pointer (some ⟨g, 0, none⟩) := by simpa using hx
  simp only [results, hr]
  simp [hx', asAddr, loadVar, isAgg, run_underlying ht, Result.andThen, hc]
theorem own_round {n₀ B S n : Nat} {G : List TypeId} {e : TypeId} {u w' : World} {v : Value} {xs : List Value} (hown : u.ownsRow S e 1 v n xs) (hb : Below S u w') (hk : ∀ g, v.ownBlock ≠ some g → g < u.heap.size → w'.heap[g]? = u.heap[g]?) (he : e ∉ G) (hn : n₀ ≤ S) : KpG n₀ G u w' ∧ KeepsFrom B u w' := by
  have hty : ∀ k, v.ownBlock = some k → ∃ cs fr, u.heap[k]? = some (Obj.cells cs e fr) := fun k hk => by
    rcases hown.2 with ⟨rfl, _⟩ | ⟨g, cap, cur, rfl, _, hh, _⟩
    · cases hk
    · have : g = k := Option.some.inj hk
      subst this
      exact ⟨_, _, hh⟩
  refine ⟨⟨hb.mono hn, fun k cs t fr hh ht => ?_⟩, ⟨hb.size, fun k o _ hh hc => ?_⟩⟩
  · by_cases h : v.ownBlock = some k
    · obtain ⟨cs2, fr2, h2⟩ := hty k h
      rw [hh] at h2
      cases h2
      exact absurd ht he
    · exact (hk k h (Array.getElem?_eq_some_iff.1 hh).1).trans hh
  · by_cases h : v.ownBlock = some k
    · obtain ⟨cs2, fr2, h2⟩ := hty k h
      rw [hh] at h2
      cases h2
      cases hc
    · exact (hk k h (Array.getElem?_eq_some_iff.1 hh).1).trans hh
def firstI (l : List Nat) : Int := match l with | [] => -1 | i :: _ => (i : Int)
abbrev TY3 : List TypeId := [22, 49, 60]
/-- First: between two rounds (there was none), and left -/
structure FsI (w : World) (Rb : Nat) (pre : List Nat) (X : World) : Prop where
  none : pre = []
  low : Below w.heap.size w X
  res : Blk X Rb 3 [.int .i64 0]
structure FsX (w : World) (Rb : Nat) (c : Code) (pre : List Nat) (X : World) : Prop where
  c : c = .ret
  low : Below w.heap.size w X
  res : ∃ i, pre = [i] ∧ Blk X Rb 3 [.int .i64 (i : Int)]
theorem FsI.own {w : World} {Rb B : Nat} (hB : w.heap.size ≤ B) : OwnFrom B (FsI w Rb) := fun _ _ _ _ h hg hr => ⟨h.none, below_nc h.low hg (fun r e => (hr r e).1) hB (Nat.le_refl _), blk_nc h.res hg (fun r e => (hr r e).2)⟩
theorem FsX.own {w : World} {Rb B : Nat} (hB : w.heap.size ≤ B) (c : Code) : OwnFrom B (FsX w Rb c) := fun _ _ _ _ h hg hr => by
  obtain ⟨i, h1, h2⟩ := h.res
  exact ⟨h.c, below_nc h.low hg (fun r e => (hr r e).1) hB (Nat.le_refl _), i, h1, blk_nc h2 hg (fun r e => (hr r e).2)⟩
section
set_option maxRecDepth 100000
set_option maxHeartbeats 2000000
attribute [local go_sem] Oper.semAt_some
theorem first_any (A : Option Addr) (n c : Nat) (b : List UInt8) (f t : Int) (w : World) (h0 : 0 < w.heap.size) (hT : TabD w) (hb : Bs w w.heap.size A n c b) (hn : n ≤ 4294967296) (hf : f ≤ 9223372036854775807) (ht : t ≤ 9223372036854775807) :
    Calls Tryd.prog 17 #[.slice A n c, .int .i64 f, .int .i64 t] w fun e w' => e = .returned (.int .i64 (firstI (freeL b f.toNat (hiN n t)))) ∧ Below w.heap.size w w' := by
  have HT : Kp _ := ⟨hT⟩
  have HB : Kp _ := ⟨hb⟩
  obtain ⟨L, hL⟩ : ∃ L, L = freeL b f.toNat (hiN n t) := ⟨_, rfl⟩
  have HL : Kp _ := ⟨hL⟩
  rw [← hL]
  clear hb hL hT
  refine (callsIn_wide (n := 8)).1 (callsIn_of_wp_marks (F := Fence.wide) (n := 8) Tryd.func17 rfl trivial ?_ rfl)
  simp only [Tryd.ntmps17, List.size_toArray, List.length_cons, List.length_nil, Nat.reduceAdd, Nat.reduceSub, Array.replicate_succ, Array.replicate_zero, List.push_toArray, List.append_toArray, List.nil_append, List.cons_append]
  refine wpIn_wide.2 ?_
  go_upto_region 1 with fail
  have hkr : Blk (w.alloc (.cells #[.int .i64 0] 3)) w.heap.size 3 [.int .i64 0] := Blk.new _ _ _
  have hb1 : Below w.heap.size w (w.alloc (.cells #[.int .i64 0] 3)) := (Below.refl _ w).alloc (Nat.le_refl _) _
  generalize w.alloc (.cells #[.int .i64 0] 3) = W1 at *
  obtain ⟨Rb, hRb⟩ : ∃ x, x = w.heap.size := ⟨_, rfl⟩
  rw [← hRb] at hkr
  rw [show w.heap.size = Rb from hRb.symm] at ⊢
  have HRge : Kp (w.heap.size ≤ Rb) := ⟨by omega⟩
  have hnw : w.heap.size ≤ W1.heap.size := hb1.size
  have HB1 : Kp _ := ⟨hb1⟩
  have HKr : Kp _ := ⟨hkr⟩
  clear hkr hb1 hRb
  go_wp2_with fail
  refine (frees_any A n c f t W1).mono ?_
  rintro e w3 ⟨B, hBs, rfl, hkb, hkf, hkt, hb3, hs3⟩
  have hWw : w.heap.size ≤ w3.heap.size := Nat.le_trans hnw hb3.size
  have HB3 : Kp (Below w.heap.size w w3) := ⟨HB1.out.trans (hb3.mono hnw)⟩
  have HI0 : Kp (FsI w Rb [] w3) := ⟨⟨rfl, HB3.out, HKr.out.below hb3 HKr.out.lt⟩⟩
  have HKb : Kp _ := ⟨hkb⟩
  have HKf : Kp _ := ⟨hkf⟩
  have HKt : Kp _ := ⟨hkt⟩
  clear hkb hkf hkt hb3 hs3 hBs HB1
  go_wp2_with fail
  refine (wpIn_wide (n := 8)).1 ?_
  refine wp_rangeO (α := Nat) (gf := 35) (lb := #[.pointer (some ⟨B, 0, none⟩), .pointer (some ⟨B + 1, 0, none⟩), .pointer (some ⟨B + 2, 0, none⟩)]) rfl (enters_of Tryd.func35 (by kernel_rfl) rfl)
    (free_stops w.heap.size A n c b f t B (B + 1) (B + 2) w3 hWw h0 (HT.out.below HB3.out h0) (HB.out.below HB3.out) hn hf ht HKb.out HKf.out HKt.out) (Below.refl _ _) hWw (fun _ => rfl)
    (FsI w Rb) (FsX w Rb) (FsI.own hWw) (FsX.own hWw) HI0.out
    (fun k a' X => ∃ (t0 t1 t2 t3 t4 t5 t8 t9 t10 t11 t12 t13 : Value), a' = { tmps := #[t0, t1, t2, t3, t4, t5, .pointer (some ⟨Rb, 0, none⟩), .int .i64 (k : Int), t8, t9, t10, t11, t12, t13], defers := [] })
    ?hAx ?assign ?body ?done ?stop
  case hAx =>
    rintro x a' _ X Y row h hg hrow
    exact h
  case assign =>
    intro lr pre k X K hi hKK
    simp only [zip_one, List.setIfInBounds_toArray, List.set_cons_succ, List.set_cons_zero]
    refine wpIn_region_lit ?_
    refine list_inRound lr (by intro c h; cases h) rfl fun K1 hK1 => ?_
    go_simp
    refine hK1 _ _ ?_
    clear hK1 K1
    refine wpListIn_nil ?_
    try simp only [Act.put, List.setIfInBounds_toArray, List.set_cons_zero, List.set_cons_succ]
    exact hKK _ _ (KeepsFrom.refl _ _) (KpG.refl _) hi ⟨_, _, _, _, _, _, _, _, _, _, _, _, rfl⟩
  case body =>
    rintro lr pre k a' X hlr hi ⟨t0, t1, t2, t3, t4, t5, t8, t9, t10, t11, t12, t13, rfl⟩ hlen
    have HRes : Kp _ := ⟨hi.res⟩
    have HLow : Kp _ := ⟨hi.low⟩
    have c0 : X.cell? ⟨Rb, 0, none⟩ = some (.int .i64 0) := hi.res.cell? 0
    have f0 := hi.res.frozen 0
    have HN : Kp _ := ⟨hi.none⟩
    clear hi
    refine wpIn_block ?_
    refine wpIn_seq ?_
    refine wpIn_region_lit ?_
    refine list_inRound lr (by intro c h; cases h) rfl fun K1 hK1 => ?_
    go_simp
    refine hK1 _ _ ?_
    clear hK1 K1
    refine list_inRound lr (by intro c h; cases h) rfl fun K1 hK1 => ?_
    go_simp
    refine hK1 _ _ ?_
    clear hK1 K1
    refine wpListIn_nil ?_
    refine wpIn_ret ?_
    refine ⟨keepsFrom_set HRes.out 0 _, rfl, HLow.out.setCell (p := ⟨Rb, 0, none⟩) HRge.out _, k, by rw [HN.out]; rfl, HRes.out.set 0 _⟩
  case done =>
    rintro D ys X hD hys hi hKd
    have HKd : Kp _ := ⟨hKd⟩
    have hyn := hi.none
    subst hyn
    have HLn : Kp (L = []) := ⟨by rw [HL.out]; exact hys.symm⟩
    have c0 : X.cell? ⟨Rb, 0, none⟩ = some (.int .i64 0) := hi.res.cell? 0
    have f0 := hi.res.frozen 0
    have HRes : Kp _ := ⟨hi.res⟩
    have HLow : Kp _ := ⟨hi.low⟩
    have HDg : Kp (Rb ≠ D) := ⟨fun e => by have h1 := hi.res.heap; rw [e, hKd] at h1; cases h1⟩
    have HDw : Kp (w.heap.size ≤ D) := ⟨by omega⟩
    clear hi hKd hys
    go_wp2
    have hKd2 : (X.setCell ⟨Rb, 0, none⟩ (.int .i64 (-1))).heap[D]? = some (.deferred (some [])) := ((Only.setCell X ⟨Rb, 0, none⟩ (.int .i64 (-1))).block D (fun e => HDg.out e.symm)).trans HKd.out
    refine ⟨by simp, .inl ⟨_, _, rfl, run_takeDeferred hKd2, ?_⟩⟩
    have hgp : (X.setCell ⟨Rb, 0, none⟩ (.int .i64 (-1))).grownBy ((X.setCell ⟨Rb, 0, none⟩ (.int .i64 (-1))).putObj D (.deferred none)) (some D) := grownBy_putObj' _ D _
    have hk9 := blk_nc (HRes.out.set 0 (.int .i64 (-1))) hgp (fun r e => by cases e; exact ⟨_, hKd2, rfl⟩)
    exact ⟨_, results_int rfl Tryd.underlying3 rfl hk9, by rw [HLn.out]; rfl, below_nc (HLow.out.setCell (p := ⟨Rb, 0, none⟩) HRge.out _) hgp (fun r e => by cases e; exact HDw.out) (Nat.le_refl _) (Nat.le_refl _)⟩
  case stop =>
    rintro D cc pre X hD hp h hKd
    obtain ⟨rfl, hlow, i, rfl, hres⟩ := h
    have HLn : Kp (firstI L = (i : Int)) := ⟨by
      rw [HL.out]
      obtain ⟨r, hr⟩ := hp
      rw [← hr]; rfl⟩
    have HDw : Kp (w.heap.size ≤ D) := ⟨by omega⟩
    refine wpIn_wide.2 ?_
    clear hp
    go_wp2
    refine ⟨by simp, .inl ⟨_, _, rfl, run_takeDeferred hKd, ?_⟩⟩
    have hgp : X.grownBy (X.putObj D (.deferred none)) (some D) := grownBy_putObj' X D _
    exact ⟨_, results_int rfl Tryd.underlying3 rfl (blk_nc hres hgp (fun r e => by cases e; exact ⟨_, hKd, rfl⟩)), by rw [HLn.out], below_nc hlow hgp (fun r e => by cases e; exact HDw.out) (Nat.le_refl _) (Nat.le_refl _)⟩
end
end Go.Proofs.YtgkeckfiacdpkaaDoor
