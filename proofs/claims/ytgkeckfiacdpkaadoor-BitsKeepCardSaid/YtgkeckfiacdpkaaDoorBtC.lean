/- How many: package bits' count and Count. -/
import Derived.Test.YtgkeckfiacdpkaaDoorBtE
import Derived.Deep.RegionHeld3
namespace Go.Proofs.YtgkeckfiacdpkaaDoor
open Go.RowKit Go.Shelf

def ctL (g : Nat → Nat) (l : List Nat) : Nat := (l.map fun k => (bitsL (g k)).length).sum
theorem ctL_snoc (g : Nat → Nat) (l : List Nat) (k : Nat) : ctL g (l ++ [k]) = ctL g l + (bitsL (g k)).length := by simp [ctL]
theorem bitsL_le (x : Nat) : (bitsL x).length ≤ 64 := by
  unfold bitsL
  exact Nat.le_trans (List.length_filter_le _ _) (by simp)
theorem ctL_le (g : Nat → Nat) (l : List Nat) : ctL g l ≤ 64 * l.length := by
  induction l with
  | nil => simp [ctL]
  | cons k r ih =>
    have := bitsL_le (g k)
    simp only [ctL, List.map_cons, List.sum_cons, List.length_cons] at ih ⊢
    omega
theorem ctL_flat (g : Nat → Nat) (l : List Nat) : ctL g l = (l.flatMap fun k => (bitsL (g k)).map (64 * k + ·)).length := by
  unfold ctL
  rw [List.length_flatMap]
  simp
/-- what lies between two rounds -/
structure CtI (g : Nat → Nat) (T Nb Pb pf : Nat) (w : World) (pre : List (Wk T)) (X : World) : Prop where
  low : Below w.heap.size w X
  n : Blk X Nb 3 [.int .i64 (ctL g (pre.map (·.1)) : Int)]
  p : Blk X Pb 45 [.func (.func pf) #[] #[]]
theorem CtI.own {g : Nat → Nat} {T Nb Pb pf B : Nat} {w : World} (hB : w.heap.size ≤ B) : OwnFrom B (CtI g T Nb Pb pf w) := fun _ _ _ _ h hg hr =>
  ⟨below_nc h.low hg (fun r e => (hr r e).1) hB (Nat.le_refl _), blk_nc h.n hg (fun r e => (hr r e).2), blk_nc h.p hg (fun r e => (hr r e).2)⟩
theorem keepsFrom_set {B g : Nat} {t : TypeId} {cs : List Value} {X : World} (h : Blk X g t cs) (i : Nat) (v : Value) : KeepsFrom B X (X.setCell ⟨g, i, none⟩ v) := by
  have ho := Only.setCell X ⟨g, i, none⟩ v
  refine ⟨by rw [ho.size]; exact Nat.le_refl _, fun k o _ hk hc => (ho.block k (fun e => ?_)).trans hk⟩
  have e' : k = g := e
  subst e'
  rw [h.heap] at hk
  cases hk
  cases hc
section
set_option maxRecDepth 100000
set_option maxHeartbeats 2000000
attribute [local go_sem] Oper.semAt_some
theorem count_any (A : Option Addr) (n c : Nat) (b : List UInt8) (f t : Int) (pf : Nat) (g : Nat → Nat) (w : World) (hb : Bs w w.heap.size A n c b) (hn : n ≤ 4294967296) (hf : f ≤ 9223372036854775807) (ht : t ≤ 9223372036854775807)
    (eg : ∀ args w, (callFunc pf args).run Tryd.prog w = .ok (.enter pf args) w)
    (hg : ∀ k, g k < 18446744073709551616) (hp : ∀ k X, Calls Tryd.prog pf #[.agg (wdL b f.toNat (hiN n t) k).toArray] X fun e X' => e = .returned (.int .u64 (g k : Int)) ∧ Below X.heap.size X X') :
    Calls Tryd.prog 25 #[.slice A n c, .int .i64 f, .int .i64 t, .func (.func pf) #[] #[]] w fun e w' => e = .returned (.int .i64 (ctL g (ksL f.toNat (hiN n t)) : Int)) ∧ Below w.heap.size w w' := by
  obtain ⟨F, hF⟩ : ∃ F, F = f.toNat := ⟨_, rfl⟩
  obtain ⟨T, hT⟩ : ∃ T, T = hiN n t := ⟨_, rfl⟩
  have HTn : Kp (T ≤ 8 * n) := ⟨by rw [hT]; unfold hiN; omega⟩
  have HFT : Kp (f.toNat = F ∧ hiN n t = T) := ⟨hF.symm, hT.symm⟩
  rw [← hF, ← hT]
  rw [← hF, ← hT] at hp
  have HB : Kp _ := ⟨hb⟩
  have HP : Kp _ := ⟨hp⟩
  have HG : Kp _ := ⟨hg⟩
  have HE : Kp _ := ⟨eg⟩
  clear hF hT hb hp hg
  refine (callsIn_wide (n := 8)).1 (callsIn_of_wp_marks (F := Fence.wide) (n := 8) Tryd.func25 rfl trivial ?_ rfl)
  simp only [Tryd.ntmps25, List.size_toArray, List.length_cons, List.length_nil, Nat.reduceAdd, Nat.reduceSub, Array.replicate_succ, Array.replicate_zero, List.push_toArray, List.append_toArray, List.nil_append, List.cons_append]
  refine wpIn_wide.2 ?_
  go_upto_region 2 with fail
  have hkp : Blk ((w.alloc (.cells #[.func (.func pf) #[] #[]] 45)).alloc (.cells #[.int .i64 0] 3)) w.heap.size 45 [.func (.func pf) #[] #[]] := (Blk.new w _ [.func (.func pf) #[] #[]]).alloc _
  have hkn : Blk ((w.alloc (.cells #[.func (.func pf) #[] #[]] 45)).alloc (.cells #[.int .i64 0] 3)) (w.heap.size + 1) 3 [.int .i64 0] := by
    have h := Blk.new (w.alloc (.cells #[.func (.func pf) #[] #[]] 45)) 3 [.int .i64 0]
    rwa [World.size_alloc] at h
  have hb1 : Below w.heap.size w ((w.alloc (.cells #[.func (.func pf) #[] #[]] 45)).alloc (.cells #[.int .i64 0] 3)) := ((Below.refl _ w).alloc (Nat.le_refl _) _).alloc (by simp) _
  generalize (w.alloc (.cells #[.func (.func pf) #[] #[]] 45)).alloc (.cells #[.int .i64 0] 3) = W1 at *
  obtain ⟨Pb, hPb⟩ : ∃ x, x = w.heap.size := ⟨_, rfl⟩
  obtain ⟨Nb, hNb⟩ : ∃ x, x = w.heap.size + 1 := ⟨_, rfl⟩
  rw [← hNb] at hkn ⊢
  rw [← hPb] at hkp
  rw [show w.heap.size = Pb from hPb.symm] at ⊢
  have HNge : Kp (w.heap.size ≤ Nb) := ⟨by omega⟩
  have HPN : Kp (Pb ≠ Nb) := ⟨by omega⟩
  have hnw : w.heap.size ≤ W1.heap.size := hb1.size
  have HB1 : Kp _ := ⟨hb1⟩
  have HKp : Kp _ := ⟨hkp⟩
  have HKn : Kp _ := ⟨hkn⟩
  have HPw : Kp (Pb = w.heap.size) := ⟨hPb⟩
  clear hkp hkn hb1 hPb hNb
  go_wp2_with fail
  refine (words_any A n c f t W1).mono ?_
  rintro e w3 ⟨B, hBs, rfl, hkb, hkf, hkt, hb3, hs3⟩
  have hWw : w.heap.size ≤ w3.heap.size := Nat.le_trans hnw hb3.size
  have HB3 : Kp (Below w.heap.size w w3) := ⟨HB1.out.trans (hb3.mono hnw)⟩
  have HI0 : Kp (CtI g T Nb Pb pf w [] w3) := ⟨⟨HB3.out, HKn.out.below hb3 HKn.out.lt, HKp.out.below hb3 HKp.out.lt⟩⟩
  have HKb : Kp _ := ⟨hkb⟩
  have HKf : Kp _ := ⟨hkf⟩
  have HKt : Kp _ := ⟨hkt⟩
  clear hkb hkf hkt hb3 hs3 hBs HB1
  go_wp2_with fail
  refine (wpIn_wide (n := 8)).1 ?_
  refine wp_rangeO (α := Wk T) (gf := 37) (lb := #[.pointer (some ⟨B, 0, none⟩), .pointer (some ⟨B + 1, 0, none⟩), .pointer (some ⟨B + 2, 0, none⟩)]) rfl (enters_of Tryd.func37 (by kernel_rfl) rfl)
    (words_stops w.heap.size A n c b f t B (B + 1) (B + 2) w3 hWw (HB.out.below HB3.out) hn hf ht HKb.out HKf.out HKt.out F T HFT.out.1 HFT.out.2) (Below.refl _ _) hWw (fun _ => rfl)
    (CtI g T Nb Pb pf w) (fun _ _ _ => False) (CtI.own hWw) (fun _ _ _ _ _ h _ _ => h) HI0.out
    (fun k a' X => ∃ (Bx : Nat) (t0 t1 t2 t3 t4 t5 t6 t8 t11 t12 t13 t14 t15 t16 t17 t18 t19 t20 t21 t22 : Value), Blk X Bx 49 (wdL b F T k.1) ∧ a' = { tmps := #[t0, t1, t2, t3, t4, t5, t6, .pointer (some ⟨Pb, 0, none⟩), t8, .pointer (some ⟨Nb, 0, none⟩), .pointer (some ⟨Bx, 0, none⟩), t11, t12, t13, t14, t15, t16, t17, t18, t19, t20, t21, t22], defers := [] })
    ?hAx ?assign ?body ?done ?stop
  case hAx =>
    rintro x a' _ X Y row ⟨Bx, t0, t1, t2, t3, t4, t5, t6, t8, t11, t12, t13, t14, t15, t16, t17, t18, t19, t20, t21, t22, hk, rfl⟩ hg hrow
    exact ⟨Bx, t0, t1, t2, t3, t4, t5, t6, t8, t11, t12, t13, t14, t15, t16, t17, t18, t19, t20, t21, t22, blk_nc hk hg (fun r e => (hrow r e).2), rfl⟩
  case assign =>
    intro lr pre k X K hi hKK
    simp only [encW, zip_one, List.setIfInBounds_toArray, List.set_cons_succ, List.set_cons_zero]
    refine wpIn_region_lit ?_
    refine list_inRound lr (by intro c h; cases h) rfl fun K1 hK1 => ?_
    refine step_alloc tyWd rfl rfl ?_
    intro x1 hk1 hb1
    refine hK1 _ _ ?_
    clear hK1 K1
    have HLx : Kp ((wdL b F T k.1).length = 3) := ⟨rfl⟩
    refine list_inRound lr (by intro c h; cases h) rfl fun K1 hK1 => ?_
    refine step_store rwWd rfl (.tmp 10) (.tmp 15) rfl (vs := wdL b F T k.1) rfl rfl hk1 HLx.out (fit_all (l := zeroWd) rfl) (by intro u hu; simp [wdL] at hu; rcases hu with rfl | rfl | rfl <;> rfl) ?_
    intro x2 hk2 ho2
    refine hK1 _ _ ?_
    clear hK1 K1
    refine wpListIn_nil ?_
    have hb2 : Below X.heap.size X x2 := hb1.trans (ho2.below (Nat.le_refl _))
    rw [store_all (n := 3) rfl] at hk2
    exact hKK _ _ (keepsFrom_below hb2) (KpG.of_below hb2 hi.low.size)
      ⟨hi.low.trans (hb2.mono hi.low.size), hi.n.below hb2 hi.n.lt, hi.p.below hb2 hi.p.lt⟩
      ⟨X.heap.size, _, _, _, _, _, _, _, _, _, _, _, _, _, _, _, _, _, _, _, _, hk2, rfl⟩
  case body =>
    rintro lr pre ⟨k, hkT⟩ a' X hlr hi ⟨Bx, t0, t1, t2, t3, t4, t5, t6, t8, t11, t12, t13, t14, t15, t16, t17, t18, t19, t20, t21, t22, hx, rfl⟩ hlen
    have HNb : Kp _ := ⟨hi.n⟩
    have HPb : Kp _ := ⟨hi.p⟩
    have HWd : Kp _ := ⟨hx⟩
    have HLx : Kp ((wdL b F T k).length = 3) := ⟨rfl⟩
    have HLow : Kp _ := ⟨hi.low⟩
    have HPk : Kp _ := ⟨fun X => HP.out k X⟩
    have HOn : Kp _ := ⟨fun X => ones_any (g k) (HG.out k) X⟩
    have HE' := HE.out
    obtain ⟨s1, hs1⟩ : ∃ x, x = ctL g (pre.map (·.1)) := ⟨_, rfl⟩
    obtain ⟨s2, hs2⟩ : ∃ x, x = s1 + (bitsL (g k)).length := ⟨_, rfl⟩
    have HS2 : Kp (ctL g ((pre ++ [(⟨k, hkT⟩ : Wk T)]).map (·.1)) = s2) := ⟨by rw [hs2, hs1, List.map_append]; exact ctL_snoc g _ k⟩
    have HSum : Kp (IntKind.i64.wrap ((s1 : Int) + ((bitsL (g k)).length : Int)) = (s2 : Int)) := ⟨by
      rw [IntKind.wrap_i64]
      have h1 := ctL_le g (pre.map (·.1))
      have h2 := bitsL_le (g k)
      rw [List.length_map, ← hs1] at h1
      omega⟩
    rw [← hs1] at HNb
    have HEnd : Kp (∀ X4 : World, Blk X4 Nb 3 [.int .i64 (s1 : Int)] → Blk X4 Pb 45 [.func (.func pf) #[] #[]] → Below X.heap.size X X4 →
        KeepsFrom w3.heap.size X (X4.setCell ⟨Nb, 0, none⟩ (.int .i64 (s2 : Int))) ∧ KpG w.heap.size [22] X (X4.setCell ⟨Nb, 0, none⟩ (.int .i64 (s2 : Int))) ∧ CtI g T Nb Pb pf w (pre ++ [⟨k, hkT⟩]) (X4.setCell ⟨Nb, 0, none⟩ (.int .i64 (s2 : Int)))) := ⟨fun X4 h1 h2 h3 => by
      have hl := HLow.out.trans (h3.mono HLow.out.size)
      exact ⟨keepsFrom_trans (keepsFrom_below h3) (keepsFrom_set h1 0 _), (KpG.of_below h3 HLow.out.size).trans (KpG.set h1 (by decide) HNge.out 0 _), hl.setCell (p := ⟨Nb, 0, none⟩) HNge.out _, by rw [HS2.out]; exact h1.set 0 _, h2.other HPN.out _⟩⟩
    clear hs1 hs2 HS2
    have hGr : Below X.heap.size X X.drew := (Below.refl _ X).drew
    have HGr : Kp _ := ⟨hGr⟩
    clear hi hx hGr HP
    replace HNb : Kp _ := ⟨HNb.out.drew⟩
    replace HPb : Kp _ := ⟨HPb.out.drew⟩
    replace HWd : Kp _ := ⟨HWd.out.drew⟩
    refine wpIn_block ?_
    refine region_inRound lr (by rintro ⟨a, w, h⟩; exact h) (by kernel_rfl) (by kernel_rfl) ?_
    generalize X.drew = wS at *
    repeat' (first
      | ((with_reducible change ite (Region.wanted ⟨some 16, _, _, _, _, _⟩ _ = true) _ _); have c0 := HNb.out.cell? 0; simp only [List.getElem?_cons_zero] at c0; go_simp; refine hK _ _ ?_; clear hK K c0; (try simp only [Act.put, List.setIfInBounds_toArray, List.set_cons_zero, List.set_cons_succ]))
      | ((with_reducible change ite (Region.wanted ⟨some 17, _, _, _, _, _⟩ _ = true) _ _); have c0 := HPb.out.cell? 0; simp only [List.getElem?_cons_zero] at c0; go_simp; refine hK _ _ ?_; clear hK K c0; (try simp only [Act.put, List.setIfInBounds_toArray, List.set_cons_zero, List.set_cons_succ]))
      | ((with_reducible change ite (Region.wanted ⟨some 18, _, _, _, _, _⟩ _ = true) _ _); refine step_load rwWd rfl (.tmp 10) rfl rfl HWd.out (fit_all HLx.out) (take_all HLx.out) ?_; refine hK _ _ ?_; clear hK K; (try simp only [Act.put, List.setIfInBounds_toArray, List.set_cons_zero, List.set_cons_succ]))
      | ((with_reducible change ite (Region.wanted ⟨some 19, _, _, _, _, _⟩ _ = true) _ _); go_simp; refine (HPk.out _).mono ?_; rintro e wZ ⟨rfl, hb'⟩; refine hK _ _ ?_; clear hK K; (try simp only [Act.put, List.setIfInBounds_toArray, List.set_cons_zero, List.set_cons_succ]); replace HNb : Kp _ := ⟨HNb.out.below hb' HNb.out.lt⟩; replace HPb : Kp _ := ⟨HPb.out.below hb' HPb.out.lt⟩; replace HGr : Kp _ := ⟨HGr.out.trans (hb'.mono HGr.out.size)⟩; clear HWd hb'; obtain ⟨wS, rfl⟩ : ∃ x, x = wZ := ⟨_, rfl⟩)
      | ((with_reducible change ite (Region.wanted ⟨some 20, _, _, _, _, _⟩ _ = true) _ _); go_simp; refine (HOn.out _).mono ?_; rintro e wZ ⟨rfl, rfl⟩; refine hK _ _ ?_; clear hK K; (try simp only [Act.put, List.setIfInBounds_toArray, List.set_cons_zero, List.set_cons_succ]))
      | ((with_reducible change ite (Region.wanted ⟨some 21, _, _, _, _, _⟩ _ = true) _ _); go_simp; rw [HSum.out]; refine hK _ _ ?_; clear hK K; (try simp only [Act.put, List.setIfInBounds_toArray, List.set_cons_zero, List.set_cons_succ]))
      | ((with_reducible change ite (Region.wanted ⟨none, (Go.Op.store _ _ _), _, _, _, _⟩ _ = true) _ _); have c0 := HNb.out.cell? 0; have f0 := HNb.out.frozen 0; simp only [List.getElem?_cons_zero] at c0; go_simp; refine hK _ _ ?_; clear hK K c0 f0; (try simp only [Act.put]))
      | ((with_reducible change wpAny _ _ _ _ _ _ _ _); refine wpAny_ready (rs := [0, 1, 2]) (by decide +kernel) (by simp) ?_; refine AllReady.cons (o := ⟨some 16, _, _, _, _, _⟩) rfl (fun K hK => ?_) (AllReady.cons (o := ⟨some 17, _, _, _, _, _⟩) rfl (fun K hK => ?_) (AllReady.cons (o := ⟨some 18, _, _, _, _, _⟩) rfl (fun K hK => ?_) AllReady.nil)))
      | ((with_reducible change wpAny _ _ _ _ _ _ _ _); refine wpAny_ready (rs := [1, 2]) (by decide +kernel) (by simp) ?_; refine AllReady.cons (o := ⟨some 17, _, _, _, _, _⟩) rfl (fun K hK => ?_) (AllReady.cons (o := ⟨some 18, _, _, _, _, _⟩) rfl (fun K hK => ?_) AllReady.nil))
      | ((with_reducible change wpAny _ _ _ _ _ _ _ _); refine wpAny_ready (rs := [0, 2]) (by decide +kernel) (by simp) ?_; refine AllReady.cons (o := ⟨some 16, _, _, _, _, _⟩) rfl (fun K hK => ?_) (AllReady.cons (o := ⟨some 18, _, _, _, _, _⟩) rfl (fun K hK => ?_) AllReady.nil))
      | ((with_reducible change wpAny _ _ _ _ _ _ _ _); refine wpAny_ready (rs := [0, 1]) (by decide +kernel) (by simp) ?_; refine AllReady.cons (o := ⟨some 16, _, _, _, _, _⟩) rfl (fun K hK => ?_) (AllReady.cons (o := ⟨some 17, _, _, _, _, _⟩) rfl (fun K hK => ?_) AllReady.nil))
      | ((with_reducible change wpAny _ _ _ _ _ _ _ _); refine wpAny_ready (rs := [0, 3]) (by decide +kernel) (by simp) ?_; refine AllReady.cons (o := ⟨some 16, _, _, _, _, _⟩) rfl (fun K hK => ?_) (AllReady.cons (o := ⟨some 19, _, _, _, _, _⟩) rfl (fun K hK => ?_) AllReady.nil))
      | ((with_reducible change wpAny _ _ _ _ _ _ _ _); refine wpAny_ready (rs := [0, 4]) (by decide +kernel) (by simp) ?_; refine AllReady.cons (o := ⟨some 16, _, _, _, _, _⟩) rfl (fun K hK => ?_) (AllReady.cons (o := ⟨some 20, _, _, _, _, _⟩) rfl (fun K hK => ?_) AllReady.nil))
      | ((with_reducible change wpAny _ _ _ _ _ _ _ _); refine wpAny_ready (rs := [2]) (by decide +kernel) (by simp) ?_; refine AllReady.cons (o := ⟨some 18, _, _, _, _, _⟩) rfl (fun K hK => ?_) AllReady.nil)
      | ((with_reducible change wpAny _ _ _ _ _ _ _ _); refine wpAny_ready (rs := [1]) (by decide +kernel) (by simp) ?_; refine AllReady.cons (o := ⟨some 17, _, _, _, _, _⟩) rfl (fun K hK => ?_) AllReady.nil)
      | ((with_reducible change wpAny _ _ _ _ _ _ _ _); refine wpAny_ready (rs := [0]) (by decide +kernel) (by simp) ?_; refine AllReady.cons (o := ⟨some 16, _, _, _, _, _⟩) rfl (fun K hK => ?_) AllReady.nil)
      | ((with_reducible change wpAny _ _ _ _ _ _ _ _); refine wpAny_ready (rs := [3]) (by decide +kernel) (by simp) ?_; refine AllReady.cons (o := ⟨some 19, _, _, _, _, _⟩) rfl (fun K hK => ?_) AllReady.nil)
      | ((with_reducible change wpAny _ _ _ _ _ _ _ _); refine wpAny_ready (rs := [4]) (by decide +kernel) (by simp) ?_; refine AllReady.cons (o := ⟨some 20, _, _, _, _, _⟩) rfl (fun K hK => ?_) AllReady.nil)
      | ((with_reducible change wpAny _ _ _ _ _ _ _ _); refine wpAny_ready (rs := [5]) (by decide +kernel) (by simp) ?_; refine AllReady.cons (o := ⟨some 21, _, _, _, _, _⟩) rfl (fun K hK => ?_) AllReady.nil)
      | ((with_reducible change wpAny _ _ _ _ _ _ _ _); refine wpAny_ready (rs := [6]) (by decide +kernel) (by simp) ?_; refine AllReady.cons (o := ⟨none, _, _, _, _, _⟩) rfl (fun K hK => ?_) AllReady.nil)
      | ((with_reducible change wpAny _ _ _ _ _ _ _ _); refine wpAny_done (by decide +kernel) ?_ _; exact HEnd.out _ HNb.out HPb.out HGr.out)
      | fail)
  case done =>
    rintro D ys X hD hys hi hKd
    have HI : Kp _ := ⟨hi⟩
    have HKd : Kp _ := ⟨hKd⟩
    have c0 : X.cell? ⟨Nb, 0, none⟩ = some (.int .i64 (ctL g (ksL F T) : Int)) := by rw [← hys]; exact hi.n.cell? 0
    obtain ⟨s2, hs2⟩ : ∃ x, x = ctL g (ksL F T) := ⟨_, rfl⟩
    rw [← hs2] at c0
    have HS2 : Kp _ := ⟨hs2⟩
    clear hi hKd hys hs2
    go_wp2
    refine ⟨by simp, .inl ⟨_, _, rfl, run_takeDeferred HKd.out, ?_⟩⟩
    exact ⟨_, results_tmp rfl _ _ _, ret_eq (by rw [← HS2.out]; rfl), below_nc HI.out.low (grownBy_putObj' X D _) (fun r e => by cases e; exact (by omega : w.heap.size ≤ D)) (Nat.le_refl _) (Nat.le_refl _)⟩
  case stop =>
    rintro D cc pre X hD hp h _
    exact h.elim
def fulW (b : List UInt8) (F T k : Nat) : Nat := askN F T k &&& wdN b k
theorem fulW_lt (b : List UInt8) (F T k : Nat) : fulW b F T k < 18446744073709551616 := Nat.lt_of_le_of_lt Nat.and_le_left (askN_lt _ _ _)
theorem full_words (b : List UInt8) (F T : Nat) : (fullL b F T).length = ctL (fulW b F T) (ksL F T) := by
  rw [ctL_flat]
  congr 1
  refine pick_words _ F T (fulW b F T) fun k j hj => ?_
  unfold fulW
  rw [Nat.testBit_and, askN_bit _ _ _ _ hj, wdN_bit _ _ _ hj]
theorem free_count (b : List UInt8) (F T : Nat) : (freeL b F T).length = ctL (fwN b F T) (ksL F T) := by
  rw [ctL_flat, free_words]
  rfl
/-- how many are free -/
theorem ctfree_any (A : Option Addr) (n c : Nat) (b : List UInt8) (f t : Int) (w : World) (hb : Bs w w.heap.size A n c b) (hn : n ≤ 4294967296) (hf : f ≤ 9223372036854775807) (ht : t ≤ 9223372036854775807) :
    Calls Tryd.prog 25 #[.slice A n c, .int .i64 f, .int .i64 t, .func (.func 26) #[] #[]] w fun e w' => e = .returned (.int .i64 ((freeL b f.toNat (hiN n t)).length : Int)) ∧ Below w.heap.size w w' := by
  rw [free_count]
  exact count_any A n c b f t _ _ w hb hn hf ht (enters_of Tryd.func26 (by kernel_rfl) rfl) (fwN_lt b _ _) (fun k X => free_any _ _ _ X (askN_lt _ _ k) (wdN_lt b k))
theorem counts_any (A : Option Addr) (n c : Nat) (b : List UInt8) (f t : Int) (w : World) (hb : Bs w w.heap.size A n c b) (hn : n ≤ 4294967296) (hf : f ≤ 9223372036854775807) (ht : t ≤ 9223372036854775807) :
    Calls Tryd.prog 20 #[.slice A n c, .int .i64 f, .int .i64 t] w fun e w' => e = .returned (.int .i64 ((fullL b f.toNat (hiN n t)).length : Int)) ∧ Below w.heap.size w w' := by
  have h := count_any A n c b f t _ _ w hb hn hf ht (enters_of Tryd.func32 (by kernel_rfl) rfl) (fulW_lt b f.toNat (hiN n t)) (fun k X => full_any _ _ _ X (askN_lt _ _ k) (wdN_lt b k))
  rw [← full_words] at h
  have H : Kp _ := ⟨h⟩
  clear h hb
  go_enter Tryd.func20, Tryd.ntmps20
  go_wp2_with fail
  refine H.out.mono ?_
  rintro e w1 ⟨rfl, hb1⟩
  have HB : Kp _ := ⟨hb1⟩
  clear hb1
  go_wp2
  go_ret
  exact ⟨rfl, HB.out⟩
end
end Go.Proofs.YtgkeckfiacdpkaaDoor
