/- The law NodeFree. -/
import Derived.Test.YtmiobgongddaiaaLw13b
namespace Go.Proofs.Ytmiobgongddaiaa
open Go.RowKit Go.Shelf

theorem wpStill_eql {P : Program} {w : World} {ops : Array Oper} {rest : List Oper} {o : Oper} {a : Act} {t : TypeId} {Q : Act → Prop} (hG : P.eqGuardType P.depth t = false) (hw : Region.wanted o (yielded ops a.tmps) = true) (x y : Operand) {t' : TypeId} (hop : o.op = .binOp .eql t x y t') {u v : Array Value} (hx : a.eval x = .agg u) (hy : a.eval y = .agg v) {q : Bool}
    (hr : (Op.equalIn 10000 t (.agg u) (.agg v)).run P w = .ok q w)
    (h : wpStill P ops w Q rest (a.put o.dst (.bool q))) : wpStill P ops w Q (o :: rest) a := by
  refine wpStill_step fun K hK => ?_
  rw [if_pos hw]
  unfold Oper.still
  simp only [execOp, hop, hx, hy, Sem.run_bind, run_eqGuard_agg (w := w) _ _ _ _ _ _ hG, Result.andThen_ok, run_eql_struct, hr, Sem.run_pure]
  exact ⟨rfl, hK _ h⟩
theorem wpStill_build0 {P : Program} {w : World} {ops : Array Oper} {rest : List Oper} {o : Oper} {a : Act} {t : TypeId} {Q : Act → Prop} (hw : Region.wanted o (yielded ops a.tmps) = true) (hop : o.op = .build t #[]) {cs : Array Value} (hb : P.built t [] = some cs)
    (h : wpStill P ops w Q rest (a.put o.dst (.agg cs))) : wpStill P ops w Q (o :: rest) a := by
  refine wpStill_step fun K hK => ?_
  rw [if_pos hw]
  unfold Oper.still
  rw [exec_build (vs := []) hop rfl hb]
  exact ⟨rfl, hK _ h⟩
theorem exec_eql {P : Program} {w : World} {o : Oper} {a : Act} {t : TypeId} (hG : P.eqGuardType P.depth t = false) {x y : Operand} {t' : TypeId} (hop : o.op = .binOp .eql t x y t') {u v : Array Value} (hx : a.eval x = .agg u) (hy : a.eval y = .agg v) {q : Bool}
    (hr : (Op.equalIn 10000 t (.agg u) (.agg v)).run P w = .ok q w) : (execOp a.eval o).run P w = .ok (.value (.bool q)) w := by
  simp only [execOp, hop, hx, hy, Sem.run_bind, run_eqGuard_agg (w := w) _ _ _ _ _ _ hG, Result.andThen_ok, run_eql_struct, hr, Sem.run_pure]
section
set_option maxRecDepth 100000
set_option maxHeartbeats 8000000
theorem law_nodeFree (zs ys : List Int) (w : World) (hl : zs.length = 10) (_hz : ∀ z ∈ zs, (Lit.int .i64 z).wf = true) (hl2 : ys.length = 10) (_hz2 : ∀ z ∈ ys, (Lit.int .i64 z).wf = true) :
    Calls Try.prog 8 #[.agg (cellsZ zs).toArray, .agg (cellsZ ys).toArray] w fun e w' => e = .returned (.bool true) ∧ Below w.heap.size w w' := by
  have HL1 : Kp (zs.length = 10) := ⟨hl⟩
  have HL2 : Kp (ys.length = 10) := ⟨hl2⟩
  have HLx : Kp ((cellsZ zs).length = 10) := ⟨by rw [cellsZ_length]; exact hl⟩
  have HLy : Kp ((cellsZ ys).length = 10) := ⟨by rw [cellsZ_length]; exact hl2⟩
  obtain ⟨X, hX⟩ : ∃ X, X = w.heap.size := ⟨_, rfl⟩
  obtain ⟨Y, hY⟩ : ∃ Y, Y = w.heap.size + 1 := ⟨_, rfl⟩
  have hb1 : Below w.heap.size w ((w.alloc (.cells (cellsZ zs).toArray 24)).alloc (.cells (cellsZ ys).toArray 24)) := ((Below.refl _ w).alloc (Nat.le_refl _) _).alloc (by simp) _
  have hk1 : Blk ((w.alloc (.cells (cellsZ zs).toArray 24)).alloc (.cells (cellsZ ys).toArray 24)) w.heap.size 24 (cellsZ zs) := (Blk.new w _ _).alloc _
  have hk2 : Blk ((w.alloc (.cells (cellsZ zs).toArray 24)).alloc (.cells (cellsZ ys).toArray 24)) (w.heap.size + 1) 24 (cellsZ ys) := by
    have h := Blk.new (w.alloc (.cells (cellsZ zs).toArray 24)) 24 (cellsZ ys)
    rwa [World.size_alloc] at h
  rw [← hX] at hk1
  rw [← hY] at hk2
  have HX : Kp _ := ⟨hk1⟩
  have HY : Kp _ := ⟨hk2⟩
  have HBel : Kp _ := ⟨hb1⟩
  clear hk1 hk2 hb1 hl hl2
  go_enter Try.func8, Try.ntmps8
  go_upto_region 1 with fail
  rw [← hY, ← hX]
  generalize (w.alloc (.cells (cellsZ zs).toArray 24)).alloc (.cells (cellsZ ys).toArray 24) = w1 at *
  clear hX hY
  cases hx : okN zs with
  | false =>
    cases hy : okN ys with
    | false =>
      have h1 := encode_any zs HL1.out w1
      have h2 := fun W => encode_any ys HL2.out W
      have hr1 := fun W => right_any zs HL1.out W
      have hr2 := fun W => right_any ys HL2.out W
      unfold encE encA at h1 h2
      rw [hx, if_neg (by decide), if_neg (by decide)] at h1
      simp only [hy, Bool.false_eq_true, if_false] at h2
      rw [hx] at hr1
      rw [hy] at hr2
      have HE1 : Kp _ := ⟨h1⟩
      have HE2 : Kp _ := ⟨h2⟩
      have HRx : Kp _ := ⟨hr1⟩
      have HRy : Kp _ := ⟨hr2⟩
      clear h1 h2 hr1 hr2
      go_wp2_with (refine wpList_loadAll rwNd rfl (.tmp 2) rfl rfl HX.out HLx.out ?_)
      refine HE1.out.mono ?_
      rintro e w2 ⟨A1, n1, c1, rfl, hbs, _, hb⟩
      have HA1 : Kp _ := ⟨hbs⟩
      replace HX : Kp _ := ⟨HX.out.below hb HX.out.lt⟩
      replace HY : Kp _ := ⟨HY.out.below hb HY.out.lt⟩
      replace HBel : Kp _ := ⟨HBel.out.trans (hb.mono HBel.out.size)⟩
      clear hbs hb HE1
      go_wp2_with (refine wpList_loadAll rwNd rfl (.tmp 3) rfl rfl HY.out HLy.out ?_)
      refine (HE2.out _).mono ?_
      rintro e w3 ⟨A2, n2, c2, rfl, hbs, _, hb⟩
      have HA2 : Kp _ := ⟨hbs⟩
      replace HA1 : Kp _ := ⟨HA1.out.next hb (Nat.le_refl _)⟩
      replace HX : Kp _ := ⟨HX.out.below hb HX.out.lt⟩
      replace HY : Kp _ := ⟨HY.out.below hb HY.out.lt⟩
      replace HBel : Kp _ := ⟨HBel.out.trans (hb.mono HBel.out.size)⟩
      clear hbs hb HE2
      go_wp2_with (refine wpList_loadAll_g rwNd rfl (.tmp 2) rfl rfl HX.out HLx.out ?_)
      refine (HRx.out _).mono ?_
      rintro e y2 ⟨rfl, hb⟩
      replace HX : Kp _ := ⟨HX.out.below hb HX.out.lt⟩
      replace HY : Kp _ := ⟨HY.out.below hb HY.out.lt⟩
      replace HBel : Kp _ := ⟨HBel.out.trans (hb.mono HBel.out.size)⟩
      clear hb
      go_wp2_with (refine wpList_loadAll_g rwNd rfl (.tmp 3) rfl rfl HY.out HLy.out ?_)
      refine (HRy.out _).mono ?_
      rintro e y3 ⟨rfl, hb⟩
      replace HX : Kp _ := ⟨HX.out.below hb HX.out.lt⟩
      replace HY : Kp _ := ⟨HY.out.below hb HY.out.lt⟩
      replace HBel : Kp _ := ⟨HBel.out.trans (hb.mono HBel.out.size)⟩
      clear hb
      go_wp2_with fail
      refine (known13_any _).mono ?_
      rintro e x9 ⟨rfl, hb⟩
      have HBel9 : Kp _ := ⟨HBel.out.trans (hb.mono HBel.out.size)⟩
      clear hb
      go_wp2
      go_ret
      exact ⟨rfl, HBel9.out⟩
    | true =>
      have h1 := encode_any zs HL1.out w1
      have h2 := fun W => encode_any ys HL2.out W
      have hr1 := fun W => right_any zs HL1.out W
      have hr2 := fun W => right_any ys HL2.out W
      unfold encE encA at h1 h2
      rw [hx, if_neg (by decide), if_neg (by decide)] at h1
      simp only [hy, if_true] at h2
      rw [hx] at hr1
      rw [hy] at hr2
      have HE1 : Kp _ := ⟨h1⟩
      have HE2 : Kp _ := ⟨h2⟩
      have HRx : Kp _ := ⟨hr1⟩
      have HRy : Kp _ := ⟨hr2⟩
      clear h1 h2 hr1 hr2
      go_wp2_with (refine wpList_loadAll rwNd rfl (.tmp 2) rfl rfl HX.out HLx.out ?_)
      refine HE1.out.mono ?_
      rintro e w2 ⟨A1, n1, c1, rfl, hbs, _, hb⟩
      have HA1 : Kp _ := ⟨hbs⟩
      replace HX : Kp _ := ⟨HX.out.below hb HX.out.lt⟩
      replace HY : Kp _ := ⟨HY.out.below hb HY.out.lt⟩
      replace HBel : Kp _ := ⟨HBel.out.trans (hb.mono HBel.out.size)⟩
      clear hbs hb HE1
      go_wp2_with (refine wpList_loadAll rwNd rfl (.tmp 3) rfl rfl HY.out HLy.out ?_)
      refine (HE2.out _).mono ?_
      rintro e w3 ⟨A2, n2, c2, rfl, hbs, _, hb⟩
      obtain rfl : n2 = 64 := by rw [← hbs.len]; exact encN_length ys HL2.out
      have HA2 : Kp _ := ⟨hbs⟩
      replace HA1 : Kp _ := ⟨HA1.out.next hb (Nat.le_refl _)⟩
      replace HX : Kp _ := ⟨HX.out.below hb HX.out.lt⟩
      replace HY : Kp _ := ⟨HY.out.below hb HY.out.lt⟩
      replace HBel : Kp _ := ⟨HBel.out.trans (hb.mono HBel.out.size)⟩
      clear hbs hb HE2
      go_wp2_with (refine wpList_loadAll_g rwNd rfl (.tmp 2) rfl rfl HX.out HLx.out ?_)
      refine (HRx.out _).mono ?_
      rintro e y2 ⟨rfl, hb⟩
      replace HX : Kp _ := ⟨HX.out.below hb HX.out.lt⟩
      replace HY : Kp _ := ⟨HY.out.below hb HY.out.lt⟩
      replace HBel : Kp _ := ⟨HBel.out.trans (hb.mono HBel.out.size)⟩
      clear hb
      go_wp2_with fail
      refine (known13_any _).mono ?_
      rintro e x9 ⟨rfl, hb⟩
      have HBel9 : Kp _ := ⟨HBel.out.trans (hb.mono HBel.out.size)⟩
      clear hb
      go_wp2
      go_ret
      exact ⟨rfl, HBel9.out⟩
  | true =>
    cases hy : okN ys with
    | false =>
      have h1 := encode_any zs HL1.out w1
      have h2 := fun W => encode_any ys HL2.out W
      have hr1 := fun W => right_any zs HL1.out W
      have hr2 := fun W => right_any ys HL2.out W
      unfold encE encA at h1 h2
      rw [hx, if_pos rfl, if_pos rfl] at h1
      simp only [hy, Bool.false_eq_true, if_false] at h2
      rw [hx] at hr1
      rw [hy] at hr2
      have HE1 : Kp _ := ⟨h1⟩
      have HE2 : Kp _ := ⟨h2⟩
      have HRx : Kp _ := ⟨hr1⟩
      have HRy : Kp _ := ⟨hr2⟩
      clear h1 h2 hr1 hr2
      go_wp2_with (refine wpList_loadAll rwNd rfl (.tmp 2) rfl rfl HX.out HLx.out ?_)
      refine HE1.out.mono ?_
      rintro e w2 ⟨A1, n1, c1, rfl, hbs, _, hb⟩
      obtain rfl : n1 = 64 := by rw [← hbs.len]; exact encN_length zs HL1.out
      have HA1 : Kp _ := ⟨hbs⟩
      replace HX : Kp _ := ⟨HX.out.below hb HX.out.lt⟩
      replace HY : Kp _ := ⟨HY.out.below hb HY.out.lt⟩
      replace HBel : Kp _ := ⟨HBel.out.trans (hb.mono HBel.out.size)⟩
      clear hbs hb HE1
      go_wp2_with (refine wpList_loadAll rwNd rfl (.tmp 3) rfl rfl HY.out HLy.out ?_)
      refine (HE2.out _).mono ?_
      rintro e w3 ⟨A2, n2, c2, rfl, hbs, _, hb⟩
      have HA2 : Kp _ := ⟨hbs⟩
      replace HA1 : Kp _ := ⟨HA1.out.next hb (Nat.le_refl _)⟩
      replace HX : Kp _ := ⟨HX.out.below hb HX.out.lt⟩
      replace HY : Kp _ := ⟨HY.out.below hb HY.out.lt⟩
      replace HBel : Kp _ := ⟨HBel.out.trans (hb.mono HBel.out.size)⟩
      clear hbs hb HE2
      go_wp2_with (refine wpList_loadAll_g rwNd rfl (.tmp 3) rfl rfl HY.out HLy.out ?_)
      refine (HRy.out _).mono ?_
      rintro e y3 ⟨rfl, hb⟩
      replace HX : Kp _ := ⟨HX.out.below hb HX.out.lt⟩
      replace HY : Kp _ := ⟨HY.out.below hb HY.out.lt⟩
      replace HBel : Kp _ := ⟨HBel.out.trans (hb.mono HBel.out.size)⟩
      clear hb
      go_wp2_with fail
      refine (known13_any _).mono ?_
      rintro e x9 ⟨rfl, hb⟩
      have HBel9 : Kp _ := ⟨HBel.out.trans (hb.mono HBel.out.size)⟩
      clear hb
      go_wp2
      go_ret
      exact ⟨rfl, HBel9.out⟩
    | true =>
      have HSe0 : Kp _ := ⟨enc_inj zs ys HL1.out HL2.out hx hy⟩
      have HFr : Kp _ := ⟨enc_free zs HL1.out hx⟩
      have h1 := encode_any zs HL1.out w1
      have h2 := fun W => encode_any ys HL2.out W
      have hr1 := fun W => right_any zs HL1.out W
      have hr2 := fun W => right_any ys HL2.out W
      unfold encE encA at h1 h2
      rw [hx, if_pos rfl, if_pos rfl] at h1
      simp only [hy, if_true] at h2
      rw [hx] at hr1
      rw [hy] at hr2
      have HE1 : Kp _ := ⟨h1⟩
      have HE2 : Kp _ := ⟨h2⟩
      have HRx : Kp _ := ⟨hr1⟩
      have HRy : Kp _ := ⟨hr2⟩
      clear h1 h2 hr1 hr2
      go_wp2_with (refine wpList_loadAll rwNd rfl (.tmp 2) rfl rfl HX.out HLx.out ?_)
      refine HE1.out.mono ?_
      rintro e w2 ⟨A1, n1, c1, rfl, hbs, _, hb⟩
      obtain rfl : n1 = 64 := by rw [← hbs.len]; exact encN_length zs HL1.out
      have HA1 : Kp _ := ⟨hbs⟩
      replace HX : Kp _ := ⟨HX.out.below hb HX.out.lt⟩
      replace HY : Kp _ := ⟨HY.out.below hb HY.out.lt⟩
      replace HBel : Kp _ := ⟨HBel.out.trans (hb.mono HBel.out.size)⟩
      clear hbs hb HE1
      go_wp2_with (refine wpList_loadAll rwNd rfl (.tmp 3) rfl rfl HY.out HLy.out ?_)
      refine (HE2.out _).mono ?_
      rintro e w3 ⟨A2, n2, c2, rfl, hbs, _, hb⟩
      obtain rfl : n2 = 64 := by rw [← hbs.len]; exact encN_length ys HL2.out
      have HA2 : Kp _ := ⟨hbs⟩
      replace HA1 : Kp _ := ⟨HA1.out.next hb (Nat.le_refl _)⟩
      replace HX : Kp _ := ⟨HX.out.below hb HX.out.lt⟩
      replace HY : Kp _ := ⟨HY.out.below hb HY.out.lt⟩
      replace HBel : Kp _ := ⟨HBel.out.trans (hb.mono HBel.out.size)⟩
      clear hbs hb HE2
      obtain ⟨z0, hz0⟩ := ten_at HL1.out 0 (by decide)
      have HC0 : Kp _ := ⟨cellsZ_at hz0⟩
      have HD0 : Kp (zs.getD 0 0 = z0) := ⟨by rw [List.getD_eq_getElem?_getD, hz0]; rfl⟩
      obtain ⟨q1, hq1⟩ : ∃ q, q = (zs == ys) := ⟨_, rfl⟩
      have HSe : Kp ((encN zs == encN ys) = q1) := ⟨by rw [HSe0.out, hq1]⟩
      have HRun : Kp _ := ⟨fun W => run_eqN W zs ys HL1.out HL2.out⟩
      rw [← hq1] at HRun
      obtain ⟨G, hG⟩ : ∃ G, G = w3.heap.size := ⟨_, rfl⟩
      have hGle : G ≤ w3.heap.size := by omega
      clear hz0 hq1 hx hy HSe0
      go_wp2_with (refine wpList_mk el8 rfl _ _ rfl G _ _ _ _ 64 rfl rfl rfl rfl (by decide) (by decide) hGle ?_)
      intro w4 hown hg
      rw [← hG] at hown ⊢
      have hown' : w4.ownsRow G 5 1 (.slice (some ⟨G, 0, none⟩) 64 64) 64 (cells8 (List.replicate 64 0)) := hown
      have hb : Below w3.heap.size w3 w4 := (Below.refl _ _).grown hg (Nat.le_refl _) (by simp)
      obtain ⟨A3, c3, hv3, hbs3⟩ := Bs.of_own hown'
      cases hv3
      have HN : Kp _ := ⟨hbs3⟩
      replace HA1 : Kp _ := ⟨HA1.out.next hb (Nat.le_refl _)⟩
      replace HA2 : Kp _ := ⟨HA2.out.next hb (Nat.le_refl _)⟩
      replace HX : Kp _ := ⟨HX.out.below hb HX.out.lt⟩
      replace HY : Kp _ := ⟨HY.out.below hb HY.out.lt⟩
      replace HBel : Kp _ := ⟨HBel.out.trans (hb.mono HBel.out.size)⟩
      clear hb hbs3 hown hown' hg hG hGle
      have HK1 : Kp (Calls Try.prog 16 #[.slice A1 64 c1, .slice A2 64 c2] w4.drew fun e w' => e = .returned (.bool q1) ∧ w' = w4.drew) := ⟨by
        have h := same_any A1 A2 64 c1 64 c2 _ _ w4.drew _ _ HA1.out.drew HA2.out.drew
        rw [HSe.out] at h
        exact h.mono fun e w' h => ⟨h.1, h.2.symm⟩⟩
      have c0 : w4.drew.cell? ⟨X, 0, none⟩ = some (.int .i64 z0) := (HX.out.cell? 0).trans HC0.out
      have HX' : Kp _ := ⟨HX.out.drew⟩
      have HY' : Kp _ := ⟨HY.out.drew⟩
      have HBel' : Kp _ := ⟨HBel.out.drew⟩
      by_cases h0 : z0 = 0
      · subst h0
        have HRz : Kp _ := ⟨fun W => run_eqN W zs zero10 HL1.out rfl⟩
        rw [show (zs == zero10) = true from by have h := HFr.out.2; rw [HD0.out] at h; exact h.symm] at HRz
        have HK2 : Kp (Calls Try.prog 16 #[.slice A1 64 c1, .slice (some ⟨G, 0, none⟩) 64 64] w4.drew fun e w' => e = .returned (.bool true) ∧ w' = w4.drew) := ⟨by
          have h := same_any A1 (some ⟨G, 0, none⟩) 64 c1 64 64 _ _ w4.drew _ _ HA1.out.drew HN.out.drew
          rw [show (encN zs == List.replicate 64 0) = true from by rw [HFr.out.1, HD0.out]; rfl] at h
          exact h.mono fun e w' h => ⟨h.1, h.2.symm⟩⟩
        clear HFr HD0 HX HY HBel HA1 HA2 HN
        go_upto_region 6 with fail
        refine wp_region_still_tail 27 (by kernel_rfl) (by kernel_rfl) ?_
        simp only [List.take_succ_cons, List.take_zero, List.drop_succ_cons, List.drop_zero]
        change wpStill _ _ w4.drew (fun a' => wpList _ _ _ _ a' w4.drew) _ _
        generalize w4.drew = w5 at *
        iterate 2 still_step
        still_call HK1.out
        refine wpStill_load (o := ⟨some 49, _, _, _, _, _⟩) rwNd rfl (.tmp 2) rfl rfl HX'.out (fit_all HLx.out) (take_all HLx.out) ?_
        simp only [Act.put, List.setIfInBounds_toArray, List.set_cons_zero, List.set_cons_succ]
        refine wpStill_load (o := ⟨some 50, _, _, _, _, _⟩) rwNd rfl (.tmp 3) rfl rfl HY'.out (fit_all HLy.out) (take_all HLy.out) ?_
        simp only [Act.put, List.setIfInBounds_toArray, List.set_cons_zero, List.set_cons_succ]
        refine wpStill_eql (o := ⟨some 51, _, _, _, _, _⟩) eqG rfl (.tmp 49) (.tmp 50) rfl rfl rfl (HRun.out w5) ?_
        simp only [Act.put, List.setIfInBounds_toArray, List.set_cons_zero, List.set_cons_succ]
        iterate 4 still_step
        still_call HK2.out
        iterate 10 still_step
        refine wpStill_load (o := ⟨some 67, _, _, _, _, _⟩) rwNd rfl (.tmp 2) rfl rfl HX'.out (fit_all HLx.out) (take_all HLx.out) ?_
        simp only [Act.put, List.setIfInBounds_toArray, List.set_cons_zero, List.set_cons_succ]
        refine wpStill_build0 (o := ⟨some 68, _, _, _, _, _⟩) rfl rfl built_zero ?_
        simp only [Act.put, List.setIfInBounds_toArray, List.set_cons_zero, List.set_cons_succ]
        refine wpStill_eql (o := ⟨some 69, _, _, _, _, _⟩) eqG rfl (.tmp 67) (.tmp 68) rfl rfl rfl (HRz.out w5) ?_
        simp only [Act.put, List.setIfInBounds_toArray, List.set_cons_zero, List.set_cons_succ]
        iterate 3 still_step
        refine wpStill_nil ?_
        go_wp2_with fail
        refine (known13_any _).mono ?_
        rintro e x9 ⟨rfl, hb⟩
        have HBel9 : Kp _ := ⟨HBel'.out.trans (hb.mono HBel'.out.size)⟩
        clear hb
        go_wp2
        go_ret
        exact ⟨rfl, HBel9.out⟩
      · have hz1 : (z0 == 0) = false := by rw [beq_eq_false_iff_ne]; exact h0
        have HK2 : Kp (Calls Try.prog 16 #[.slice A1 64 c1, .slice (some ⟨G, 0, none⟩) 64 64] w4.drew fun e w' => e = .returned (.bool false) ∧ w' = w4.drew) := ⟨by
          have h := same_any A1 (some ⟨G, 0, none⟩) 64 c1 64 64 _ _ w4.drew _ _ HA1.out.drew HN.out.drew
          rw [show (encN zs == List.replicate 64 0) = false from by rw [HFr.out.1, HD0.out]; exact hz1] at h
          exact h.mono fun e w' h => ⟨h.1, h.2.symm⟩⟩
        clear HFr HD0 HX HY HBel HA1 HA2 HN
        go_upto_region 6 with fail
        refine wp_region_still_tail 27 (by kernel_rfl) (by kernel_rfl) ?_
        simp only [List.take_succ_cons, List.take_zero, List.drop_succ_cons, List.drop_zero]
        change wpStill _ _ w4.drew (fun a' => wpList _ _ _ _ a' w4.drew) _ _
        generalize w4.drew = w5 at *
        iterate 2 still_step
        still_call HK1.out
        refine wpStill_load (o := ⟨some 49, _, _, _, _, _⟩) rwNd rfl (.tmp 2) rfl rfl HX'.out (fit_all HLx.out) (take_all HLx.out) ?_
        simp only [Act.put, List.setIfInBounds_toArray, List.set_cons_zero, List.set_cons_succ]
        refine wpStill_load (o := ⟨some 50, _, _, _, _, _⟩) rwNd rfl (.tmp 3) rfl rfl HY'.out (fit_all HLy.out) (take_all HLy.out) ?_
        simp only [Act.put, List.setIfInBounds_toArray, List.set_cons_zero, List.set_cons_succ]
        refine wpStill_eql (o := ⟨some 51, _, _, _, _, _⟩) eqG rfl (.tmp 49) (.tmp 50) rfl rfl rfl (HRun.out w5) ?_
        simp only [Act.put, List.setIfInBounds_toArray, List.set_cons_zero, List.set_cons_succ]
        iterate 4 still_step
        still_call HK2.out
        iterate 10 still_step
        iterate 3 still_step
        iterate 3 still_step
        refine wpStill_nil ?_
        go_wp2_with fail
        refine (known13_any _).mono ?_
        rintro e x9 ⟨rfl, hb⟩
        have HBel9 : Kp _ := ⟨HBel'.out.trans (hb.mono HBel'.out.size)⟩
        clear hb
        go_wp2
        go_ret
        exact ⟨rfl, HBel9.out⟩
end
end Go.Proofs.Ytmiobgongddaiaa
