/- The contract of package node's Pointers. -/
import Derived.Test.YtmiobgongddaiaaNdC
import Derived.WalkArith
namespace Go.Proofs.Ytmiobgongddaiaa
open Go.RowKit Go.Shelf

theorem results_si {P : Program} {w : World} {tmps : Array Value} {t u q' : TypeId} {fn : Func} {p q : Tmp} {k : IntKind} (hr : fn.results = #[.cell p t, .cell q u]) (ht : P.underlying t = some (.slice q')) (hu : P.underlying u = some (.int k)) {g h : Nat} {t' u' : TypeId} {A : Option Addr} {n c : Nat} {z : Int}
    (hx : tmps.getD p undef = .pointer (some ⟨g, 0, none⟩)) (hy : tmps.getD q undef = .pointer (some ⟨h, 0, none⟩)) (hb : Blk w g t' [.slice A n c]) (hc : Blk w h u' [.int k z]) :
    (results fn tmps).run P w = .ok (.tuple #[.slice A n c, .int k z]) w := by
  have c1 : w.cell? ⟨g, 0, none⟩ = some (.slice A n c) := hb.cell? 0
  have c2 : w.cell? ⟨h, 0, none⟩ = some (.int k z) := hc.cell? 0
  have hx' : tmps[p]?.getD undef = .pointer (some ⟨g, 0, none⟩) := by simpa using hx
  have hy' : tmps[q]?.getD undef = .pointer (some ⟨h, 0, none⟩) := by simpa using hy
  simp only [results, hr]
  simp [hx', hy', asAddr, loadVar, isAgg, run_underlying ht, run_underlying hu, Result.andThen, c1, c2]
theorem infInt : ((Try.prog).info? 3).map (fun i => (i.zero, i.size, i.bytes)) = some (some (.int .i64 0), 1, 8) := by kernel_rfl
section
variable {P : Program} {w : World} {ops : Array Oper} {o : Oper} {a : Act} {Q : Exit → Act → World → Prop} {t : TypeId}
/-- a new variable of one cell, wherever it stands -/
theorem step_alloc1 {K : Act → World → Prop} {C : Prop} {k : IntKind} {bytes : Nat} (hinf : (P.info? t).map (fun i => (i.zero, i.size, i.bytes)) = some (some (.int k 0), 1, bytes)) (hgd : o.guard = none) (hop : o.op = .alloc t)
    (h : ∀ w', Blk w' w.heap.size t [.int k 0] → Below w.heap.size w w' → K (a.put o.dst (.pointer (some ⟨w.heap.size, 0, none⟩))) w') :
    if Region.wanted o (yielded ops a.tmps) = true then Oper.wp P o a w K Q else C := by
  have hw : Region.wanted o (yielded ops a.tmps) = true := by simp [Region.wanted, hgd]
  rw [if_pos hw]
  obtain ⟨i, hi, hz0, hz1, hz2⟩ := info_parts hinf
  have hz : (zeroValue t).run P w = .ok (.int k 0) w := by simp [zeroValue, typeInfo, hi, hz0]
  unfold Oper.wp
  simp only [execOp, hop, Instr.alloc, Sem.run_bind, hz, Result.andThen_ok, newVar, Value.cells, Sem.run_pure]
  exact h _ (Blk.new w t [.int k 0]) ((Below.refl _ _).alloc (Nat.le_refl _) _)
end
theorem cellsZ_append (l m : List Int) : cellsZ (l ++ m) = cellsZ l ++ cellsZ m := by simp [cellsZ]
theorem below_lowS {X Y : World} {n₀ M n size : Nat} {e : TypeId} {v : Value} {xs : List Value} (h : X.ownsRow M e size v n xs) (hM : n₀ ≤ M) (hX : n₀ ≤ X.heap.size) (hg : X.grownBy Y v.ownBlock) : Below n₀ X Y :=
  ⟨hg.os, hg.tape, hg.output, hg.size, fun k hk => hg.block k (by omega) (fun e => by have := ownS_low h k e.symm; omega)⟩
theorem piece4 {w : World} {B bb oo n c : Nat} {b : List UInt8} (h : Bs w B (some ⟨bb, oo, none⟩) n c b) (j : Nat) (hj : 4 * j + 4 ≤ n) : Bs w B (some ⟨bb, oo + 4 * j, none⟩) 4 4 ((b.drop (4 * j)).take 4) := by
  have hl := h.len
  refine ⟨by simp; omega, Nat.le_refl _, by decide, (fun h => by cases h), fun _ => ?_⟩
  obtain ⟨b', o', hA, hb, hc⟩ := h.cells (by omega)
  cases hA
  refine ⟨bb, oo + 4 * j, rfl, hb, fun i hi => ?_⟩
  have hi4 : i < 4 := by simp at hi; omega
  have h1 := hc (4 * j + i) (by omega)
  rw [show oo + 4 * j + i = oo + (4 * j + i) by omega, h1]
  simp
/-- piece j of bytes, four wide -/
def pcL (b : List UInt8) (j : Nat) : List UInt8 := (b.drop (4 * j)).take 4
theorem zs_none (w : World) (B : Nat) (k : IntKind) : Zs w B k none 0 0 [] := ⟨rfl, Nat.le_refl _, Nat.zero_le _, fun _ => rfl, (fun z h => by cases h), fun h => absurd h (by omega)⟩
theorem wf_small {z : Int} (h1 : 0 ≤ z) (h2 : z ≤ 4095) : (Lit.int .i64 z).wf = true := WalkArith.wf_i64 ⟨by omega, by omega⟩
/-- number j of an index -/
def pvL (b : List UInt8) (j : Nat) : Int := (getN ((b.drop (4 * j)).take 4) : Nat)
def pvF (b : List UInt8) (j : Fin 64) : Int := pvL b j.val
theorem ptrL_eq (b : List UInt8) : ptrL b = (fl 64).map (pvF b) := by
  rw [fl_all]
  unfold ptrL
  refine List.ext_getElem? fun j => ?_
  by_cases hj : j < 64
  · have hw : (List.replicate 64 4)[j]? = some 4 := by rw [List.getElem?_replicate, if_pos hj]
    rw [decL_at _ _ _ _ hw, List.getElem?_map, List.getElem?_eq_getElem (by simpa using hj), List.take_replicate, sum_rep, Nat.min_eq_left (by omega)]
    simp [pvF, pvL, Nat.mul_comm]
  · rw [List.getElem?_eq_none (by rw [decL_length]; simp; omega), List.getElem?_eq_none (by simp; omega)]
/-- what lies between two rounds -/
structure PtI (b : List UInt8) (R1 R2 Lb M0 s0 : Nat) (w : World) (pre : List (Fin 64)) (X : World) : Prop where
  low : Below w.heap.size w X
  size : s0 ≤ X.heap.size
  r1 : Blk X R1 25 [.slice none 0 0]
  r2 : Blk X R2 28 [.int .i64 0]
  all : (pre.map (pvF b)).all ptrB = true
  row : ∃ v, Blk X Lb 25 [v] ∧ X.ownsRow M0 3 1 v pre.length (cellsZ (pre.map (pvF b))) ∧ ∀ r, v.ownBlock = some r → r = M0 ∨ s0 ≤ r
theorem PtI.own {b : List UInt8} {R1 R2 Lb M0 s0 B : Nat} {w : World} (hB : w.heap.size ≤ B) : OwnFrom B (PtI b R1 R2 Lb M0 s0 w) := fun _ _ _ _ h hg hr =>
  ⟨below_nc h.low hg (fun r e => (hr r e).1) hB (Nat.le_refl _), Nat.le_trans h.size hg.size, blk_nc h.r1 hg (fun r e => (hr r e).2), blk_nc h.r2 hg (fun r e => (hr r e).2), h.all, by
    obtain ⟨v, h1, h2, h3⟩ := h.row
    exact ⟨v, blk_nc h1 hg (fun r e => (hr r e).2), own_nc h2 hg (fun r e => (hr r e).2), h3⟩⟩
/-- the rounds were left: a number is no pointer -/
structure PtX (b : List UInt8) (R1 R2 : Nat) (w : World) (c : Code) (pre : List (Fin 64)) (X : World) : Prop where
  c : c = .ret
  low : Below w.heap.size w X
  r1 : Blk X R1 25 [.slice none 0 0]
  r2 : Blk X R2 28 [.int .i64 4]
  bad : ∃ j, j ∈ pre ∧ ptrB (pvF b j) = false
theorem PtX.own {b : List UInt8} {R1 R2 B : Nat} {w : World} (hB : w.heap.size ≤ B) (c : Code) : OwnFrom B (PtX b R1 R2 w c) := fun _ _ _ _ h hg hr =>
  ⟨h.c, below_nc h.low hg (fun r e => (hr r e).1) hB (Nat.le_refl _), blk_nc h.r1 hg (fun r e => (hr r e).2), blk_nc h.r2 hg (fun r e => (hr r e).2), h.bad⟩
section
set_option maxRecDepth 100000
set_option maxHeartbeats 4000000
theorem pointers_no (A : Option Addr) (n c : Nat) (w : World) (hn : ¬ ((n : Int) = 256)) :
    Calls Try.prog 21 #[.slice A n c] w fun e w' => e = .returned (.tuple #[.slice none 0 0, .int .i64 4]) ∧ Below w.heap.size w w' := by
  go_enter Try.func21, Try.ntmps21
  go_wp2
  refine bodyPost_ret (v := .tuple #[.slice none 0 0, .int .i64 4]) (results_si rfl Try.underlying25 Try.underlying28 rfl rfl (t' := 25) (u' := 28) ((Blk.new w _ [.slice none 0 0]).alloc _) ?_) rfl ?_
  · have h := Blk.new (w.alloc (.cells #[.slice none 0 0] 25)) 28 [.int .i64 4]
    rwa [World.size_alloc] at h
  · exact ⟨rfl, ((Below.refl _ w).alloc (Nat.le_refl _) _).alloc (by simp) _⟩
theorem pointers_yes (bb oo c : Nat) (b : List UInt8) (w : World) (hb : Bs w w.heap.size (some ⟨bb, oo, none⟩) 256 c b) :
    Calls Try.prog 21 #[.slice (some ⟨bb, oo, none⟩) 256 c] w fun e w' => ∃ A m d, e = .returned (.tuple #[.slice A m d, .int .i64 (ptrE b)]) ∧ Zs w' w'.heap.size .i64 A m d (ptrA b) ∧ Below w.heap.size w w' := by
  have HBs0 : Kp _ := ⟨hb⟩
  have HLn' : Kp (b.length = 256) := ⟨hb.len⟩
  obtain ⟨R1, hR1⟩ : ∃ x, x = w.heap.size := ⟨_, rfl⟩
  obtain ⟨R2, hR2⟩ : ∃ x, x = w.heap.size + 1 := ⟨_, rfl⟩
  have hb2 : Below w.heap.size w ((w.alloc (.cells #[.slice none 0 0] 25)).alloc (.cells #[.int .i64 0] 28)) := ((Below.refl _ w).alloc (Nat.le_refl _) _).alloc (by simp) _
  have hk1 : Blk ((w.alloc (.cells #[.slice none 0 0] 25)).alloc (.cells #[.int .i64 0] 28)) w.heap.size 25 [.slice none 0 0] := (Blk.new w _ [.slice none 0 0]).alloc _
  have hk2 : Blk ((w.alloc (.cells #[.slice none 0 0] 25)).alloc (.cells #[.int .i64 0] 28)) (w.heap.size + 1) 28 [.int .i64 0] := by
    have h := Blk.new (w.alloc (.cells #[.slice none 0 0] 25)) 28 [.int .i64 0]
    rwa [World.size_alloc] at h
  rw [← hR1] at hk1
  rw [← hR2] at hk2
  refine (callsIn_wide (n := 8)).1 (callsIn_of_wp_marks (F := Fence.wide) (n := 8) Try.func21 rfl trivial ?_ rfl)
  simp only [Try.ntmps21, List.size_toArray, List.length_cons, List.length_nil, Nat.reduceAdd, Nat.reduceSub, Array.replicate_succ, Array.replicate_zero, List.push_toArray, List.append_toArray, List.nil_append, List.cons_append]
  refine wpIn_wide.2 ?_
  go_upto_region 3 with fail
  rw [← hR2, ← hR1]
  generalize (w.alloc (.cells #[.slice none 0 0] 25)).alloc (.cells #[.int .i64 0] 28) = w1 at *
  have HB1 : Kp _ := ⟨hb2⟩
  have HK1 : Kp _ := ⟨hk1⟩
  have HK2 : Kp _ := ⟨hk2⟩
  have HR1w : Kp (w.heap.size ≤ R1) := ⟨by omega⟩
  have HR2w : Kp (w.heap.size ≤ R2) := ⟨by omega⟩
  have HR12 : Kp (R1 ≠ R2) := ⟨by omega⟩
  obtain ⟨M0, hM0⟩ : ∃ x, x = w1.heap.size := ⟨_, rfl⟩
  have HM1 : Kp (M0 = w1.heap.size) := ⟨hM0⟩
  have hM0le : M0 ≤ w1.heap.size := by omega
  have HMw : Kp (w.heap.size ≤ M0) := ⟨by rw [hM0]; exact hb2.size⟩
  have HMR1 : Kp (M0 ≠ R1) := ⟨by have := hk1.lt; omega⟩
  have HMR2 : Kp (M0 ≠ R2) := ⟨by have := hk2.lt; omega⟩
  have HMR : Kp (R1 < M0 ∧ R2 < M0) := ⟨by have := hk1.lt; have := hk2.lt; omega⟩
  clear hb2 hk1 hk2 hR1 hR2 hb hM0
  go_wp2_with (refine wpList_mk0 elI rfl _ _ rfl M0 _ _ _ 64 rfl rfl rfl (by decide) (by decide) hM0le ?_)
  intro w2 hown hb2
  rw [← HM1.out] at hown ⊢
  have HOw2 : Kp _ := ⟨hown.out⟩
  have HM2 : Kp (M0 < w2.heap.size) := ⟨by
    rcases hown.out.2 with ⟨h, _⟩ | ⟨g, cap, cur, h, _, hh, _⟩
    · cases h
    · have h2 := (Array.getElem?_eq_some_iff.1 hh).1
      cases h
      exact h2⟩
  have hb2' := hb2.mono (show w1.heap.size ≤ M0 by have := HM1.out; omega)
  have HB2 : Kp (Below w.heap.size w w2) := ⟨HB1.out.trans (hb2'.mono HB1.out.size)⟩
  have HK12 : Kp _ := ⟨HK1.out.below hb2' HK1.out.lt⟩
  have HK22 : Kp _ := ⟨HK2.out.below hb2' HK2.out.lt⟩
  clear hown hb2 hb2' HB1 HK1 HK2
  obtain ⟨Lb, hLb⟩ : ∃ x, x = w2.heap.size := ⟨_, rfl⟩
  have hb3 : Below w2.heap.size w2 (w2.alloc (.cells #[.slice (some ⟨M0, 0, none⟩) 0 64] 25)) := (Below.refl _ _).alloc (Nat.le_refl _) _
  have hk3 : Blk (w2.alloc (.cells #[.slice (some ⟨M0, 0, none⟩) 0 64] 25)) w2.heap.size 25 [.slice (some ⟨M0, 0, none⟩) 0 64] := Blk.new w2 _ _
  rw [← hLb] at hk3
  go_upto_region 4 with fail
  rw [← hLb]
  have HB3 : Kp (Below w.heap.size w (w2.alloc (.cells #[.slice (some ⟨M0, 0, none⟩) 0 64] 25))) := ⟨HB2.out.trans (hb3.mono HB2.out.size)⟩
  have HOw3 : Kp _ := ⟨ownS_below HOw2.out hb3⟩
  have HK13 : Kp _ := ⟨HK12.out.below hb3 HK12.out.lt⟩
  have HK23 : Kp _ := ⟨HK22.out.below hb3 HK22.out.lt⟩
  have HLv3 : Kp _ := ⟨hk3⟩
  have HLw : Kp (w.heap.size ≤ Lb) := ⟨by rw [hLb]; exact HB2.out.size⟩
  have HML : Kp (M0 ≠ Lb) := ⟨by have := HM2.out; omega⟩
  have HLR1 : Kp (R1 ≠ Lb) := ⟨by rw [hLb]; exact alloc_ne HK12.out⟩
  have HLR2 : Kp (R2 ≠ Lb) := ⟨by rw [hLb]; exact alloc_ne HK22.out⟩
  have HM3' : Kp (M0 < Lb) := ⟨by rw [hLb]; exact HM2.out⟩
  generalize w2.alloc (.cells #[.slice (some ⟨M0, 0, none⟩) 0 64] 25) = w25 at *
  clear hb3 hk3 hLb HB2 HK12 HK22 HOw2 HM2
  go_wp2_with fail
  refine (chunk_any _ _ _ w25).mono ?_
  rintro e w3 ⟨B, hBs, rfl, hka, hke, hb4⟩
  have HLn2 : Kp (Lb < B) := ⟨by have := HLv3.out.lt; omega⟩
  have HLn : Kp (Lb ∉ [B, B + 1]) := ⟨by
    have := HLn2.out
    simp only [List.mem_cons, List.not_mem_nil, or_false]
    omega⟩
  have HMB : Kp (M0 < B) := ⟨Nat.lt_trans HM3'.out HLn2.out⟩
  have HS3 : Kp (B + 1 < w3.heap.size) := ⟨hke.lt⟩
  have HM3 : Kp (M0 ≤ w3.heap.size) := ⟨by have := HMB.out; have := HS3.out; omega⟩
  have HB4 : Kp (Below w.heap.size w w3) := ⟨HB3.out.trans (hb4.mono HB3.out.size)⟩
  have HKa : Kp _ := ⟨hka⟩
  have HKe : Kp _ := ⟨hke⟩
  have hWw : w.heap.size ≤ w3.heap.size := HB4.out.size
  have HLl : Kp (Lb < w3.heap.size) := ⟨by have := HLn2.out; have := HS3.out; omega⟩
  have HRl : Kp (R1 < w3.heap.size ∧ R2 < w3.heap.size) := ⟨Nat.lt_of_lt_of_le HK13.out.lt hb4.size, Nat.lt_of_lt_of_le HK23.out.lt hb4.size⟩
  have HBs4 : Kp _ := ⟨HBs0.out.below HB4.out⟩
  have HI0 : Kp (PtI b R1 R2 Lb M0 w3.heap.size w [] w3) := ⟨⟨HB4.out, Nat.le_refl _, HK13.out.below hb4 HK13.out.lt, HK23.out.below hb4 HK23.out.lt, rfl, _, HLv3.out.below hb4 HLv3.out.lt, ownS_below HOw3.out hb4, fun r e => by cases e; exact .inl rfl⟩⟩
  clear hka hke hb4 hBs HB3 HK13 HK23 HLv3 HOw3
  go_wp2_with fail
  refine (wpIn_wide (n := 8)).1 ?_
  refine wp_rangeR (α := Fin 64) (gf := 47) (lb := #[.pointer (some ⟨B, 0, none⟩), .pointer (some ⟨B + 1, 0, none⟩)]) rfl (enters_of Try.func47 (by kernel_rfl) rfl) (R := KpB w.heap.size [B, B + 1]) (n₀ := w.heap.size) (fun _ _ _ => KpB.trans) (fun l W o o' h ho hn => KpB.put o' h ho hn)
    (chunk_stops w.heap.size bb oo c B (B + 1) b w3 hWw HBs4.out HKa.out HKe.out) (Below.refl _ _) hWw (fun _ => rfl)
    (PtI b R1 R2 Lb M0 w3.heap.size w) (PtX b R1 R2 w) (PtI.own hWw) (PtX.own hWw) HI0.out
    (fun j a' X => ∃ (t0 t1 t6 t7 t8 t9 t10 t11 t12 t13 t14 t15 t16 t17 t18 t19 t20 t21 t22 t23 t24 t25 t26 : Value), a' = { tmps := #[t0, t1, .pointer (some ⟨R1, 0, none⟩), .pointer (some ⟨R2, 0, none⟩), .pointer (some ⟨Lb, 0, none⟩), .slice (some ⟨bb, oo + 4 * j.val, none⟩) 4 4, t6, t7, t8, t9, t10, t11, t12, t13, t14, t15, t16, t17, t18, t19, t20, t21, t22, t23, t24, t25, t26], defers := [] })
    ?hAx ?assign ?body ?done ?stop
  case hAx =>
    rintro x a' _ X Y row h hg hrow
    exact h
  case assign =>
    intro lr pre j X K hi hKK
    simp only [zip_one, List.setIfInBounds_toArray, List.set_cons_succ, List.set_cons_zero]
    refine wpIn_region_lit ?_
    refine list_inRound lr (by intro c h; cases h) rfl fun K1 hK1 => ?_
    go_simp
    refine hK1 _ _ ?_
    clear hK1 K1
    refine wpListIn_nil ?_
    try simp only [Act.put, List.setIfInBounds_toArray, List.set_cons_zero, List.set_cons_succ]
    exact hKK _ _ (KeepsFrom.refl _ _) (KpB.refl _) hi ⟨_, _, _, _, _, _, _, _, _, _, _, _, _, _, _, _, _, _, _, _, _, _, _, rfl⟩
  case body =>
    rintro lr pre j a' X hlr hi ⟨t0, t1, t6, t7, t8, t9, t10, t11, t12, t13, t14, t15, t16, t17, t18, t19, t20, t21, t22, t23, t24, t25, t26, rfl⟩ hlen
    obtain ⟨v, hr1, hr2, hr3⟩ := hi.row
    have HLow : Kp _ := ⟨hi.low⟩
    have HXs : Kp (w3.heap.size ≤ X.heap.size) := ⟨hi.size⟩
    have HR1 : Kp _ := ⟨hi.r1⟩
    have HR2 : Kp _ := ⟨hi.r2⟩
    have HAl : Kp _ := ⟨hi.all⟩
    have HLv : Kp _ := ⟨hr1⟩
    have HOw : Kp _ := ⟨hr2⟩
    have HOb : Kp _ := ⟨hr3⟩
    have HPl : Kp (pre.length < 64) := ⟨hlen⟩
    have hwX : w.heap.size ≤ X.heap.size := Nat.le_trans hWw HXs.out
    have HPc : Kp (Bs X w.heap.size (some ⟨bb, oo + 4 * j.val, none⟩) 4 4 (pcL b j.val)) := ⟨piece4 (HBs0.out.below HLow.out) j.val (by have := j.isLt; omega)⟩
    obtain ⟨z, hz⟩ : ∃ z, z = pvF b j := ⟨_, rfl⟩
    have HPv : Kp (([.int .i64 0] : List Value).set 0 (.int .i64 (getN ((pcL b j.val).take 4) : Nat)) = [.int .i64 z]) := ⟨by rw [hz]; unfold pcL pvF pvL; rw [List.take_take]; rfl⟩
    have HZ : Kp (ptrB (pvF b j) = fitB z 4095) := ⟨by rw [hz]; rfl⟩
    have HZv : Kp (cellsZ [pvF b j] = [.int .i64 z]) := ⟨by rw [hz]; rfl⟩
    clear hi hr1 hr2 hr3 hlen hz
    refine wpIn_block ?_
    refine wpIn_seq ?_
    refine wpIn_region_lit ?_
    refine list_inRound lr (by intro c h; cases h) rfl fun K1 hK1 => ?_
    refine step_alloc1 infInt rfl rfl ?_
    intro x1 hk1 hb1
    refine hK1 _ _ ?_
    clear hK1 K1
    try simp only [Act.put, List.setIfInBounds_toArray, List.set_cons_zero, List.set_cons_succ]
    have HN1 : Kp _ := ⟨hk1⟩
    have HB1 : Kp _ := ⟨hb1⟩
    obtain ⟨Nb, hNb⟩ : ∃ g, g = X.heap.size := ⟨_, rfl⟩
    rw [← hNb] at HN1 ⊢
    have HNb : Kp (X.heap.size ≤ Nb) := ⟨by omega⟩
    clear hk1 hb1 hNb
    refine list_inRound lr (by intro c h; cases h) rfl fun K1 hK1 => ?_
    have c0 := HN1.out.cell? 0
    have f0 := HN1.out.frozen 0
    simp only [List.getElem?_cons_zero] at c0
    go_simp
    refine hK1 _ _ ?_
    clear hK1 K1
    try simp only [Act.put]
    have HN2 : Kp (Blk (x1.setCell ⟨Nb, 0, none⟩ (.int .i64 0)) Nb 3 [.int .i64 0]) := ⟨HN1.out.set 0 _⟩
    have HB2 : Kp (Below X.heap.size X (x1.setCell ⟨Nb, 0, none⟩ (.int .i64 0))) := ⟨HB1.out.setCell (p := ⟨Nb, 0, none⟩) HNb.out _⟩
    clear c0 f0 HN1 HB1
    generalize x1.setCell ⟨Nb, 0, none⟩ (.int .i64 0) = x2 at *
    refine wpListIn_nil ?_
    refine wpIn_seq ?_
    refine wpIn_region_lit ?_
    refine list_inRound lr (by intro c h; cases h) rfl fun K1 hK1 => ?_
    go_simp
    refine (pointer_any Nb 0 x2).mono ?_
    rintro e x3 ⟨rfl, hb3⟩
    refine hK1 _ _ ?_
    clear hK1 K1
    try simp only [Act.put, List.setIfInBounds_toArray, List.set_cons_zero, List.set_cons_succ]
    have HN3 : Kp _ := ⟨HN2.out.below hb3 HN2.out.lt⟩
    have HB3 : Kp (Below X.heap.size X x3) := ⟨HB2.out.trans (hb3.mono HB2.out.size)⟩
    clear hb3 HN2 HB2
    refine list_inRound lr (by intro c h; cases h) rfl fun K1 hK1 => ?_
    refine step_alloc tyFd rfl rfl ?_
    intro x4 hk4 hb4
    refine hK1 _ _ ?_
    clear hK1 K1
    try simp only [Act.put, List.setIfInBounds_toArray, List.set_cons_zero, List.set_cons_succ]
    obtain ⟨F, hF⟩ : ∃ g, g = x3.heap.size := ⟨_, rfl⟩
    rw [← hF] at hk4 ⊢
    have HF4 : Kp _ := ⟨hk4⟩
    have HNF : Kp (Nb ≠ F) := ⟨by rw [hF]; exact alloc_ne HN3.out⟩
    have HFw : Kp (X.heap.size ≤ F) := ⟨by rw [hF]; exact HB3.out.size⟩
    have HN4 : Kp _ := ⟨HN3.out.below hb4 HN3.out.lt⟩
    have HB4 : Kp (Below X.heap.size X x4) := ⟨HB3.out.trans (hb4.mono HB3.out.size)⟩
    clear hk4 hb4 hF HN3 HB3
    refine list_inRound lr (by intro c h; cases h) rfl fun K1 hK1 => ?_
    refine step_store rwFd rfl (.tmp 7) (.tmp 15) rfl (vs := fdL Nb 0 4 4095) rfl rfl HF4.out rfl (fit_all (l := zeroFd) rfl) (fdL_one _ _ _ _) ?_
    intro x5 hk5 ho5
    refine hK1 _ _ ?_
    clear hK1 K1
    try simp only [Act.put]
    rw [store_all (n := 3) rfl] at hk5
    have HF5 : Kp _ := ⟨hk5⟩
    have HN5 : Kp _ := ⟨HN4.out.only ho5 HNF.out⟩
    have HB5 : Kp (Below X.heap.size X x5) := ⟨HB4.out.trans (ho5.below HFw.out)⟩
    clear hk5 ho5 HF4 HN4 HB4
    refine wpListIn_nil ?_
    refine wpIn_seq ?_
    refine wpIn_region_lit ?_
    refine list_inRound lr (by intro c h; cases h) rfl fun K1 hK1 => ?_
    refine step_load rwFd rfl (.tmp 7) rfl rfl HF5.out (fit_all rfl) (take_all rfl) ?_
    refine hK1 _ _ ?_
    clear hK1 K1
    try simp only [Act.put, List.setIfInBounds_toArray, List.set_cons_zero, List.set_cons_succ]
    refine list_inRound lr (by intro c h; cases h) rfl fun K1 hK1 => ?_
    go_simp
    refine hK1 _ _ ?_
    clear hK1 K1
    try simp only [Act.put, List.setIfInBounds_toArray, List.set_cons_zero, List.set_cons_succ]
    have HPc5 : Kp _ := ⟨HPc.out.below (HB5.out.mono hwX)⟩
    have HRead : Kp _ := ⟨fread_any Nb 0 4 4095 w.heap.size _ _ _ 4 4 _ x5 HN5.out (by decide) HPc5.out (Nat.le_trans hwX HNb.out) (by decide) (by decide)⟩
    refine list_inRound lr (by intro c h; cases h) rfl fun K1 hK1 => ?_
    go_simp
    refine HRead.out.mono ?_
    rintro e x6 ⟨A6, n6, c6, rfl, _, hk6, hg6⟩
    refine hK1 _ _ ?_
    clear hK1 K1
    try simp only [Act.put, List.setIfInBounds_toArray, List.set_cons_zero, List.set_cons_succ]
    rw [HPv.out] at hk6
    have HN6 : Kp (Blk x6 Nb 3 [.int .i64 z]) := ⟨hk6⟩
    have HF6 : Kp _ := ⟨HF5.out.grown hg6 (fun e => HNF.out e.symm)⟩
    have HB6 : Kp (Below X.heap.size X x6) := ⟨HB5.out.trans (below_grown hg6 HNb.out HB5.out.size)⟩
    clear hk6 hg6 HRead HN5 HF5 HB5 HPc5
    refine wpListIn_nil ?_
    refine wpIn_seq ?_
    refine wpIn_seq ?_
    refine wpIn_region_lit ?_
    refine list_inRound lr (by intro c h; cases h) rfl fun K1 hK1 => ?_
    refine step_load rwFd rfl (.tmp 7) rfl rfl HF6.out (fit_all rfl) (take_all rfl) ?_
    refine hK1 _ _ ?_
    clear hK1 K1
    try simp only [Act.put, List.setIfInBounds_toArray, List.set_cons_zero, List.set_cons_succ]
    refine list_inRound lr (by intro c h; cases h) rfl fun K1 hK1 => ?_
    go_simp
    refine (fright_any Nb 0 4 4095 z x6 (HN6.out.cell? 0) HN6.out.lt).mono ?_
    rintro e x7 ⟨rfl, hb7⟩
    refine hK1 _ _ ?_
    clear hK1 K1
    try simp only [Act.put, List.setIfInBounds_toArray, List.set_cons_zero, List.set_cons_succ]
    have HN7 : Kp _ := ⟨HN6.out.below hb7 HN6.out.lt⟩
    have HB7 : Kp (Below X.heap.size X x7) := ⟨HB6.out.trans (hb7.mono HB6.out.size)⟩
    clear hb7 HN6 HF6 HB6
    refine list_inRound lr (by intro c h; cases h) rfl fun K1 hK1 => ?_
    go_simp
    refine hK1 _ _ ?_
    clear hK1 K1
    try simp only [Act.put, List.setIfInBounds_toArray, List.set_cons_zero, List.set_cons_succ]
    refine wpListIn_nil ?_
    have HLv7 : Kp _ := ⟨HLv.out.below HB7.out HLv.out.lt⟩
    have HR17 : Kp _ := ⟨HR1.out.below HB7.out HR1.out.lt⟩
    have HR27 : Kp _ := ⟨HR2.out.below HB7.out HR2.out.lt⟩
    have HOw7 : Kp _ := ⟨ownS_below HOw.out HB7.out⟩
    have HKp7 : Kp (KpB w.heap.size [B, B + 1] X x7) := ⟨KpB.of_below HB7.out hwX⟩
    have HKf7 : Kp (KeepsFrom w3.heap.size X x7) := ⟨keepsFrom_below HB7.out⟩
    have HLo7 : Kp (Below w.heap.size w x7) := ⟨HLow.out.trans (HB7.out.mono hwX)⟩
    have H37 : Kp (w3.heap.size ≤ x7.heap.size) := ⟨Nat.le_trans HXs.out HB7.out.size⟩
    clear HLv HR1 HR2 HOw HB7 HLow
    cases hq : fitB z 4095 with
    | false =>
      refine wpIn_cond_true rfl ?_
      refine wpIn_seq ?_
      refine wpIn_region_lit ?_
      refine list_inRound lr (by intro c h; cases h) rfl fun K1 hK1 => ?_
      have c0 := HR17.out.cell? 0
      have f0 := HR17.out.frozen 0
      simp only [List.getElem?_cons_zero] at c0
      go_simp
      refine hK1 _ _ ?_
      clear hK1 K1
      try simp only [Act.put]
      have ho8 := Only.setCell x7 ⟨R1, 0, none⟩ (.slice none 0 0)
      have HR18 : Kp (Blk (x7.setCell ⟨R1, 0, none⟩ (.slice none 0 0)) R1 25 [.slice none 0 0]) := ⟨HR17.out.set 0 _⟩
      have HR28 : Kp _ := ⟨HR27.out.only ho8 HR12.out.symm⟩
      have HLo8 : Kp _ := ⟨HLo7.out.trans (ho8.below HR1w.out)⟩
      have HKf8 : Kp _ := ⟨keepsFrom_trans HKf7.out (keepsFrom_set (B := w3.heap.size) HR17.out 0 (.slice none 0 0))⟩
      clear ho8 c0 f0 HR17 HR27 HLo7 HKf7
      generalize x7.setCell ⟨R1, 0, none⟩ (.slice none 0 0) = x8 at *
      refine list_inRound lr (by intro c h; cases h) rfl fun K1 hK1 => ?_
      have c0 := HR28.out.cell? 0
      have f0 := HR28.out.frozen 0
      simp only [List.getElem?_cons_zero] at c0
      go_simp
      refine hK1 _ _ ?_
      clear hK1 K1
      try simp only [Act.put]
      have ho9 := Only.setCell x8 ⟨R2, 0, none⟩ (.int .i64 4)
      have HR29 : Kp (Blk (x8.setCell ⟨R2, 0, none⟩ (.int .i64 4)) R2 28 [.int .i64 4]) := ⟨HR28.out.set 0 _⟩
      have HR19 : Kp _ := ⟨HR18.out.only ho9 HR12.out⟩
      have HLo9 : Kp _ := ⟨HLo8.out.trans (ho9.below HR2w.out)⟩
      have HKf9 : Kp _ := ⟨keepsFrom_trans HKf8.out (keepsFrom_set (B := w3.heap.size) HR28.out 0 (.int .i64 4))⟩
      clear ho9 c0 f0
      refine wpListIn_nil ?_
      refine wpIn_ret ?_
      exact ⟨HKf9.out, rfl, HLo9.out, HR19.out, HR29.out, j, by simp, HZ.out.trans hq⟩
    | true =>
      refine wpIn_cond_false rfl ?_
      refine wpIn_skip ?_
      refine wpIn_region_lit ?_
      refine list_inRound lr (by intro c h; cases h) rfl fun K1 hK1 => ?_
      have c0 := HLv7.out.cell? 0
      simp only [List.getElem?_cons_zero] at c0
      go_simp
      refine hK1 _ _ ?_
      clear hK1 K1
      try simp only [Act.put, List.setIfInBounds_toArray, List.set_cons_zero, List.set_cons_succ]
      clear c0
      refine list_inRound lr (by intro c h; cases h) rfl fun K1 hK1 => ?_
      have c0 := HN7.out.cell? 0
      simp only [List.getElem?_cons_zero] at c0
      go_simp
      refine hK1 _ _ ?_
      clear hK1 K1
      try simp only [Act.put, List.setIfInBounds_toArray, List.set_cons_zero, List.set_cons_succ]
      clear c0
      refine list_inRound lr (by intro c h; cases h) rfl fun K1 hK1 => ?_
      go_simp
      refine hK1 _ _ ?_
      clear hK1 K1
      try simp only [Act.put, List.setIfInBounds_toArray, List.set_cons_zero, List.set_cons_succ]
      have hb8 : Below x7.heap.size x7 (x7.alloc (.cells #[.int .i64 z] 3)) := (Below.refl _ _).alloc (Nat.le_refl _) _
      have HS8 : Kp (Blk (x7.alloc (.cells #[.int .i64 z] 3)) x7.heap.size 3 [.int .i64 z]) := ⟨Blk.new x7 _ _⟩
      have HLv8 : Kp _ := ⟨HLv7.out.below hb8 HLv7.out.lt⟩
      have HR18 : Kp _ := ⟨HR17.out.below hb8 HR17.out.lt⟩
      have HR28 : Kp _ := ⟨HR27.out.below hb8 HR27.out.lt⟩
      have HOw8 : Kp _ := ⟨ownS_below HOw7.out hb8⟩
      have HKp8 : Kp _ := ⟨HKp7.out.trans (KpB.of_below hb8 HLo7.out.size)⟩
      have HKf8 : Kp _ := ⟨keepsFrom_trans HKf7.out (keepsFrom_below (B := w3.heap.size) hb8)⟩
      have HLo8 : Kp _ := ⟨HLo7.out.trans (hb8.mono HLo7.out.size)⟩
      have H38 : Kp _ := ⟨Nat.le_trans H37.out hb8.size⟩
      clear hb8 HLv7 HN7 HR17 HR27 HOw7 HKp7 HKf7 HLo7 H37
      obtain ⟨G8, hG8⟩ : ∃ g, g = x7.heap.size := ⟨_, rfl⟩
      rw [← hG8] at HS8 ⊢
      generalize x7.alloc (.cells #[.int .i64 z] 3) = x8 at *
      clear hG8
      refine list_inRound lr (by intro c h; cases h) rfl fun K1 hK1 => ?_
      refine step_appG (Try.underlying25) infInt rfl (by decide) rfl (.tmp 22) (.tmp 24) rfl M0 v pre.length _ rfl HOw8.out G8 _ [.int .i64 z] rfl HS8.out rfl (by intro u hu; simp at hu; subst hu; rfl) (by have := HPl.out; simp only [maxLen]; omega) (by have := HPl.out; omega) (Nat.le_trans HM3.out H38.out) ?_
      intro v9 x9 hown9 hg9 hor9
      refine hK1 _ _ ?_
      clear hK1 K1
      try simp only [Act.put, List.setIfInBounds_toArray, List.set_cons_zero, List.set_cons_succ]
      have HOb9 : Kp (∀ r, v9.ownBlock = some r → r = M0 ∨ w3.heap.size ≤ r) := ⟨fun r e => by
        rcases hor9 with h | h
        · exact HOb.out r (h ▸ e)
        · rw [h] at e
          have := Option.some.inj e
          have := H38.out
          omega⟩
      have HNe9 : Kp (∀ b, M0 ≠ b → b < w3.heap.size → v.ownBlock ≠ some b) := ⟨fun b h1 h2 e => by
        rcases HOb.out b e with h | h
        · exact h1 h.symm
        · omega⟩
      have HLv9 : Kp _ := ⟨HLv8.out.grown' hg9 (HNe9.out Lb HML.out HLl.out)⟩
      have HR19 : Kp _ := ⟨HR18.out.grown' hg9 (HNe9.out R1 HMR1.out (by have := HRl.out; omega))⟩
      have HR29 : Kp _ := ⟨HR28.out.grown' hg9 (HNe9.out R2 HMR2.out (by have := HRl.out; omega))⟩
      have HKp9 : Kp _ := ⟨HKp8.out.trans (KpB.row hg9 (fun r e => ⟨Nat.le_trans HMw.out (ownS_low HOw8.out r e), fun hm => by
        simp only [List.mem_cons, List.not_mem_nil, or_false] at hm
        have h3 := HS3.out
        have h4 := HMB.out
        rcases HOb.out r e with h | h <;> omega⟩) HLo8.out.size)⟩
      have HKf9 : Kp _ := ⟨keepsFrom_trans HKf8.out (keepsFrom_row (B := w3.heap.size) HOw8.out hg9)⟩
      have HLo9 : Kp _ := ⟨HLo8.out.trans (below_lowS HOw8.out HMw.out HLo8.out.size hg9)⟩
      have HO9 : Kp (x9.ownsRow M0 3 1 v9 (pre ++ [j]).length (cellsZ ((pre ++ [j]).map (pvF b)))) := ⟨by rw [List.length_append, List.length_singleton, List.map_append, cellsZ_append, List.map_cons, List.map_nil, HZv.out]; exact hown9⟩
      have H39 : Kp _ := ⟨Nat.le_trans H38.out hg9.size⟩
      obtain ⟨A9, c9, rfl⟩ := own_sl hown9
      clear hown9 hg9 hor9 HS8 HLv8 HR18 HR28 HOw8 HKp8 HKf8 HLo8 H38 HNe9
      refine list_inRound lr (by intro c h; cases h) rfl fun K1 hK1 => ?_
      have c0 := HLv9.out.cell? 0
      have f0 := HLv9.out.frozen 0
      simp only [List.getElem?_cons_zero] at c0
      go_simp
      refine hK1 _ _ ?_
      clear hK1 K1
      try simp only [Act.put]
      refine wpListIn_nil ?_
      clear c0 f0
      have ho := Only.setCell x9 ⟨Lb, 0, none⟩ (.slice A9 (pre.length + 1) c9)
      refine ⟨keepsFrom_trans HKf9.out (keepsFrom_set HLv9.out 0 _), HKp9.out.trans (KpB.set HLn.out HLw.out 0 _), HLo9.out.trans (ho.below HLw.out), by rw [ho.size]; exact H39.out, HR19.out.only ho HLR1.out, HR29.out.only ho HLR2.out, ?_, .slice A9 (pre.length + 1) c9, HLv9.out.set 0 _, ownS_only HO9.out ho (fun e => ?_), HOb9.out⟩
      · rw [List.map_append, List.all_append, HAl.out, List.map_cons, List.map_nil, List.all_cons, List.all_nil, HZ.out, hq]; rfl
      · rcases HOb9.out Lb e with h | h
        · exact HML.out h.symm
        · have := HLl.out; omega
  case done =>
    rintro D ys X hD hys hi hKd
    obtain ⟨v, hr1, hr2, _⟩ := hi.row
    subst hys
    rw [← ptrL_eq, fl_length 64 (by decide)] at hr2
    obtain ⟨A5, c5, rfl⟩ := own_sl hr2
    have hall := hi.all
    rw [← ptrL_eq] at hall
    have HE : Kp (ptrE b = 0 ∧ ptrA b = ptrL b) := ⟨by unfold ptrE ptrA ptrK; rw [decide_eq_true HLn'.out, hall]; exact ⟨rfl, rfl⟩⟩
    have HWf : Kp (∀ z ∈ ptrL b, (Lit.int .i64 z).wf = true) := ⟨fun z hz => by
      have h1 := List.all_eq_true.1 hall z hz
      unfold ptrB fitB at h1
      rw [Bool.and_eq_true, decide_eq_true_eq, decide_eq_true_eq] at h1
      exact wf_small h1.1 (by omega)⟩
    have c0 : X.cell? ⟨Lb, 0, none⟩ = some (.slice A5 64 c5) := hr1.cell? 0
    have c1 : X.cell? ⟨R1, 0, none⟩ = some (.slice none 0 0) := hi.r1.cell? 0
    have f1 := hi.r1.frozen 0
    have HOw : Kp _ := ⟨hr2⟩
    have HR1 : Kp _ := ⟨hi.r1.set 0 (.slice A5 64 c5)⟩
    have ho1 := Only.setCell X ⟨R1, 0, none⟩ (.slice A5 64 c5)
    have HR2 : Kp _ := ⟨hi.r2.only ho1 HR12.out.symm⟩
    have c2 : (X.setCell ⟨R1, 0, none⟩ (.slice A5 64 c5)).cell? ⟨R2, 0, none⟩ = some (.int .i64 0) := HR2.out.cell? 0
    have f2 := HR2.out.frozen 0
    have hKd2 : (X.setCell ⟨R1, 0, none⟩ (.slice A5 64 c5)).heap[D]? = some (.deferred (some [])) := (ho1.block D (fun e => by have h1 := hi.r1.heap; have e' : D = R1 := e; rw [← e', hKd] at h1; cases h1)).trans hKd
    have ho2 := Only.setCell (X.setCell ⟨R1, 0, none⟩ (.slice A5 64 c5)) ⟨R2, 0, none⟩ (.int .i64 0)
    have HKd : Kp _ := ⟨(ho2.block D (fun e => by have h1 := HR2.out.heap; have e' : D = R2 := e; rw [← e', hKd2] at h1; cases h1)).trans hKd2⟩
    have HR22 : Kp _ := ⟨HR2.out.set 0 (.int .i64 0)⟩
    have HR12' : Kp _ := ⟨HR1.out.only ho2 HR12.out⟩
    have HLo : Kp _ := ⟨(hi.low.trans (ho1.below HR1w.out)).trans (ho2.below HR2w.out)⟩
    have HOw2 : Kp _ := ⟨ownS_only (ownS_only HOw.out ho1 (fun e => by have := ownS_low HOw.out R1 e; have := HMR.out; omega)) ho2 (fun e => by have := ownS_low HOw.out R2 e; have := HMR.out; omega)⟩
    clear hi hKd hKd2 hr1 hr2 hall ho1 ho2 HR1 HR2 HOw
    go_wp2
    refine ⟨by simp, .inl ⟨_, _, rfl, run_takeDeferred HKd.out, ?_⟩⟩
    have hg := grownBy_putObj' ((X.setCell ⟨R1, 0, none⟩ (.slice A5 64 c5)).setCell ⟨R2, 0, none⟩ (.int .i64 0)) D (.deferred none)
    have hrow : ∀ r, some D = some r → ∃ o : Obj, ((X.setCell ⟨R1, 0, none⟩ (.slice A5 64 c5)).setCell ⟨R2, 0, none⟩ (.int .i64 0)).heap[r]? = some o ∧ o.isCells = false := fun r e => by cases e; exact ⟨_, HKd.out, rfl⟩
    obtain ⟨A6, c6, e6, hzs⟩ := Zs.of_own (own_nc HOw2.out hg hrow) HWf.out
    cases e6
    refine ⟨_, results_si rfl Try.underlying25 Try.underlying28 rfl rfl (blk_nc HR12'.out hg hrow) (blk_nc HR22.out hg hrow), A5, 64, c5, by rw [HE.out.1], by rw [HE.out.2]; exact hzs, below_nc HLo.out hg (fun r e => by cases e; exact Nat.le_trans hWw hD) (Nat.le_refl _) (Nat.le_refl _)⟩
  case stop =>
    rintro D cc pre X hD _ ⟨rfl, hlow, hr1, hr2, j, _, hbad⟩ hKd
    have HE : Kp (ptrE b = 4 ∧ ptrA b = []) := ⟨by
      have h1 : ptrK b = false := by
        unfold ptrK
        rw [ptrL_eq]
        cases hc : ((fl 64).map (pvF b)).all ptrB with
        | false => simp
        | true =>
          have h2 := List.all_eq_true.1 hc (pvF b j) (List.mem_map.2 ⟨j, by rw [fl_all]; exact List.mem_finRange j, rfl⟩)
          rw [hbad] at h2
          cases h2
      unfold ptrE ptrA
      rw [h1]
      exact ⟨rfl, rfl⟩⟩
    clear hbad
    refine wpIn_wide.2 ?_
    go_wp2
    refine ⟨by simp, .inl ⟨_, _, rfl, run_takeDeferred hKd, ?_⟩⟩
    have hg := grownBy_putObj' X D (.deferred none)
    have hrow : ∀ r, some D = some r → ∃ o : Obj, X.heap[r]? = some o ∧ o.isCells = false := fun r e => by cases e; exact ⟨_, hKd, rfl⟩
    refine ⟨_, results_si rfl Try.underlying25 Try.underlying28 rfl rfl (blk_nc hr1 hg hrow) (blk_nc hr2 hg hrow), none, 0, 0, by rw [HE.out.1], by rw [HE.out.2]; exact zs_none _ _ _, below_nc hlow hg (fun r e => by cases e; exact Nat.le_trans hWw hD) (Nat.le_refl _) (Nat.le_refl _)⟩
theorem pointers_any (A : Option Addr) (n c : Nat) (b : List UInt8) (w : World) (hb : Bs w w.heap.size A n c b) :
    Calls Try.prog 21 #[.slice A n c] w fun e w' => ∃ A m d, e = .returned (.tuple #[.slice A m d, .int .i64 (ptrE b)]) ∧ Zs w' w'.heap.size .i64 A m d (ptrA b) ∧ Below w.heap.size w w' := by
  by_cases hn : n = 256
  · subst hn
    obtain ⟨bb, oo, rfl, _, _⟩ := hb.cells (by decide)
    exact pointers_yes bb oo c b w hb
  · have h1 : ptrK b = false := by unfold ptrK; rw [decide_eq_false (by rw [hb.len]; exact hn)]; rfl
    have HE : ptrE b = 4 ∧ ptrA b = [] := by unfold ptrE ptrA; rw [h1]; exact ⟨rfl, rfl⟩
    refine (pointers_no A n c w (by omega)).mono ?_
    rintro e w' ⟨rfl, hb'⟩
    exact ⟨none, 0, 0, by rw [HE.1], by rw [HE.2]; exact zs_none _ _ _, hb'⟩
end
end Go.Proofs.Ytmiobgongddaiaa
