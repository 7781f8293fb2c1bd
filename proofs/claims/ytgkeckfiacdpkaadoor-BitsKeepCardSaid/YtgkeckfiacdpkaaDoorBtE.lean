/- What is free: package bits' free, an iterator that ranges over another one. -/
import Derived.Test.YtgkeckfiacdpkaaDoorBtW
import Derived.Test.YtgkeckfiacdpkaaDoorBuild
import Derived.Shelf.Abstract
namespace Go.Proofs.YtgkeckfiacdpkaaDoor
open Go.RowKit Go.Shelf

theorem grown_below {w w' : World} (h : Below w.heap.size w w') : w.grownBy w' none := ⟨h.os, h.tape, h.output, h.size, fun k hk _ => h.block k hk⟩
theorem take_all {l : List Value} {n : Nat} (h : l.length = n) : (l.drop 0).take n = l := by rw [List.drop_zero, List.take_of_length_le (by omega)]
theorem fit_all {l : List Value} {n : Nat} (h : l.length = n) : 0 + n ≤ l.length := by omega
theorem store_all {cs vs : List Value} {n : Nat} (h : cs.length = n) : cs.take 0 ++ vs ++ cs.drop (0 + n) = vs := by rw [List.drop_of_length_le (by omega)]; simp
theorem zip_one (T : Array Value) (p : Tmp) (v : Value) : (Array.zip #[p] #[v]).foldl (fun t (x : Tmp × Value) => t.setIfInBounds x.1 x.2) T = T.setIfInBounds p v := by simp
def zeroWd : List Value := [.int .i64 0, .int .u64 0, .int .u64 0]
theorem tyWd : Ty Tryd.prog 49 zeroWd := ⟨by kernel_rfl⟩
theorem rwWd : Rw Tryd.prog 49 (match (Tryd.prog).underlying 49 with | some d => d | none => .bool) 3 := ⟨by kernel_rfl, by kernel_rfl, by kernel_rfl⟩
def wdL (b : List UInt8) (F T k : Nat) : List Value := [.int .i64 ((64 * k : Nat) : Int), .int .u64 (askN F T k : Int), .int .u64 (wdN b k : Int)]
theorem blk_nc {X Y : World} {k : Nat} {t : TypeId} {cs : List Value} {row : Option Nat} (h : Blk X k t cs) (hg : X.grownBy Y row) (hr : ∀ r, row = some r → ∃ o : Obj, X.heap[r]? = some o ∧ o.isCells = false) : Blk Y k t cs :=
  ⟨(hg.block k h.lt (fun e => by
    obtain ⟨o', h2, h3⟩ := hr k e.symm
    rw [h.heap] at h2
    cases Option.some.inj h2
    cases h3)).trans h.heap⟩
theorem below_nc {X Y : World} {n₀ B : Nat} {w0 : World} {row : Option Nat} (h : Below n₀ w0 X) (hg : X.grownBy Y row) (hr : ∀ r, row = some r → B ≤ r) (hB : n₀ ≤ B) (hn : n₀ ≤ w0.heap.size) : Below n₀ w0 Y :=
  ⟨hg.os.trans h.os, hg.tape.trans h.tape, hg.output.trans h.output, Nat.le_trans h.size hg.size, fun k hk => (hg.block k (by have := h.size; omega) (fun e => by have := hr k e.symm; omega)).trans (h.block k hk)⟩
/-- the free bits of word k, of those that are asked for -/
def fwN (b : List UInt8) (F T k : Nat) : Nat := askN F T k &&& (18446744073709551615 - wdN b k)
theorem fwN_lt (b : List UInt8) (F T k : Nat) : fwN b F T k < 18446744073709551616 := Nat.lt_of_le_of_lt Nat.and_le_left (askN_lt _ _ _)
def frW (b : List UInt8) (F T k : Nat) : List Nat := (bitsL (fwN b F T k)).map (64 * k + ·)
theorem free_words (b : List UInt8) (F T : Nat) : freeL b F T = (ksL F T).flatMap (frW b F T) := by
  refine pick_words _ F T (fwN b F T) fun k j hj => ?_
  unfold fwN
  rw [Nat.testBit_and, askN_bit _ _ _ _ hj, not_bit _ _ (wdN_lt _ _) hj, wdN_bit _ _ _ hj]
theorem frW_length (b : List UInt8) (F T k : Nat) : (frW b F T k).length ≤ 64 := by
  unfold frW bitsL
  rw [List.length_map]
  exact Nat.le_trans (List.length_filter_le _ _) (by simp)
theorem frL_length (b : List UInt8) (F T : Nat) (pre : List (Wk T)) : ((pre.map (·.1)).flatMap (frW b F T)).length ≤ 64 * pre.length := by
  induction pre with
  | nil => simp
  | cons x r ih =>
    have := frW_length b F T x.1
    simp only [List.map_cons, List.flatMap_cons, List.length_append, List.length_cons] at ih ⊢
    omega
/-- what lies between two rounds over the words -/
structure FrI (J : List Nat → World → Prop) (b : List UInt8) (F T n₀ Yb l : Nat) (w0 : World) (pre : List (Wk T)) (X : World) : Prop where
  low : Below n₀ w0 X
  yb : Blk X Yb 60 [.func (.yield l) #[] #[]]
  j : J ((pre.map (·.1)).flatMap (frW b F T)) X
theorem FrI.own {J : List Nat → World → Prop} {b : List UInt8} {F T n₀ Yb l B : Nat} {w0 : World} (hJ : OwnFrom B J) (hB : n₀ ≤ B) (hn : n₀ ≤ w0.heap.size) : OwnFrom B (FrI J b F T n₀ Yb l w0) := fun _ X Y row h hg hr =>
  ⟨below_nc h.low hg (fun r e => (hr r e).1) hB hn, blk_nc h.yb hg (fun r e => (hr r e).2), hJ _ X Y row h.j hg hr⟩
/-- the rounds were left -/
structure FrX (Jx : List Nat → World → Prop) (b : List UInt8) (F T : Nat) (c : Code) (pre : List (Wk T)) (X : World) : Prop where
  c : c = .exit 0
  j : ∃ ys, ys <+: (pre.map (·.1)).flatMap (frW b F T) ∧ Jx ys X
theorem FrX.own {Jx : List Nat → World → Prop} {b : List UInt8} {F T B : Nat} (hJ : OwnFrom B Jx) (c : Code) : OwnFrom B (FrX Jx b F T c) := fun _ X Y row h hg hr => by
  obtain ⟨ys, h1, h2⟩ := h.j
  exact ⟨h.c, ys, h1, hJ _ X Y row h2 hg hr⟩
section
set_option maxRecDepth 100000
set_option maxHeartbeats 2000000
theorem frees_any (A : Option Addr) (n c : Nat) (f t : Int) (w : World) :
    Calls Tryd.prog 27 #[.slice A n c, .int .i64 f, .int .i64 t] w fun e w' => ∃ B : Nat, B = w.heap.size ∧ e = .returned (.func (.func 35) #[] #[.pointer (some ⟨B, 0, none⟩), .pointer (some ⟨B + 1, 0, none⟩), .pointer (some ⟨B + 2, 0, none⟩)]) ∧
      Blk w' B 22 [.slice A n c] ∧ Blk w' (B + 1) 3 [.int .i64 f] ∧ Blk w' (B + 2) 3 [.int .i64 t] ∧ Below w.heap.size w w' ∧ w'.heap.size = w.heap.size + 3 := by
  go_enter Tryd.func27, Tryd.ntmps27
  go_wp2
  go_ret
  refine ⟨_, rfl, rfl, ?_, ?_, ?_, ?_, by simp⟩
  · exact ((Blk.new w _ [.slice A n c]).alloc _).alloc _
  · have h := (Blk.new (w.alloc (.cells #[.slice A n c] 22)) 3 [.int .i64 f]).alloc (.cells #[.int .i64 t] 3)
    rwa [World.size_alloc] at h
  · have h := Blk.new ((w.alloc (.cells #[.slice A n c] 22)).alloc (.cells #[.int .i64 f] 3)) 3 [.int .i64 t]
    rwa [World.size_alloc, World.size_alloc] at h
  · exact (((Below.refl _ w).alloc (Nat.le_refl _) _).alloc (by simp) _).alloc (by simp; omega) _
attribute [local go_sem] Oper.semAt_some
theorem free1_in (l n₀ : Nat) (A : Option Addr) (n c : Nat) (b : List UInt8) (f t : Int) (Bb Bf Bt : Nat) (J Jx : List Nat → World → Prop) (W w0 : World) (hw0 : Below n₀ w0 W) (hW : n₀ ≤ W.heap.size) (hn0 : 0 < n₀) (hnw : n₀ ≤ w0.heap.size) (hTab : TabD w0)
    (hJ : OwnFrom W.heap.size J) (hJx : OwnFrom W.heap.size Jx)
    (hY : ∀ pre x X, J pre X → pre.length < 128 * n + 256 → YieldAt Fence.wide 6 Tryd.prog l #[.int .i64 ((x : Nat) : Int)] X fun e X' => (e = .returned (.bool true) ∧ J (pre ++ [x]) X' ∧ KpG n₀ [22, 49, 60] X X' ∧ KeepsFrom W.heap.size X X') ∨ (e = .returned (.bool false) ∧ Jx (pre ++ [x]) X' ∧ KeepsFrom W.heap.size X X'))
    (hb : Bs w0 n₀ A n c b) (hn : n ≤ 4294967296) (hf : f ≤ 9223372036854775807) (ht : t ≤ 9223372036854775807)
    (hBb : W.cell? ⟨Bb, 0, none⟩ = some (.slice A n c)) (hBf : W.cell? ⟨Bf, 0, none⟩ = some (.int .i64 f)) (hBt : W.cell? ⟨Bt, 0, none⟩ = some (.int .i64 t)) (hl1 : Bb < W.heap.size) (hl2 : Bf < W.heap.size) (hl3 : Bt < W.heap.size) (h0 : J [] W) :
    CallsIn Fence.wide 7 Tryd.prog 35 #[.func (.yield l) #[] #[], .pointer (some ⟨Bb, 0, none⟩), .pointer (some ⟨Bf, 0, none⟩), .pointer (some ⟨Bt, 0, none⟩)] W fun e W' => (∃ v, e = .returned v) ∧
      ((∃ ys, ys = freeL b f.toNat (hiN n t) ∧ J ys W') ∨ (∃ pre, pre <+: freeL b f.toNat (hiN n t) ∧ Jx pre W')) := by
  have HJ : Kp _ := ⟨hJ⟩
  have HJx : Kp _ := ⟨hJx⟩
  have HY : Kp _ := ⟨hY⟩
  have HB : Kp _ := ⟨hb⟩
  have HW0 : Kp _ := ⟨hw0⟩
  have H0 : Kp _ := ⟨h0⟩
  have HT : Kp _ := ⟨hTab⟩
  obtain ⟨F, hF⟩ : ∃ F, F = f.toNat := ⟨_, rfl⟩
  obtain ⟨T, hT⟩ : ∃ T, T = hiN n t := ⟨_, rfl⟩
  have HFr : Kp _ := ⟨free_words b F T⟩
  have HTn : Kp (T ≤ 8 * n) := ⟨by rw [hT]; unfold hiN; omega⟩
  have HFT : Kp (f.toNat = F ∧ hiN n t = T) := ⟨hF.symm, hT.symm⟩
  rw [← hF, ← hT]
  clear hJ hJx hY hb hw0 h0 hF hT hTab
  refine (callsIn_wide (n := 7)).2 ((callsIn_wide (n := 8)).1 (callsIn_of_wp_marks (F := Fence.wide) (n := 8) Tryd.func35 rfl trivial ?_ rfl))
  simp only [Tryd.ntmps35, List.size_toArray, List.length_cons, List.length_nil, Nat.reduceAdd, Nat.reduceSub, Array.replicate_succ, Array.replicate_zero, List.push_toArray, List.append_toArray, List.nil_append, List.cons_append]
  refine wpIn_wide.2 ?_
  go_wp2
  have hYk : Blk (W.alloc (.cells #[.func (.yield l) #[] #[]] 60)) W.heap.size 60 [.func (.yield l) #[] #[]] := Blk.new _ _ _
  have hb1 : Below W.heap.size W (W.alloc (.cells #[.func (.yield l) #[] #[]] 60)) := (Below.refl _ _).alloc (Nat.le_refl _) _
  generalize W.alloc (.cells #[.func (.yield l) #[] #[]] 60) = W1 at *
  obtain ⟨Yb, hYb⟩ : ∃ g, g = W.heap.size := ⟨_, rfl⟩
  rw [← hYb] at hYk ⊢
  have c1 : W1.cell? ⟨Bb, 0, none⟩ = some (.slice A n c) := (hb1.cell (p := ⟨Bb, 0, none⟩) hl1).trans hBb
  have c2 : W1.cell? ⟨Bf, 0, none⟩ = some (.int .i64 f) := (hb1.cell (p := ⟨Bf, 0, none⟩) hl2).trans hBf
  have c3 : W1.cell? ⟨Bt, 0, none⟩ = some (.int .i64 t) := (hb1.cell (p := ⟨Bt, 0, none⟩) hl3).trans hBt
  have HYk : Kp _ := ⟨hYk⟩
  have HB1 : Kp _ := ⟨hb1⟩
  clear hYk hb1 hBb hBf hBt hYb
  go_step3
  go_wp2_with fail
  go_step3
  go_wp2_with fail
  refine (words_any A n c f t W1).mono ?_
  rintro e w3 ⟨B, hBs, rfl, hkb, hkf, hkt, hb3, hs3⟩
  have HB3 : Kp (Below W.heap.size W w3) := ⟨HB1.out.trans (hb3.mono HB1.out.size)⟩
  have HKb : Kp _ := ⟨hkb⟩
  have HKf : Kp _ := ⟨hkf⟩
  have HKt : Kp _ := ⟨hkt⟩
  have hWw : W.heap.size ≤ w3.heap.size := HB3.out.size
  have HI0 : Kp (FrI J b F T n₀ Yb l w0 [] w3) := ⟨⟨HW0.out.trans (HB3.out.mono hW), HYk.out.below hb3 HYk.out.lt, HJ.out _ _ _ none H0.out (grown_below HB3.out) (fun r e => by cases e)⟩⟩
  clear hkb hkf hkt hb3 hs3 hBs c1 c2 c3 HB1
  go_wp2_with fail
  refine (wpIn_wide (n := 8)).1 ?_
  refine wp_rangeO (α := Wk T) (gf := 37) (lb := #[.pointer (some ⟨B, 0, none⟩), .pointer (some ⟨B + 1, 0, none⟩), .pointer (some ⟨B + 2, 0, none⟩)]) rfl (enters_of Tryd.func37 (by kernel_rfl) rfl)
    (words_stops n₀ A n c b f t B (B + 1) (B + 2) w3 (Nat.le_trans hW hWw) (HB.out.below (HW0.out.trans (HB3.out.mono hW))) hn hf ht HKb.out HKf.out HKt.out F T HFT.out.1 HFT.out.2) (Below.refl _ _) (Nat.le_trans hW hWw) (fun _ => rfl)
    (FrI J b F T n₀ Yb l w0) (FrX Jx b F T) (FrI.own (ownFrom_more HJ.out hWw) (Nat.le_trans hW hWw) hnw) (FrX.own (ownFrom_more HJx.out hWw)) HI0.out
    (fun k a' X => ∃ (Bx : Nat) (t0 t1 t2 t3 t6 t7 t8 t9 t10 t11 t12 t13 t14 t15 t16 t17 t18 t19 t20 t21 t22 t23 t24 t25 t26 t27 : Value), Blk X Bx 49 (wdL b F T k.1) ∧ a' = { tmps := #[t0, t1, t2, t3, .pointer (some ⟨Yb, 0, none⟩), .pointer (some ⟨Bx, 0, none⟩), t6, t7, t8, t9, t10, t11, t12, t13, t14, t15, t16, t17, t18, t19, t20, t21, t22, t23, t24, t25, t26, t27], defers := [] })
    ?hAx ?assign ?body ?done ?stop
  case hAx =>
    rintro x a' _ X Y row ⟨Bx, t0, t1, t2, t3, t6, t7, t8, t9, t10, t11, t12, t13, t14, t15, t16, t17, t18, t19, t20, t21, t22, t23, t24, t25, t26, t27, hk, rfl⟩ hg hrow
    exact ⟨Bx, t0, t1, t2, t3, t6, t7, t8, t9, t10, t11, t12, t13, t14, t15, t16, t17, t18, t19, t20, t21, t22, t23, t24, t25, t26, t27, blk_nc hk hg (fun r e => (hrow r e).2), rfl⟩
  case assign =>
    intro lr pre k X K hi hKK
    simp only [encW, zip_one, List.setIfInBounds_toArray, List.set_cons_succ, List.set_cons_zero]
    refine wpIn_region_lit ?_
    refine list_inRound lr (by intro c h; cases h) rfl fun K1 hK1 => ?_
    refine step_alloc tyWd rfl rfl ?_
    intro x1 hk1 hb1
    refine hK1 _ _ ?_
    clear hK1 K1
    have HLx : Kp ((wdL b F T k.1).length = 3) := ⟨rfl⟩
    refine list_inRound lr (by intro c h; cases h) rfl fun K1 hK1 => ?_
    refine step_store rwWd rfl (.tmp 5) (.tmp 11) rfl (vs := wdL b F T k.1) rfl rfl hk1 HLx.out (fit_all (l := zeroWd) rfl) (by intro u hu; simp [wdL] at hu; rcases hu with rfl | rfl | rfl <;> rfl) ?_
    intro x2 hk2 ho2
    refine hK1 _ _ ?_
    clear hK1 K1
    refine wpListIn_nil ?_
    have hb2 : Below X.heap.size X x2 := hb1.trans (ho2.below (Nat.le_refl _))
    rw [store_all (n := 3) rfl] at hk2
    exact hKK _ _ (KeepsFrom.of_grownBy (grown_below hb2) (fun j e => by cases e)) (KpG.of_below hb2 (Nat.le_trans hnw hi.low.size))
      ⟨hi.low.trans (hb2.mono (Nat.le_trans hnw hi.low.size)), hi.yb.below hb2 hi.yb.lt, (ownFrom_more HJ.out hWw) _ _ _ none hi.j (grown_below hb2) (fun r e => by cases e)⟩
      ⟨X.heap.size, _, _, _, _, _, _, _, _, _, _, _, _, _, _, _, _, _, _, _, _, _, _, _, _, _, _, hk2, rfl⟩
  case body =>
    rintro lr pre ⟨k, hkT⟩ a' X hlr hi ⟨Bx, t0, t1, t2, t3, t6, t7, t8, t9, t10, t11, t12, t13, t14, t15, t16, t17, t18, t19, t20, t21, t22, t23, t24, t25, t26, t27, hx, rfl⟩ hlen
    have HYb : Kp _ := ⟨hi.yb⟩
    have HX : Kp _ := ⟨hx⟩
    have HJp : Kp _ := ⟨hi.j⟩
    have HLow : Kp _ := ⟨hi.low⟩
    have HLx : Kp ((wdL b F T k).length = 3) := ⟨rfl⟩
    have hsz : n₀ ≤ X.heap.size := Nat.le_trans hnw hi.low.size
    have hfw : ∀ w, Calls Tryd.prog 26 #[.agg (wdL b F T k).toArray] w fun e w' => e = .returned (.int .u64 (fwN b F T k : Int)) ∧ Below w.heap.size w w' := fun w => free_any _ _ _ w (askN_lt F T k) (wdN_lt b k)
    have HFw : Kp _ := ⟨hfw⟩
    clear hi hx hfw
    refine wpIn_block ?_
    refine wpIn_seq ?_
    refine wpIn_region_lit ?_
    refine list_inRound lr (by intro c h; cases h) rfl fun K1 hK1 => ?_
    refine step_load rwWd rfl (.tmp 5) rfl rfl HX.out (fit_all HLx.out) (take_all HLx.out) ?_
    refine hK1 _ _ ?_
    clear hK1 K1
    refine list_inRound lr (by intro c h; cases h) rfl fun K1 hK1 => ?_
    go_simp
    refine (HFw.out X).mono ?_
    rintro e x4 ⟨rfl, hb4⟩
    refine hK1 _ _ ?_
    clear hK1 K1
    refine list_inRound lr (by intro c h; cases h) rfl fun K1 hK1 => ?_
    go_simp
    refine hK1 _ _ ?_
    clear hK1 K1
    refine wpListIn_nil ?_
    try simp only [Act.put, List.setIfInBounds_toArray, List.set_cons_zero, List.set_cons_succ]
    have HK4 : Kp (KpG n₀ [22, 49, 60] X x4) := ⟨KpG.of_below hb4 hsz⟩
    have HF4 : Kp (KeepsFrom w3.heap.size X x4) := ⟨keepsFrom_below hb4⟩
    have HJ4 : Kp (J ((pre.map (·.1)).flatMap (frW b F T) ++ []) x4) := ⟨by rw [List.append_nil]; exact HJ.out _ _ _ none HJp.out (grown_below hb4) (fun r e => by cases e)⟩
    have HP4 : Kp ([] ++ (bitsL (fwN b F T k)).map (64 * k + ·) = frW b F T k) := ⟨rfl⟩
    have hlt4 := fwN_lt b F T k
    generalize fwN b F T k = x0 at *
    clear hb4 HJp
    obtain ⟨P, hP⟩ : ∃ P, P = (pre.map (·.1)).flatMap (frW b F T) := ⟨_, rfl⟩
    have HPn : Kp (P ++ frW b F T k = ((pre ++ [(⟨k, hkT⟩ : Wk T)]).map (·.1)).flatMap (frW b F T)) := ⟨by rw [hP, List.map_append, List.flatMap_append]; simp only [List.map_cons, List.map_nil, List.flatMap_cons, List.flatMap_nil, List.append_nil]⟩
    have HPl : Kp (P.length ≤ 64 * pre.length) := ⟨by rw [hP]; exact frL_length b F T _⟩
    rw [← hP] at HJ4
    have hkn : 64 * k < 8 * n := by have := HTn.out; omega
    obtain ⟨K64, hK64⟩ : ∃ x, x = 64 * k := ⟨_, rfl⟩
    have HWk : Kp (∀ Z, KpG n₀ [22, 49, 60] X Z → Z.cell? ⟨Bx, 0, none⟩ = some (.int .i64 (K64 : Int))) := ⟨fun Z h => by rw [hK64]; exact (h.blk HX.out (by simp)).cell? 0⟩
    have HYk2 : Kp (∀ Z, KpG n₀ [22, 49, 60] X Z → Z.cell? ⟨Yb, 0, none⟩ = some (.func (.yield l) #[] #[])) := ⟨fun Z h => (h.blk HYb.out (by simp)).cell? 0⟩
    rw [← hK64] at HP4
    have HFk : Kp (frW b F T k = frW b F T k) := ⟨rfl⟩
    have HK64 : Kp (K64 = 64 * k) := ⟨hK64⟩
    rw [← hK64] at hkn
    clear hP hK64
    gi_wp2
    gi_loopw [6] (fun v6 wr => ∃ (x : Nat) (ys : List Nat), v6 = .int .u64 (x : Int) ∧ Kp (x < 18446744073709551616) ∧ Kp (ys ++ (bitsL x).map (K64 + ·) = frW b F T k) ∧ Kp (J (P ++ ys) wr) ∧ Kp (KpG n₀ [22, 49, 60] X wr) ∧ Kp (KeepsFrom w3.heap.size X wr)) (fun v6 _ => (bitsL (intOf v6).toNat).length)
    case atStart => exact ⟨x0, [], rfl, ⟨hlt4⟩, HP4, HJ4, HK4, HF4⟩
    case round =>
      clear HP4 HJ4 HK4 HF4 hlt4
      obtain ⟨x, ys, rfl, HXl, HYs, HJr, HKr, HFr4⟩ := hrel
      by_cases hx0 : x = 0
      · subst hx0
        gi_wp2
        have hys := HYs.out
        rw [bitsL_zero, List.map_nil, List.append_nil] at hys
        refine ⟨HFr4.out, HKr.out.less (by simp), HLow.out.trans HKr.out.below, HKr.out.blk HYb.out (by simp), ?_⟩
        rw [← HPn.out, ← hys]
        exact HJr.out
      · have hxI : ¬ ((x : Int) = 0) := by omega
        have hstep := bitsL_step x hx0 HXl.out
        have hc64 := (low_bit x hx0 HXl.out).2.1
        have HTz : Kp _ := ⟨fun w hw => tz_any x HXl.out hx0 w hw⟩
        obtain ⟨c0, hc0⟩ : ∃ q, q = Lib.ctz 64 x := ⟨_, rfl⟩
        rw [← hc0] at hstep hc64 HTz
        have r1 : IntKind.i64.wrap ((K64 : Int) + (c0 : Int)) = ((K64 + c0 : Nat) : Int) := by rw [IntKind.wrap_i64]; omega
        have r2 : IntKind.u64.wrap ((x : Int) - 1) = ((x - 1 : Nat) : Int) := by rw [IntKind.wrap_u64]; have := HXl.out; omega
        have r3 : bits .and .u64 (x : Int) ((x - 1 : Nat) : Int) = ((x &&& (x - 1) : Nat) : Int) := bits_and_u64_nat _ _ HXl.out (by have := HXl.out; omega)
        have HXn : Kp (x &&& (x - 1) < 18446744073709551616) := ⟨and_pred_lt x HXl.out⟩
        generalize x &&& (x - 1) = x2 at *
        have HYn : Kp ((ys ++ [K64 + c0]) ++ (bitsL x2).map (K64 + ·) = frW b F T k) := ⟨by rw [← HYs.out, hstep, List.map_cons]; simp⟩
        have HMs : Kp ((bitsL x2).length < (bitsL x).length) := ⟨by rw [hstep]; simp⟩
        have cw := HWk.out _ HKr.out
        have cy := HYk2.out _ HKr.out
        have HJd : Kp (J (P ++ ys) wr.drew) := ⟨HJ.out _ _ _ none HJr.out (grown_below ((Below.refl _ wr).drew)) (fun r e => by cases e)⟩
        have hyl : (P ++ ys).length < 128 * n + 256 := by
          have h1 : ys.length ≤ (frW b F T k).length := by rw [← HYs.out]; simp
          have h2 : (frW b F T k).length ≤ 64 := frW_length b F T k
          have h3 := HPl.out
          rw [List.length_append]
          omega
        have HTd : Kp (TabD wr.drew) := ⟨(HT.out.below ((HLow.out.trans HKr.out.below).drew) hn0)⟩
        obtain ⟨fn, tmps, assign, body, hy, hR⟩ := yield_round (r := lr) (m := 5) (HY.out (P ++ ys) (K64 + c0) wr.drew HJd.out hyl)
        rw [Int.natCast_add] at hy
        have HRd : Kp _ := ⟨hR⟩
        clear hR hstep hc0 hyl HJr
        gi_wp2
        refine wpIn_region_tail 6 (by kernel_rfl) (by kernel_rfl) (letsOps_round lr (by kernel_rfl)) ?_
        simp only [List.take_succ_cons, List.take_zero, List.drop_succ_cons, List.drop_zero]
        repeat (first | still_step | still_call (HTz.out _ HTd.out))
        refine wpStill_nil ?_
        clear r1 cw cy
        gi_wp2
        refine HRd.out.mono ?_
        have hdr : Below wr.heap.size wr wr.drew := (Below.refl _ wr).drew
        rintro e W4 (⟨rfl, hJ4, hk4, hf4⟩ | ⟨rfl, hJx4, hf4⟩)
        · have HJ5 : Kp (J (P ++ (ys ++ [K64 + c0])) W4) := ⟨by rw [← List.append_assoc]; exact hJ4⟩
          have HK5 : Kp _ := ⟨HKr.out.trans ((KpG.of_below hdr (Nat.le_trans hnw (HLow.out.trans HKr.out.below).size)).trans hk4)⟩
          have HF5 : Kp _ := ⟨keepsFrom_trans HFr4.out (keepsFrom_trans (keepsFrom_below hdr) (keepsFrom_more hf4 hWw))⟩
          clear hJ4 hk4 hf4 hdr HRd
          gi_wp2
          go_roundw
          case rel => exact ⟨x2, ys ++ [K64 + c0], rfl, HXn, HYn, HJ5, HK5, HF5⟩
          case measure => simpa [intOf] using HMs.out
        · gi_wp2
          refine ⟨keepsFrom_trans HFr4.out (keepsFrom_trans (keepsFrom_below hdr) (keepsFrom_more hf4 hWw)), rfl, P ++ (ys ++ [K64 + c0]), ?_, by rw [← List.append_assoc]; exact hJx4⟩
          rw [← HPn.out, ← HYn.out]
          exact (List.prefix_append_right_inj P).2 (List.prefix_append _ _)
  case done =>
    rintro D ys X hD hys hi hKd
    have HI : Kp _ := ⟨hi⟩
    have HKd : Kp _ := ⟨hKd⟩
    have HYs : Kp _ := ⟨hys⟩
    clear hi hKd hys
    have hj := (HJ.out.putObj (.deferred none) HI.out.j (by omega) HKd.out rfl)
    have HJe : Kp (J (freeL b F T) (X.putObj D (.deferred none))) := ⟨by rw [HFr.out, ← HYs.out]; exact hj⟩
    clear hj
    go_wp2
    simp only [Exit.noGoto]
    refine ⟨by simp, .inl ⟨_, _, rfl, run_takeDeferred HKd.out, ?_⟩⟩
    exact ⟨_, results_none rfl _ _ _, ⟨_, rfl⟩, .inl ⟨_, rfl, HJe.out⟩⟩
  case stop =>
    rintro D cc pre X hD hp h hKd
    obtain ⟨rfl, ys, hys, hj⟩ := h
    have HKd : Kp _ := ⟨hKd⟩
    have hj2 := (HJx.out.putObj (.deferred none) hj (by omega) hKd rfl)
    have HJe : Kp (Jx ys (X.putObj D (.deferred none))) := ⟨hj2⟩
    have HPe : Kp (ys <+: freeL b F T) := ⟨by
      rw [HFr.out]
      refine hys.trans ?_
      obtain ⟨r, hr⟩ := hp
      rw [← hr, List.flatMap_append]
      exact List.prefix_append _ _⟩
    clear hj hj2 hKd hys hp
    refine wpIn_wide.2 ?_
    go_wp2
    simp only [Exit.noGoto]
    refine ⟨by simp, .inl ⟨_, _, rfl, run_takeDeferred HKd.out, ?_⟩⟩
    exact ⟨_, results_none rfl _ _ _, ⟨_, rfl⟩, .inr ⟨_, HPe.out, HJe.out⟩⟩
/-- free hands back an iterator over what is free -/
theorem free_stops (n₀ : Nat) (A : Option Addr) (n c : Nat) (b : List UInt8) (f t : Int) (Bb Bf Bt : Nat) (w : World) (hn0 : n₀ ≤ w.heap.size) (h0 : 0 < n₀) (hT : TabD w) (hb : Bs w n₀ A n c b) (hn : n ≤ 4294967296) (hf : f ≤ 9223372036854775807) (ht : t ≤ 9223372036854775807)
    (hBb : Blk w Bb 22 [.slice A n c]) (hBf : Blk w Bf 3 [.int .i64 f]) (hBt : Blk w Bt 3 [.int .i64 t]) :
    SeqO Tryd.prog 35 #[.pointer (some ⟨Bb, 0, none⟩), .pointer (some ⟨Bf, 0, none⟩), .pointer (some ⟨Bt, 0, none⟩)] (fun x : Nat => #[.int .i64 (x : Int)]) n₀ [22, 49, 60] (fun ys => ys = freeL b f.toNat (hiN n t)) (fun pre => pre <+: freeL b f.toNat (hiN n t)) (128 * n + 256) w :=
  fun l J Jx W hW hJ hJx hY h0' => free1_in l n₀ A n c b f t Bb Bf Bt J Jx W w (hW.mono hn0) (Nat.le_trans hn0 hW.size) h0 hn0 hT hJ hJx hY hb hn hf ht ((hBb.below hW hBb.lt).cell? 0) ((hBf.below hW hBf.lt).cell? 0) ((hBt.below hW hBt.lt).cell? 0) (hBb.below hW hBb.lt).lt (hBf.below hW hBf.lt).lt (hBt.below hW hBt.lt).lt h0'
end
end Go.Proofs.YtgkeckfiacdpkaaDoor
