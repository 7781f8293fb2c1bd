/- The contract of package sum's All: a range over a function.
   The contracts of audit's apart and rows, of nothing. -/
import Derived.Test.YthpfiieaanioeaaG08
import Derived.Test.YthpfiieaanioeaaG04
import Derived.Test.YthpfiieaanioeaaG09
import Derived.Deep.LoopGhost
namespace Go.Proofs.Ythpfiieaanioeaa
open Go.RowKit Go.Shelf

/-- what is gathered, as a number that no bound cuts -/
def sumN (l : List D32) : Nat := (l.map fun x => getN x.1).sum
theorem sumN_snoc (l : List D32) (x : D32) : sumN (l ++ [x]) = sumN l + getN x.1 := by simp [sumN]
theorem zip_one (T : Array Value) (p : Tmp) (v : Value) : (Array.zip #[p] #[v]).foldl (fun t (x : Tmp × Value) => t.setIfInBounds x.1 x.2) T = T.setIfInBounds p v := by simp
def sumD (l : List D32) : List UInt8 := putN (sumN l) 32
theorem sumD_length (l : List D32) : (sumD l).length = 32 := putN_length _ _
def allL (key : List UInt8) (its : List (Int × List UInt8)) : List UInt8 := sumD (comeL key its)
theorem allL_length (key : List UInt8) (its : List (Int × List UInt8)) : (allL key its).length = 32 := putN_length _ _
theorem W4_zero : numCells (W4 0) = zeroW4 := by
  rw [← part4_none (fun _ => 0) 0, show part4 (fun _ => 0) (dg 0) 0 = part4 (fun _ => 0) (fun _ => 0) 0 by decide]
  exact part4_zero _
theorem only_of {g : Nat} {X Y Z : World} (h : Below X.heap.size X Y) (ho : Only g Y Z) : X.grownBy Z (some g) :=
  ⟨ho.os.trans h.os, ho.tape.trans h.tape, ho.output.trans h.output, by rw [ho.size]; exact h.size, fun k hk hne => (ho.block k (fun e => hne (by rw [e]))).trans (h.block k hk)⟩
theorem results_arr {P : Program} {w : World} {tmps : Array Value} {t : TypeId} {fn : Func} {p : Tmp} {d : TypeDesc} {n : Nat} (hr : fn.results = #[.cell p t]) (E : Rw P t d n) {g : Nat} {t' : TypeId} {cs : List Value} (hx : tmps.getD p undef = .pointer (some ⟨g, 0, none⟩)) (hb : Blk w g t' cs) (hn : cs.length = n) :
    (results fn tmps).run P w = .ok (.agg cs.toArray) w := by
  have hl := run_load_rw (w := w) E hb (off := 0) (by omega)
  simp only [Instr.loadAt, Instr.sureAddr, Sem.run_bind, Sem.run_pure, Result.andThen_ok] at hl
  have e : (cs.drop 0).take n = cs := by rw [List.drop_zero, List.take_of_length_le (by omega)]
  rw [e] at hl
  have hx' : tmps[p]?.getD undef = .pointer (some ⟨g, 0, none⟩) := by simpa using hx
  simp only [results, hr]; simp [hx', asAddr, hl]
section
variable {w W W' : World} {gr gw S : Nat}
/-- what lies between two rounds -/
structure AllI (w : World) (gr gw S : Nat) (pre : List D32) (W : World) : Prop where
  size : S ≤ W.heap.size
  wd : Blk W gw 66 (numCells (W4 (sumN pre)))
  res : Blk W gr 43 zero32
  below : Below w.heap.size w W
theorem AllI.keep {pre : List D32} (h : AllI w gr gw S pre W) (hb : Below W.heap.size W W') : AllI w gr gw S pre W' := ⟨Nat.le_trans h.size hb.size, h.wd.below hb h.wd.lt, h.res.below hb h.res.lt, h.below.trans (hb.mono h.below.size)⟩
theorem AllI.own (B : Nat) (hr : gr < B) (hw : gw < B) (hB : w.heap.size ≤ B) : OwnFrom B (AllI w gr gw S) := fun pre X Y row h hg hrow => by
  have ne : ∀ k, k < B → some k ≠ row := fun k hk e => by have := (hrow k e.symm).1; omega
  exact ⟨Nat.le_trans h.size hg.size, ⟨(hg.block gw h.wd.lt (ne _ hw)).trans h.wd.heap⟩, ⟨(hg.block gr h.res.lt (ne _ hr)).trans h.res.heap⟩,
    ⟨hg.os.trans h.below.os, hg.tape.trans h.below.tape, hg.output.trans h.below.output, Nat.le_trans h.below.size hg.size, fun k hk => (hg.block k (Nat.lt_of_lt_of_le hk h.below.size) (ne _ (by omega))).trans (h.below.block k hk)⟩⟩
end
set_option maxRecDepth 100000 in
set_option maxHeartbeats 4000000 in
theorem all_any (K : Option Addr) (kn kc : Nat) (key : List UInt8) (A : Option Addr) (m c : Nat) (its : List (Int × List UInt8)) (w : World) (hK : Bs w w.heap.size K kn kc key) (hI : Its w w.heap.size A m c its)
    (hm : m ≤ 4294967296) (hkn : kn ≤ 524288) (hb : ∀ x ∈ its, x.2.length ≤ 523000) :
    Calls Try.prog 24 #[.slice K kn kc, .slice A m c] w fun e w' => e = .returned (.agg (cells8 (allL key its)).toArray) ∧ Below w.heap.size w w' := by
  have HK : Kp _ := ⟨hK⟩
  have HI : Kp _ := ⟨hI⟩
  have HB : Kp _ := ⟨hb⟩
  obtain ⟨L, hL⟩ : ∃ L, L = allL key its := ⟨_, rfl⟩
  have HDg : Kp (∀ W, Calls Try.prog 37 #[.agg (numCells (W4 (sumN (comeL key its)))).toArray] W fun e w' => e = .returned (.agg (cells8 L).toArray) ∧ Below W.heap.size W w') := ⟨fun W => by rw [hL]; exact sdigest_any _ W⟩
  have HLr : Kp ((cells8 L).length = 32) := ⟨by rw [hL, cells8_length, allL_length]⟩
  rw [← hL]
  clear hL hK hI hb
  refine (callsIn_wide (n := 8)).1 (callsIn_of_wp_marks (F := Fence.wide) (n := 8) Try.func24 rfl trivial ?_ rfl)
  simp only [Try.ntmps24, List.size_toArray, List.length_cons, List.length_nil, Nat.reduceAdd, Nat.reduceSub, Array.replicate_succ, Array.replicate_zero, List.push_toArray, List.append_toArray, List.nil_append, List.cons_append]
  refine wpIn_wide.2 ?_
  go_wp2_with (with_reducible refine wpList_alloc (o := ⟨some 4, _, _, _, _, _⟩) tyDig rfl rfl ?_)
  intro w1 hk1 hb1 hs1
  have HR1 : Kp _ := ⟨hk1⟩
  clear hk1 hs1
  go_wp2_with (with_reducible refine wpList_alloc (o := ⟨some 5, _, _, _, _, _⟩) tyWords rfl rfl ?_)
  intro w2 hk2 hb2 hs2
  have hW2 : AllI w w.heap.size w1.heap.size 0 [] w2 := ⟨Nat.zero_le _, by rw [show sumN [] = 0 from rfl, W4_zero]; exact hk2, HR1.out.below hb2 HR1.out.lt, hb1.trans (hb2.mono hb1.size)⟩
  have HW2 : Kp _ := ⟨hW2⟩
  have n1 : w.heap.size < w1.heap.size := HR1.out.lt
  have n2 : w1.heap.size < w2.heap.size := hk2.lt
  have HK2 : Kp (Bs w2 w.heap.size K kn kc key) := ⟨HK.out.below hW2.below⟩
  have HI2 : Kp (Its w2 w.heap.size A m c its) := ⟨HI.out.below hW2.below⟩
  obtain ⟨gw, hgw⟩ : ∃ g, g = w1.heap.size := ⟨_, rfl⟩
  rw [← hgw] at HW2 n1 n2 ⊢
  clear hk2 hb1 hb2 hs2 HR1 hW2 hgw
  go_wp2_with fail
  refine (each_any K kn kc A m c w2).mono ?_
  rintro e w3 ⟨rfl, hw3⟩
  have hb3 : Below w2.heap.size w2 w3 := by rw [hw3]; exact ((Below.refl _ w2).alloc (Nat.le_refl _) _).alloc (by simp) _
  have hs3 : w3.heap.size = w2.heap.size + 2 := by rw [hw3]; simp
  have HBk : Kp (w3.cell? ⟨w2.heap.size, 0, none⟩ = some (.slice K kn kc)) := ⟨by
    rw [hw3]
    refine (Below.cell ((Below.refl (w2.heap.size + 1) (w2.alloc (.cells #[.slice K kn kc] 22))).alloc (by simp) _) (p := ⟨w2.heap.size, 0, none⟩) (by show w2.heap.size < w2.heap.size + 1; omega)).trans ?_
    rw [World.cell?_alloc_at _ _ _ _ rfl]; rfl⟩
  have HBl : Kp (w3.cell? ⟨w2.heap.size + 1, 0, none⟩ = some (.slice A m c)) := ⟨by
    rw [hw3]
    rw [World.cell?_alloc_at _ _ _ _ (by simp)]; rfl⟩
  have hW3 := HW2.out.keep hb3
  have HW3 : Kp (AllI w w.heap.size gw w3.heap.size [] w3) := ⟨Nat.le_refl _, hW3.wd, hW3.res, hW3.below⟩
  clear hW3
  have HK3 : Kp (Bs w3 w.heap.size K kn kc key) := ⟨HK2.out.below (hb3.mono (by omega))⟩
  have HI3 : Kp (Its w3 w.heap.size A m c its) := ⟨HI2.out.below (hb3.mono (by omega))⟩
  obtain ⟨Bk, hBk⟩ : ∃ g, g = w2.heap.size := ⟨_, rfl⟩
  rw [← hBk] at HBk HBl n2 hs3 ⊢
  have hwb : w.heap.size ≤ w3.heap.size := by omega
  clear hw3 hb3 HW2 HK2 HI2 HK HI hBk
  go_wp2_with fail
  refine (wpIn_wide (n := 8)).1 ?_
  refine wpIn_rangeFunc_ownH (F := Fence.wide) (n := 8) rfl (by decide) (gf := 42) (lb := #[.pointer (some ⟨Bk + 1, 0, none⟩), .pointer (some ⟨Bk, 0, none⟩)]) rfl trivial (enters_of Try.func42 (by kernel_rfl) rfl)
    (each_stops (8 - 1) (Bk + 1) Bk w.heap.size A m c its K kn kc key w3 hwb HBl.out HBk.out (by omega) (by omega) HI3.out HK3.out hm hkn HB.out)
    (fun h k => KpE.trans h k) (fun W l o o' hl h _ _ => KpE.grown (grownBy_putObj' W l o') (fun g e => by cases e; omega) (by have := (Array.getElem?_eq_some_iff.1 h).1; omega) (by have := (Array.getElem?_eq_some_iff.1 h).1; omega) (by have := (Array.getElem?_eq_some_iff.1 h).1; omega))
    (Below.refl _ _) (fun _ => rfl) (AllI w w.heap.size gw w3.heap.size) (fun _ _ _ => False) (AllI.own _ (by omega) (by omega) hwb) (fun _ _ _ _ _ h _ _ => h) HW3.out
    (fun x a' W => ∃ (Bx : Nat) (t0 t1 t2 t3 t4 t7 t8 t9 t10 t11 t12 t13 t14 t15 t16 : Value), w3.heap.size ≤ Bx ∧ Blk W Bx 43 (cells8 x.1) ∧ a' = { tmps := #[t0, t1, t2, t3, t4, .pointer (some ⟨gw, 0, none⟩), .pointer (some ⟨Bx, 0, none⟩), t7, t8, t9, t10, t11, t12, t13, t14, t15, t16], defers := [] })
    ?hAx ?assign ?body ?done ?stop
  case hAx =>
    rintro x a' _ X Y row ⟨Bx, t0, t1, t2, t3, t4, t7, t8, t9, t10, t11, t12, t13, t14, t15, t16, hBx, hk, rfl⟩ hg hrow
    refine ⟨Bx, t0, t1, t2, t3, t4, t7, t8, t9, t10, t11, t12, t13, t14, t15, t16, hBx, ⟨(hg.block Bx hk.lt (fun e => ?_)).trans hk.heap⟩, rfl⟩
    obtain ⟨_, o, h1, h2⟩ := hrow Bx e.symm
    rw [hk.heap] at h1
    cases h1; cases h2
  case assign =>
    intro l pre x W K hi hKK
    have HLx : Kp ((cells8 x.1).length = 32) := ⟨by rw [cells8_length]; exact x.2⟩
    simp only [encD, zip_one, List.setIfInBounds_toArray, List.set_cons_succ, List.set_cons_zero]
    refine wpIn_region_lit ?_
    refine list_inRound l (by intro c h; cases h) rfl fun K1 hK1 => ?_
    refine step_alloc tyDig rfl rfl ?_
    intro x1 hk1 hb1
    refine hK1 _ _ ?_
    clear hK1 K1
    refine list_inRound l (by intro c h; cases h) rfl fun K1 hK1 => ?_
    refine step_store rwDig rfl (.tmp 6) (.tmp 10) rfl rfl rfl hk1 HLx.out (fit_all32 (l := zero32) rfl) (cells8_one _) ?_
    intro x2 hk2 ho2
    refine hK1 _ _ ?_
    clear hK1 K1
    refine wpListIn_nil ?_
    have hb2 : Below W.heap.size W x2 := hb1.trans (ho2.below (Nat.le_refl _))
    have hsz := hi.size
    rw [store_all32 (n := 32) rfl] at hk2
    exact hKK _ _ (KeepsFrom.of_grownBy (grown_none hb2) (fun j e => by cases e)) (KpE.of_below hb2 (by omega) (by omega) (by omega)) (hi.keep hb2)
      ⟨W.heap.size, _, _, _, _, _, _, _, _, _, _, _, _, _, _, _, hsz, hk2, rfl⟩
  case body =>
    rintro l pre x a' W hl ⟨r, hr⟩ hi ⟨Bx, t0, t1, t2, t3, t4, t7, t8, t9, t10, t11, t12, t13, t14, t15, t16, hBx, hx, rfl⟩ hlen
    have hlW : l < W.heap.size := (Array.getElem?_eq_some_iff.1 hr).1
    have hsz := hi.size
    have HLx : Kp ((cells8 x.1).length = 32) := ⟨by rw [cells8_length]; exact x.2⟩
    have HLw : Kp ((numCells (W4 (sumN pre))).length = 4) := ⟨by rw [numCells_length, W4_length]⟩
    have HLn : Kp ((numCells (W4 (sumN pre + getN x.1))).length = 4) := ⟨by rw [numCells_length, W4_length]⟩
    have HW : Kp (Blk W.drew gw 66 (numCells (W4 (sumN pre)))) := ⟨hi.wd.drew⟩
    have HX : Kp (Blk W.drew Bx 43 (cells8 x.1)) := ⟨hx.drew⟩
    have HR : Kp (Blk W w.heap.size 43 zero32) := ⟨hi.res⟩
    have hBW : Below W.heap.size W W.drew := (Below.refl _ _).drew
    refine wpIn_block ?_
    refine wpIn_region_any (by kernel_rfl) ?_
    change wpAnyIn _ _ _ _ _ _ _ _ _ W.drew
    generalize W.drew = wS at *
    refine wpAnyIn_ready (rs := [0, 1]) (by kernel_rfl) (by simp) ?_
    refine AllReadyIn.cons (o := ⟨some 11, _, _, _, _, _⟩) rfl (fun K hK => ready_inRound l (by intro c h; cases h) rfl ?_) (AllReadyIn.cons (o := ⟨some 12, _, _, _, _, _⟩) rfl (fun K hK => ready_inRound l (by intro c h; cases h) rfl ?_) AllReadyIn.nil)
    · refine step_load rwWords rfl (.tmp 5) rfl rfl HW.out (fit_all32 HLw.out) (take_all32 HLw.out) ?_
      refine hK _ _ ?_
      clear hK K
      try simp only [Act.put, List.setIfInBounds_toArray, List.set_cons_zero, List.set_cons_succ]
      refine wpAnyIn_ready (rs := [1]) (by kernel_rfl) (by simp) ?_
      refine AllReadyIn.cons (o := ⟨some 12, _, _, _, _, _⟩) rfl (fun K hK => ready_inRound l (by intro c h; cases h) rfl ?_) AllReadyIn.nil
      refine step_load rwDig rfl (.tmp 6) rfl rfl HX.out (fit_all32 HLx.out) (take_all32 HLx.out) ?_
      refine hK _ _ ?_
      clear hK K
      try simp only [Act.put, List.setIfInBounds_toArray, List.set_cons_zero, List.set_cons_succ]
      refine wpAnyIn_ready (rs := [2]) (by kernel_rfl) (by simp) ?_
      refine AllReadyIn.cons (o := ⟨some 13, _, _, _, _, _⟩) rfl (fun K hK => ready_inRound l (by intro c h; cases h) rfl ?_) AllReadyIn.nil
      go_simp
      refine (split_any x.1 wS x.2).mono ?_
      rintro e x4 ⟨rfl, hb'⟩
      refine hK _ _ ?_
      clear hK K
      try simp only [Act.put, List.setIfInBounds_toArray, List.set_cons_zero, List.set_cons_succ]
      replace HW : Kp _ := ⟨HW.out.below hb' HW.out.lt⟩
      replace HX : Kp _ := ⟨HX.out.below hb' HX.out.lt⟩
      replace hBW := hBW.trans (hb'.mono hBW.size)
      clear hb'
      refine wpAnyIn_ready (rs := [3]) (by kernel_rfl) (by simp) ?_
      refine AllReadyIn.cons (o := ⟨some 14, _, _, _, _, _⟩) rfl (fun K hK => ready_inRound l (by intro c h; cases h) rfl ?_) AllReadyIn.nil
      go_simp
      refine (plus_any (sumN pre) (getN x.1) x4).mono ?_
      rintro e x5 ⟨rfl, hb'⟩
      refine hK _ _ ?_
      clear hK K
      try simp only [Act.put, List.setIfInBounds_toArray, List.set_cons_zero, List.set_cons_succ]
      replace HW : Kp _ := ⟨HW.out.below hb' HW.out.lt⟩
      replace HX : Kp _ := ⟨HX.out.below hb' HX.out.lt⟩
      replace hBW := hBW.trans (hb'.mono hBW.size)
      clear hb'
      refine wpAnyIn_ready (rs := [4]) (by kernel_rfl) (by simp) ?_
      refine AllReadyIn.cons (o := ⟨none, _, _, _, _, _⟩) rfl (fun K hK => ready_inRound l (by intro c h; cases h) rfl ?_) AllReadyIn.nil
      refine step_store rwWords rfl (.tmp 5) (.tmp 14) rfl rfl rfl HW.out HLn.out (fit_all32 HLw.out) (numCells_one _) ?_
      intro x9 hk ho
      refine hK _ _ ?_
      clear hK K
      try simp only [Act.put]
      refine wpAnyIn_done (by kernel_rfl) ?_ _
      rw [store_all32 (n := 4) HLw.out] at hk
      have hg := only_of hBW ho
      exact ⟨KeepsFrom.of_grownBy hg (fun j e => by cases e; omega), KpE.grown hg (fun g e => by cases e; omega) (by omega) (by omega) (by omega), ⟨Nat.le_trans hi.size hg.size, by rw [sumN_snoc]; exact hk, HR.out.grown hg (by omega), hi.below.trans ((Below.mk hg.os hg.tape hg.output hg.size (fun k hk => hg.block k (by omega) (fun e => by have := Option.some.inj e; omega))))⟩⟩
    · refine step_load rwDig rfl (.tmp 6) rfl rfl HX.out (fit_all32 HLx.out) (take_all32 HLx.out) ?_
      refine hK _ _ ?_
      clear hK K
      try simp only [Act.put, List.setIfInBounds_toArray, List.set_cons_zero, List.set_cons_succ]
      refine wpAnyIn_ready (rs := [0, 2]) (by kernel_rfl) (by simp) ?_
      refine AllReadyIn.cons (o := ⟨some 11, _, _, _, _, _⟩) rfl (fun K hK => ready_inRound l (by intro c h; cases h) rfl ?_) (AllReadyIn.cons (o := ⟨some 13, _, _, _, _, _⟩) rfl (fun K hK => ready_inRound l (by intro c h; cases h) rfl ?_) AllReadyIn.nil)
      · refine step_load rwWords rfl (.tmp 5) rfl rfl HW.out (fit_all32 HLw.out) (take_all32 HLw.out) ?_
        refine hK _ _ ?_
        clear hK K
        try simp only [Act.put, List.setIfInBounds_toArray, List.set_cons_zero, List.set_cons_succ]
        refine wpAnyIn_ready (rs := [2]) (by kernel_rfl) (by simp) ?_
        refine AllReadyIn.cons (o := ⟨some 13, _, _, _, _, _⟩) rfl (fun K hK => ready_inRound l (by intro c h; cases h) rfl ?_) AllReadyIn.nil
        go_simp
        refine (split_any x.1 wS x.2).mono ?_
        rintro e x4 ⟨rfl, hb'⟩
        refine hK _ _ ?_
        clear hK K
        try simp only [Act.put, List.setIfInBounds_toArray, List.set_cons_zero, List.set_cons_succ]
        replace HW : Kp _ := ⟨HW.out.below hb' HW.out.lt⟩
        replace HX : Kp _ := ⟨HX.out.below hb' HX.out.lt⟩
        replace hBW := hBW.trans (hb'.mono hBW.size)
        clear hb'
        refine wpAnyIn_ready (rs := [3]) (by kernel_rfl) (by simp) ?_
        refine AllReadyIn.cons (o := ⟨some 14, _, _, _, _, _⟩) rfl (fun K hK => ready_inRound l (by intro c h; cases h) rfl ?_) AllReadyIn.nil
        go_simp
        refine (plus_any (sumN pre) (getN x.1) x4).mono ?_
        rintro e x5 ⟨rfl, hb'⟩
        refine hK _ _ ?_
        clear hK K
        try simp only [Act.put, List.setIfInBounds_toArray, List.set_cons_zero, List.set_cons_succ]
        replace HW : Kp _ := ⟨HW.out.below hb' HW.out.lt⟩
        replace HX : Kp _ := ⟨HX.out.below hb' HX.out.lt⟩
        replace hBW := hBW.trans (hb'.mono hBW.size)
        clear hb'
        refine wpAnyIn_ready (rs := [4]) (by kernel_rfl) (by simp) ?_
        refine AllReadyIn.cons (o := ⟨none, _, _, _, _, _⟩) rfl (fun K hK => ready_inRound l (by intro c h; cases h) rfl ?_) AllReadyIn.nil
        refine step_store rwWords rfl (.tmp 5) (.tmp 14) rfl rfl rfl HW.out HLn.out (fit_all32 HLw.out) (numCells_one _) ?_
        intro x9 hk ho
        refine hK _ _ ?_
        clear hK K
        try simp only [Act.put]
        refine wpAnyIn_done (by kernel_rfl) ?_ _
        rw [store_all32 (n := 4) HLw.out] at hk
        have hg := only_of hBW ho
        exact ⟨KeepsFrom.of_grownBy hg (fun j e => by cases e; omega), KpE.grown hg (fun g e => by cases e; omega) (by omega) (by omega) (by omega), ⟨Nat.le_trans hi.size hg.size, by rw [sumN_snoc]; exact hk, HR.out.grown hg (by omega), hi.below.trans ((Below.mk hg.os hg.tape hg.output hg.size (fun k hk => hg.block k (by omega) (fun e => by have := Option.some.inj e; omega))))⟩⟩
      · go_simp
        refine (split_any x.1 wS x.2).mono ?_
        rintro e x4 ⟨rfl, hb'⟩
        refine hK _ _ ?_
        clear hK K
        try simp only [Act.put, List.setIfInBounds_toArray, List.set_cons_zero, List.set_cons_succ]
        replace HW : Kp _ := ⟨HW.out.below hb' HW.out.lt⟩
        replace HX : Kp _ := ⟨HX.out.below hb' HX.out.lt⟩
        replace hBW := hBW.trans (hb'.mono hBW.size)
        clear hb'
        refine wpAnyIn_ready (rs := [0]) (by kernel_rfl) (by simp) ?_
        refine AllReadyIn.cons (o := ⟨some 11, _, _, _, _, _⟩) rfl (fun K hK => ready_inRound l (by intro c h; cases h) rfl ?_) AllReadyIn.nil
        refine step_load rwWords rfl (.tmp 5) rfl rfl HW.out (fit_all32 HLw.out) (take_all32 HLw.out) ?_
        refine hK _ _ ?_
        clear hK K
        try simp only [Act.put, List.setIfInBounds_toArray, List.set_cons_zero, List.set_cons_succ]
        refine wpAnyIn_ready (rs := [3]) (by kernel_rfl) (by simp) ?_
        refine AllReadyIn.cons (o := ⟨some 14, _, _, _, _, _⟩) rfl (fun K hK => ready_inRound l (by intro c h; cases h) rfl ?_) AllReadyIn.nil
        go_simp
        refine (plus_any (sumN pre) (getN x.1) x4).mono ?_
        rintro e x5 ⟨rfl, hb'⟩
        refine hK _ _ ?_
        clear hK K
        try simp only [Act.put, List.setIfInBounds_toArray, List.set_cons_zero, List.set_cons_succ]
        replace HW : Kp _ := ⟨HW.out.below hb' HW.out.lt⟩
        replace HX : Kp _ := ⟨HX.out.below hb' HX.out.lt⟩
        replace hBW := hBW.trans (hb'.mono hBW.size)
        clear hb'
        refine wpAnyIn_ready (rs := [4]) (by kernel_rfl) (by simp) ?_
        refine AllReadyIn.cons (o := ⟨none, _, _, _, _, _⟩) rfl (fun K hK => ready_inRound l (by intro c h; cases h) rfl ?_) AllReadyIn.nil
        refine step_store rwWords rfl (.tmp 5) (.tmp 14) rfl rfl rfl HW.out HLn.out (fit_all32 HLw.out) (numCells_one _) ?_
        intro x9 hk ho
        refine hK _ _ ?_
        clear hK K
        try simp only [Act.put]
        refine wpAnyIn_done (by kernel_rfl) ?_ _
        rw [store_all32 (n := 4) HLw.out] at hk
        have hg := only_of hBW ho
        exact ⟨KeepsFrom.of_grownBy hg (fun j e => by cases e; omega), KpE.grown hg (fun g e => by cases e; omega) (by omega) (by omega) (by omega), ⟨Nat.le_trans hi.size hg.size, by rw [sumN_snoc]; exact hk, HR.out.grown hg (by omega), hi.below.trans ((Below.mk hg.os hg.tape hg.output hg.size (fun k hk => hg.block k (by omega) (fun e => by have := Option.some.inj e; omega))))⟩⟩
  case done =>
    rintro D ys W hD rfl hi hKd
    have HW : Kp _ := ⟨hi.wd⟩
    have HR : Kp _ := ⟨hi.res⟩
    have hB := hi.below
    have HKd : Kp _ := ⟨hKd⟩
    have HLw : Kp ((numCells (W4 (sumN (comeL key its)))).length = 4) := ⟨by rw [numCells_length, W4_length]⟩
    have HZ : Kp (zero32.length = 32) := ⟨rfl⟩
    have hDl : D < W.heap.size := (Array.getElem?_eq_some_iff.1 hKd).1
    have hDr : w.heap.size < D := by omega
    clear hi hKd
    go_wp2_with (with_reducible refine wpList_loadAll (o := ⟨some 15, _, _, _, _, _⟩) rwWords rfl (.tmp 5) rfl rfl HW.out HLw.out ?_)
    go_wp2_with fail
    refine (HDg.out _).mono ?_
    rintro e W1 ⟨rfl, hb1⟩
    have HR1 : Kp _ := ⟨HR.out.below hb1 HR.out.lt⟩
    have HKd1 : Kp (W1.heap[D]? = some (.deferred (some []))) := ⟨(hb1.block D hDl).trans HKd.out⟩
    have hB1 := hB.trans (hb1.mono hB.size)
    clear hb1 HW HR HKd hB
    go_wp2_with (refine wpList_storeAll (o := ⟨none, _, _, _, _, _⟩) (vs := cells8 L) rwDig rfl (.tmp 4) (.tmp 16) rfl rfl HR1.out HZ.out HLr.out (cells8_one _) rfl ?_)
    intro W2 hk2 ho2
    have HK2 : Kp _ := ⟨hk2⟩
    have hKd2 : W2.heap[D]? = some (.deferred (some [])) := (ho2.block D (by omega)).trans HKd1.out
    have hB2 := hB1.trans (ho2.below (Nat.le_refl _))
    clear hk2 ho2 HR1 HKd1 hB1
    go_wp2
    refine ⟨by simp, .inl ⟨_, _, rfl, run_takeDeferred hKd2, ?_⟩⟩
    have hk3 : Blk (W2.putObj D (.deferred none)) w.heap.size 43 (cells8 L) := ⟨(World.putObj_heap_other (by omega)).trans HK2.out.heap⟩
    have hB3 : Below w.heap.size w (W2.putObj D (.deferred none)) := hB2.trans ((Below.refl _ W2).grown (grownBy_putObj' W2 D _) hB2.size (fun k e => by cases e; omega))
    exact ⟨_, results_arr rfl rwDig rfl hk3 HLr.out, rfl, hB3⟩
  case stop =>
    rintro D cc pre W hD hp h _
    exact h.elim
end Go.Proofs.Ythpfiieaanioeaa

namespace Go.Proofs.Ythpfiieaanioeaa
open Go.RowKit Go.Shelf

def zeroTr4 : List Value := [.int .i64 0, .int .i64 0, .int .i64 0, .slice none 0 0]
theorem infTr4 : ((Try.prog).info? 46).map (fun i => (i.zero, i.size, i.bytes)) = some (some (.agg zeroTr4.toArray), 4, 48) := by kernel_rfl
set_option maxRecDepth 100000 in
set_option maxHeartbeats 1000000 in
theorem apart_nil (w : World) : Calls Try.prog 29 #[.slice none 0 0] w fun e w' => ∃ A c, e = .returned (.slice A 0 c) ∧ Below w.heap.size w w' := by
  obtain ⟨i, hi, hz0, hz1, hz2⟩ := info_parts infTr4
  have HIn : Kp _ := ⟨And.intro hi (And.intro hz0 hz1)⟩
  clear hi hz0 hz1 hz2
  go_enter Try.func29, Try.ntmps29
  go_wp2_with (with_reducible refine wpList_make_full (o := ⟨some 8, _, _, _, _, _⟩) w rfl (.tmp 7) (.tmp 7) 32 rfl w.heap.size 46 i (.agg zeroTr4.toArray) 4 Try.underlying32 HIn.out.1 HIn.out.2.1 HIn.out.2.2 .i64 .i64 _ _ 0 rfl rfl rfl rfl (by omega) (by simp only [maxLen]; omega) (Nat.le_refl _) ?_)
  intro w1 hown1 hg1
  have hb1 : Below w.heap.size w w1 := (Below.refl _ _).grown hg1 (Nat.le_refl _) (by simp)
  clear hown1 hg1
  go_wp2
  go_loopg [11] 0 (fun gk v11 wr => v11 = .int .i64 0 ∧ Below w.heap.size w wr)
  case atStart => exact ⟨rfl, hb1⟩
  case round =>
    obtain ⟨rfl, hB⟩ := hrel
    go_wp2
    go_ret
    exact ⟨_, _, rfl, hB⟩
section
attribute [local go_sem] Oper.semAt_some
set_option maxRecDepth 100000 in
set_option maxHeartbeats 4000000 in
theorem rows1_in (n : Nat) (l Bt n₀ : Nat) (J Jx : List Unit → World → Prop) (W : World)
    (hY : ∀ pre x X, J pre X → pre.length < 1 → YieldAt Fence.wide (n - 1) Try.prog l #[.slice none 0 0] X fun e X' => (e = .returned (.bool true) ∧ J (pre ++ [x]) X' ∧ KpW n₀ Bt Bt X X') ∨ (e = .returned (.bool false) ∧ Jx (pre ++ [x]) X'))
    (hBt : W.cell? ⟨Bt, 0, none⟩ = some (.slice none 0 0)) (h0 : J [] W) :
    CallsIn Fence.wide n Try.prog 41 #[.func (.yield l) #[] #[], .pointer (some ⟨Bt, 0, none⟩)] W fun e W' => (∃ v, e = .returned v) ∧ ((∃ ys : List Unit, ys = [()] ∧ J ys W') ∨ (∃ pre : List Unit, True ∧ Jx pre W')) := by
  obtain ⟨fn, tmps, assign, body, hy, hR⟩ := hY [] () W h0 (by simp)
  have HR : Kp _ := ⟨hR⟩
  clear hR hY h0
  refine callsIn_of_wp Try.func41 rfl trivial ?_ rfl
  simp only [Try.ntmps41, List.size_toArray, List.length_cons, List.length_nil, Nat.reduceAdd, Nat.reduceSub, Array.replicate_succ, Array.replicate_zero, List.push_toArray, List.append_toArray, List.nil_append, List.cons_append]
  refine wpIn_wide.2 ?_
  go_step3
  go_wp2
  go_step3
  go_wp2
  go_loopg [3] 0 (fun gk v3 wr => v3 = .slice none 0 0 ∧ wr = W)
  case atStart => exact ⟨rfl, rfl⟩
  case round =>
    obtain ⟨rfl, rfl⟩ := hrel
    go_wp2
    go_loopg [3, 9] 0 (fun g2 v3 v9 wx => v3 = .slice none 0 0 ∧ v9 = .int .i64 0 ∧ wx = wr)
    case atStart => exact ⟨rfl, rfl, rfl⟩
    case round =>
      obtain ⟨rfl, rfl, rfl⟩ := hrel
      go_upto_region 8 with fail
      refine (wpIn_wide (n := n)).1 ?_
      gi_wp2
      refine ⟨(fun h => by cases h), HR.out.mono ?_⟩
      rintro e W3 (⟨rfl, hJ3, hk3⟩ | ⟨rfl, hJx3⟩)
      · gi_wp2
        go_wp2
        simp only [Exit.noGoto]
        refine bodyPost_ret (results_none rfl _ _ _) rfl ?_
        exact ⟨⟨_, rfl⟩, .inl ⟨_, rfl, hJ3⟩⟩
      · gi_wp2
        go_wp2
        simp only [Exit.noGoto]
        refine bodyPost_ret (results_none rfl _ _ _) rfl ?_
        exact ⟨⟨_, rfl⟩, .inr ⟨_, trivial, hJx3⟩⟩
end
end Go.Proofs.Ythpfiieaanioeaa
