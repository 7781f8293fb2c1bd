/- The contract of package sum's All: a range over a function.
   Numbers of 256 bits, byte by byte. No program is named here.
   The contract of package sum's Less. -/
import Derived.Test.YtjllfaeamjadcaaG07
import Derived.Test.YtjllfaeamjadcaaG08
namespace Go.Proofs.Ytjllfaeamjadcaa
open Go.RowKit Go.Shelf

/-- what is gathered, as a number that no bound cuts -/
def sumN (l : List D32) : Nat := (l.map fun x => getN x.1).sum
theorem sumN_snoc (l : List D32) (x : D32) : sumN (l ++ [x]) = sumN l + getN x.1 := by simp [sumN]
theorem zip_one (T : Array Value) (p : Tmp) (v : Value) : (Array.zip #[p] #[v]).foldl (fun t (x : Tmp × Value) => t.setIfInBounds x.1 x.2) T = T.setIfInBounds p v := by simp
def sumD (l : List D32) : List UInt8 := putN (sumN l) 32
theorem sumD_length (l : List D32) : (sumD l).length = 32 := putN_length _ _
def allL (key : List UInt8) (its : List (Int × List UInt8)) : List UInt8 := sumD (comeL key its)
theorem allL_length (key : List UInt8) (its : List (Int × List UInt8)) : (allL key its).length = 32 := putN_length _ _
theorem W4_zero : numCells (W4 0) = zeroW4 := by
  rw [← part4_none (fun _ => 0) 0, show part4 (fun _ => 0) (dg 0) 0 = part4 (fun _ => 0) (fun _ => 0) 0 by decide]
  exact part4_zero _
theorem only_of {g : Nat} {X Y Z : World} (h : Below X.heap.size X Y) (ho : Only g Y Z) : X.grownBy Z (some g) :=
  ⟨ho.os.trans h.os, ho.tape.trans h.tape, ho.output.trans h.output, by rw [ho.size]; exact h.size, fun k hk hne => (ho.block k (fun e => hne (by rw [e]))).trans (h.block k hk)⟩
theorem results_arr {P : Program} {w : World} {tmps : Array Value} {t : TypeId} {fn : Func} {p : Tmp} {d : TypeDesc} {n : Nat} (hr : fn.results = #[.cell p t]) (E : Rw P t d n) {g : Nat} {t' : TypeId} {cs : List Value} (hx : tmps.getD p undef = .pointer (some ⟨g, 0, none⟩)) (hb : Blk w g t' cs) (hn : cs.length = n) :
    (results fn tmps).run P w = .ok (.agg cs.toArray) w := by
  have hl := run_load_rw (w := w) E hb (off := 0) (by omega)
  simp only [Instr.loadAt, Instr.sureAddr, Sem.run_bind, Sem.run_pure, Result.andThen_ok] at hl
  have e : (cs.drop 0).take n = cs := by rw [List.drop_zero, List.take_of_length_le (by omega)]
  rw [e] at hl
  have hx' : tmps[p]?.getD undef = .pointer (some ⟨g, 0, none⟩) := by simpa using hx
  simp only [results, hr]; simp [hx', asAddr, hl]
section
variable {w W W' : World} {gr gw S : Nat}
/-- what lies between two rounds -/
structure AllI (w : World) (gr gw S : Nat) (pre : List D32) (W : World) : Prop where
  size : S ≤ W.heap.size
  wd : Blk W gw 41 (numCells (W4 (sumN pre)))
  res : Blk W gr 23 zero32
  below : Below w.heap.size w W
theorem AllI.keep {pre : List D32} (h : AllI w gr gw S pre W) (hb : Below W.heap.size W W') : AllI w gr gw S pre W' := ⟨Nat.le_trans h.size hb.size, h.wd.below hb h.wd.lt, h.res.below hb h.res.lt, h.below.trans (hb.mono h.below.size)⟩
theorem AllI.own (B : Nat) (hr : gr < B) (hw : gw < B) (hB : w.heap.size ≤ B) : OwnFrom B (AllI w gr gw S) := fun pre X Y row h hg hrow => by
  have ne : ∀ k, k < B → some k ≠ row := fun k hk e => by have := (hrow k e.symm).1; omega
  exact ⟨Nat.le_trans h.size hg.size, ⟨(hg.block gw h.wd.lt (ne _ hw)).trans h.wd.heap⟩, ⟨(hg.block gr h.res.lt (ne _ hr)).trans h.res.heap⟩,
    ⟨hg.os.trans h.below.os, hg.tape.trans h.below.tape, hg.output.trans h.below.output, Nat.le_trans h.below.size hg.size, fun k hk => (hg.block k (Nat.lt_of_lt_of_le hk h.below.size) (ne _ (by omega))).trans (h.below.block k hk)⟩⟩
end
set_option maxRecDepth 100000 in
set_option maxHeartbeats 4000000 in
theorem all_any (K : Option Addr) (kn kc : Nat) (key : List UInt8) (A : Option Addr) (m c : Nat) (its : List (Int × List UInt8)) (w : World) (hK : Bs w w.heap.size K kn kc key) (hI : Its w w.heap.size A m c its)
    (hm : m ≤ 4294967296) (hkn : kn ≤ 524288) (hb : ∀ x ∈ its, x.2.length ≤ 523000) :
    Calls Try.prog 20 #[.slice K kn kc, .slice A m c] w fun e w' => e = .returned (.agg (cells8 (allL key its)).toArray) ∧ Below w.heap.size w w' := by
  have HK : Kp _ := ⟨hK⟩
  have HI : Kp _ := ⟨hI⟩
  have HB : Kp _ := ⟨hb⟩
  obtain ⟨L, hL⟩ : ∃ L, L = allL key its := ⟨_, rfl⟩
  have HDg : Kp (∀ W, Calls Try.prog 24 #[.agg (numCells (W4 (sumN (comeL key its)))).toArray] W fun e w' => e = .returned (.agg (cells8 L).toArray) ∧ Below W.heap.size W w') := ⟨fun W => by rw [hL]; exact sdigest_any _ W⟩
  have HLr : Kp ((cells8 L).length = 32) := ⟨by rw [hL, cells8_length, allL_length]⟩
  rw [← hL]
  clear hL hK hI hb
  refine (callsIn_wide (n := 8)).1 (callsIn_of_wp_marks (F := Fence.wide) (n := 8) Try.func20 rfl trivial ?_ rfl)
  simp only [Try.ntmps20, List.size_toArray, List.length_cons, List.length_nil, Nat.reduceAdd, Nat.reduceSub, Array.replicate_succ, Array.replicate_zero, List.push_toArray, List.append_toArray, List.nil_append, List.cons_append]
  refine wpIn_wide.2 ?_
  go_wp2_with (with_reducible refine wpList_alloc (o := ⟨some 4, _, _, _, _, _⟩) tyDig rfl rfl ?_)
  intro w1 hk1 hb1 hs1
  have HR1 : Kp _ := ⟨hk1⟩
  clear hk1 hs1
  go_wp2_with (with_reducible refine wpList_alloc (o := ⟨some 5, _, _, _, _, _⟩) tyWords rfl rfl ?_)
  intro w2 hk2 hb2 hs2
  have hW2 : AllI w w.heap.size w1.heap.size 0 [] w2 := ⟨Nat.zero_le _, by rw [show sumN [] = 0 from rfl, W4_zero]; exact hk2, HR1.out.below hb2 HR1.out.lt, hb1.trans (hb2.mono hb1.size)⟩
  have HW2 : Kp _ := ⟨hW2⟩
  have n1 : w.heap.size < w1.heap.size := HR1.out.lt
  have n2 : w1.heap.size < w2.heap.size := hk2.lt
  have HK2 : Kp (Bs w2 w.heap.size K kn kc key) := ⟨HK.out.below hW2.below⟩
  have HI2 : Kp (Its w2 w.heap.size A m c its) := ⟨HI.out.below hW2.below⟩
  obtain ⟨gw, hgw⟩ : ∃ g, g = w1.heap.size := ⟨_, rfl⟩
  rw [← hgw] at HW2 n1 n2 ⊢
  clear hk2 hb1 hb2 hs2 HR1 hW2 hgw
  go_wp2_with fail
  refine (each_any K kn kc A m c w2).mono ?_
  rintro e w3 ⟨rfl, hw3⟩
  have hb3 : Below w2.heap.size w2 w3 := by rw [hw3]; exact ((Below.refl _ w2).alloc (Nat.le_refl _) _).alloc (by simp) _
  have hs3 : w3.heap.size = w2.heap.size + 2 := by rw [hw3]; simp
  have HBk : Kp (w3.cell? ⟨w2.heap.size, 0, none⟩ = some (.slice K kn kc)) := ⟨by
    rw [hw3]
    refine (Below.cell ((Below.refl (w2.heap.size + 1) (w2.alloc (.cells #[.slice K kn kc] 27))).alloc (by simp) _) (p := ⟨w2.heap.size, 0, none⟩) (by show w2.heap.size < w2.heap.size + 1; omega)).trans ?_
    rw [World.cell?_alloc_at _ _ _ _ rfl]; rfl⟩
  have HBl : Kp (w3.cell? ⟨w2.heap.size + 1, 0, none⟩ = some (.slice A m c)) := ⟨by
    rw [hw3]
    rw [World.cell?_alloc_at _ _ _ _ (by simp)]; rfl⟩
  have hW3 := HW2.out.keep hb3
  have HW3 : Kp (AllI w w.heap.size gw w3.heap.size [] w3) := ⟨Nat.le_refl _, hW3.wd, hW3.res, hW3.below⟩
  clear hW3
  have HK3 : Kp (Bs w3 w.heap.size K kn kc key) := ⟨HK2.out.below (hb3.mono (by omega))⟩
  have HI3 : Kp (Its w3 w.heap.size A m c its) := ⟨HI2.out.below (hb3.mono (by omega))⟩
  obtain ⟨Bk, hBk⟩ : ∃ g, g = w2.heap.size := ⟨_, rfl⟩
  rw [← hBk] at HBk HBl n2 hs3 ⊢
  have hwb : w.heap.size ≤ w3.heap.size := by omega
  clear hw3 hb3 HW2 HK2 HI2 HK HI hBk
  go_wp2_with fail
  refine (wpIn_wide (n := 8)).1 ?_
  refine wpIn_rangeFunc_ownH (F := Fence.wide) (n := 8) rfl (by decide) (gf := 44) (lb := #[.pointer (some ⟨Bk + 1, 0, none⟩), .pointer (some ⟨Bk, 0, none⟩)]) rfl trivial (enters_of Try.func44 (by kernel_rfl) rfl)
    (each_stops (8 - 1) (Bk + 1) Bk w.heap.size A m c its K kn kc key w3 hwb HBl.out HBk.out (by omega) (by omega) HI3.out HK3.out hm hkn HB.out)
    (fun h k => KpE.trans h k) (fun W l o o' hl h _ _ => KpE.grown (grownBy_putObj' W l o') (fun g e => by cases e; omega) (by have := (Array.getElem?_eq_some_iff.1 h).1; omega) (by have := (Array.getElem?_eq_some_iff.1 h).1; omega) (by have := (Array.getElem?_eq_some_iff.1 h).1; omega))
    (Below.refl _ _) (fun _ => rfl) (AllI w w.heap.size gw w3.heap.size) (fun _ _ _ => False) (AllI.own _ (by omega) (by omega) hwb) (fun _ _ _ _ _ h _ _ => h) HW3.out
    (fun x a' W => ∃ (Bx : Nat) (t0 t1 t2 t3 t4 t7 t8 t9 t10 t11 t12 t13 t14 t15 t16 : Value), w3.heap.size ≤ Bx ∧ Blk W Bx 23 (cells8 x.1) ∧ a' = { tmps := #[t0, t1, t2, t3, t4, .pointer (some ⟨gw, 0, none⟩), .pointer (some ⟨Bx, 0, none⟩), t7, t8, t9, t10, t11, t12, t13, t14, t15, t16], defers := [] })
    ?hAx ?assign ?body ?done ?stop
  case hAx =>
    rintro x a' _ X Y row ⟨Bx, t0, t1, t2, t3, t4, t7, t8, t9, t10, t11, t12, t13, t14, t15, t16, hBx, hk, rfl⟩ hg hrow
    refine ⟨Bx, t0, t1, t2, t3, t4, t7, t8, t9, t10, t11, t12, t13, t14, t15, t16, hBx, ⟨(hg.block Bx hk.lt (fun e => ?_)).trans hk.heap⟩, rfl⟩
    obtain ⟨_, o, h1, h2⟩ := hrow Bx e.symm
    rw [hk.heap] at h1
    cases h1; cases h2
  case assign =>
    intro l pre x W K hi hKK
    have HLx : Kp ((cells8 x.1).length = 32) := ⟨by rw [cells8_length]; exact x.2⟩
    simp only [encD, zip_one, List.setIfInBounds_toArray, List.set_cons_succ, List.set_cons_zero]
    refine wpIn_region_lit ?_
    refine list_inRound l (by intro c h; cases h) rfl fun K1 hK1 => ?_
    refine step_alloc tyDig rfl rfl ?_
    intro x1 hk1 hb1
    refine hK1 _ _ ?_
    clear hK1 K1
    refine list_inRound l (by intro c h; cases h) rfl fun K1 hK1 => ?_
    refine step_store rwDig rfl (.tmp 6) (.tmp 10) rfl rfl rfl hk1 HLx.out (fit_all32 (l := zero32) rfl) (cells8_one _) ?_
    intro x2 hk2 ho2
    refine hK1 _ _ ?_
    clear hK1 K1
    refine wpListIn_nil ?_
    have hb2 : Below W.heap.size W x2 := hb1.trans (ho2.below (Nat.le_refl _))
    have hsz := hi.size
    rw [store_all32 (n := 32) rfl] at hk2
    exact hKK _ _ (KeepsFrom.of_grownBy (grown_none hb2) (fun j e => by cases e)) (KpE.of_below hb2 (by omega) (by omega) (by omega)) (hi.keep hb2)
      ⟨W.heap.size, _, _, _, _, _, _, _, _, _, _, _, _, _, _, _, hsz, hk2, rfl⟩
  case body =>
    rintro l pre x a' W hl ⟨r, hr⟩ hi ⟨Bx, t0, t1, t2, t3, t4, t7, t8, t9, t10, t11, t12, t13, t14, t15, t16, hBx, hx, rfl⟩ hlen
    have hlW : l < W.heap.size := (Array.getElem?_eq_some_iff.1 hr).1
    have hsz := hi.size
    have HLx : Kp ((cells8 x.1).length = 32) := ⟨by rw [cells8_length]; exact x.2⟩
    have HLw : Kp ((numCells (W4 (sumN pre))).length = 4) := ⟨by rw [numCells_length, W4_length]⟩
    have HLn : Kp ((numCells (W4 (sumN pre + getN x.1))).length = 4) := ⟨by rw [numCells_length, W4_length]⟩
    have HW : Kp (Blk W.drew gw 41 (numCells (W4 (sumN pre)))) := ⟨hi.wd.drew⟩
    have HX : Kp (Blk W.drew Bx 23 (cells8 x.1)) := ⟨hx.drew⟩
    have HR : Kp (Blk W w.heap.size 23 zero32) := ⟨hi.res⟩
    have hBW : Below W.heap.size W W.drew := (Below.refl _ _).drew
    refine wpIn_block ?_
    refine wpIn_region_any (by kernel_rfl) ?_
    change wpAnyIn _ _ _ _ _ _ _ _ _ W.drew
    generalize W.drew = wS at *
    refine wpAnyIn_ready (rs := [0, 1]) (by kernel_rfl) (by simp) ?_
    refine AllReadyIn.cons (o := ⟨some 11, _, _, _, _, _⟩) rfl (fun K hK => ready_inRound l (by intro c h; cases h) rfl ?_) (AllReadyIn.cons (o := ⟨some 12, _, _, _, _, _⟩) rfl (fun K hK => ready_inRound l (by intro c h; cases h) rfl ?_) AllReadyIn.nil)
    · refine step_load rwWords rfl (.tmp 5) rfl rfl HW.out (fit_all32 HLw.out) (take_all32 HLw.out) ?_
      refine hK _ _ ?_
      clear hK K
      try simp only [Act.put, List.setIfInBounds_toArray, List.set_cons_zero, List.set_cons_succ]
      refine wpAnyIn_ready (rs := [1]) (by kernel_rfl) (by simp) ?_
      refine AllReadyIn.cons (o := ⟨some 12, _, _, _, _, _⟩) rfl (fun K hK => ready_inRound l (by intro c h; cases h) rfl ?_) AllReadyIn.nil
      refine step_load rwDig rfl (.tmp 6) rfl rfl HX.out (fit_all32 HLx.out) (take_all32 HLx.out) ?_
      refine hK _ _ ?_
      clear hK K
      try simp only [Act.put, List.setIfInBounds_toArray, List.set_cons_zero, List.set_cons_succ]
      refine wpAnyIn_ready (rs := [2]) (by kernel_rfl) (by simp) ?_
      refine AllReadyIn.cons (o := ⟨some 13, _, _, _, _, _⟩) rfl (fun K hK => ready_inRound l (by intro c h; cases h) rfl ?_) AllReadyIn.nil
      go_simp
      refine (split_any x.1 wS x.2).mono ?_
      rintro e x4 ⟨rfl, hb'⟩
      refine hK _ _ ?_
      clear hK K
      try simp only [Act.put, List.setIfInBounds_toArray, List.set_cons_zero, List.set_cons_succ]
      replace HW : Kp _ := ⟨HW.out.below hb' HW.out.lt⟩
      replace HX : Kp _ := ⟨HX.out.below hb' HX.out.lt⟩
      replace hBW := hBW.trans (hb'.mono hBW.size)
      clear hb'
      refine wpAnyIn_ready (rs := [3]) (by kernel_rfl) (by simp) ?_
      refine AllReadyIn.cons (o := ⟨some 14, _, _, _, _, _⟩) rfl (fun K hK => ready_inRound l (by intro c h; cases h) rfl ?_) AllReadyIn.nil
      go_simp
      refine (plus_any (sumN pre) (getN x.1) x4).mono ?_
      rintro e x5 ⟨rfl, hb'⟩
      refine hK _ _ ?_
      clear hK K
      try simp only [Act.put, List.setIfInBounds_toArray, List.set_cons_zero, List.set_cons_succ]
      replace HW : Kp _ := ⟨HW.out.below hb' HW.out.lt⟩
      replace HX : Kp _ := ⟨HX.out.below hb' HX.out.lt⟩
      replace hBW := hBW.trans (hb'.mono hBW.size)
      clear hb'
      refine wpAnyIn_ready (rs := [4]) (by kernel_rfl) (by simp) ?_
      refine AllReadyIn.cons (o := ⟨none, _, _, _, _, _⟩) rfl (fun K hK => ready_inRound l (by intro c h; cases h) rfl ?_) AllReadyIn.nil
      refine step_store rwWords rfl (.tmp 5) (.tmp 14) rfl rfl rfl HW.out HLn.out (fit_all32 HLw.out) (numCells_one _) ?_
      intro x9 hk ho
      refine hK _ _ ?_
      clear hK K
      try simp only [Act.put]
      refine wpAnyIn_done (by kernel_rfl) ?_ _
      rw [store_all32 (n := 4) HLw.out] at hk
      have hg := only_of hBW ho
      exact ⟨KeepsFrom.of_grownBy hg (fun j e => by cases e; omega), KpE.grown hg (fun g e => by cases e; omega) (by omega) (by omega) (by omega), ⟨Nat.le_trans hi.size hg.size, by rw [sumN_snoc]; exact hk, HR.out.grown hg (by omega), hi.below.trans ((Below.mk hg.os hg.tape hg.output hg.size (fun k hk => hg.block k (by omega) (fun e => by have := Option.some.inj e; omega))))⟩⟩
    · refine step_load rwDig rfl (.tmp 6) rfl rfl HX.out (fit_all32 HLx.out) (take_all32 HLx.out) ?_
      refine hK _ _ ?_
      clear hK K
      try simp only [Act.put, List.setIfInBounds_toArray, List.set_cons_zero, List.set_cons_succ]
      refine wpAnyIn_ready (rs := [0, 2]) (by kernel_rfl) (by simp) ?_
      refine AllReadyIn.cons (o := ⟨some 11, _, _, _, _, _⟩) rfl (fun K hK => ready_inRound l (by intro c h; cases h) rfl ?_) (AllReadyIn.cons (o := ⟨some 13, _, _, _, _, _⟩) rfl (fun K hK => ready_inRound l (by intro c h; cases h) rfl ?_) AllReadyIn.nil)
      · refine step_load rwWords rfl (.tmp 5) rfl rfl HW.out (fit_all32 HLw.out) (take_all32 HLw.out) ?_
        refine hK _ _ ?_
        clear hK K
        try simp only [Act.put, List.setIfInBounds_toArray, List.set_cons_zero, List.set_cons_succ]
        refine wpAnyIn_ready (rs := [2]) (by kernel_rfl) (by simp) ?_
        refine AllReadyIn.cons (o := ⟨some 13, _, _, _, _, _⟩) rfl (fun K hK => ready_inRound l (by intro c h; cases h) rfl ?_) AllReadyIn.nil
        go_simp
        refine (split_any x.1 wS x.2).mono ?_
        rintro e x4 ⟨rfl, hb'⟩
        refine hK _ _ ?_
        clear hK K
        try simp only [Act.put, List.setIfInBounds_toArray, List.set_cons_zero, List.set_cons_succ]
        replace HW : Kp _ := ⟨HW.out.below hb' HW.out.lt⟩
        replace HX : Kp _ := ⟨HX.out.below hb' HX.out.lt⟩
        replace hBW := hBW.trans (hb'.mono hBW.size)
        clear hb'
        refine wpAnyIn_ready (rs := [3]) (by kernel_rfl) (by simp) ?_
        refine AllReadyIn.cons (o := ⟨some 14, _, _, _, _, _⟩) rfl (fun K hK => ready_inRound l (by intro c h; cases h) rfl ?_) AllReadyIn.nil
        go_simp
        refine (plus_any (sumN pre) (getN x.1) x4).mono ?_
        rintro e x5 ⟨rfl, hb'⟩
        refine hK _ _ ?_
        clear hK K
        try simp only [Act.put, List.setIfInBounds_toArray, List.set_cons_zero, List.set_cons_succ]
        replace HW : Kp _ := ⟨HW.out.below hb' HW.out.lt⟩
        replace HX : Kp _ := ⟨HX.out.below hb' HX.out.lt⟩
        replace hBW := hBW.trans (hb'.mono hBW.size)
        clear hb'
        refine wpAnyIn_ready (rs := [4]) (by kernel_rfl) (by simp) ?_
        refine AllReadyIn.cons (o := ⟨none, _, _, _, _, _⟩) rfl (fun K hK => ready_inRound l (by intro c h; cases h) rfl ?_) AllReadyIn.nil
        refine step_store rwWords rfl (.tmp 5) (.tmp 14) rfl rfl rfl HW.out HLn.out (fit_all32 HLw.out) (numCells_one _) ?_
        intro x9 hk ho
        refine hK _ _ ?_
        clear hK K
        try simp only [Act.put]
        refine wpAnyIn_done (by kernel_rfl) ?_ _
        rw [store_all32 (n := 4) HLw.out] at hk
        have hg := only_of hBW ho
        exact ⟨KeepsFrom.of_grownBy hg (fun j e => by cases e; omega), KpE.grown hg (fun g e => by cases e; omega) (by omega) (by omega) (by omega), ⟨Nat.le_trans hi.size hg.size, by rw [sumN_snoc]; exact hk, HR.out.grown hg (by omega), hi.below.trans ((Below.mk hg.os hg.tape hg.output hg.size (fun k hk => hg.block k (by omega) (fun e => by have := Option.some.inj e; omega))))⟩⟩
      · go_simp
        refine (split_any x.1 wS x.2).mono ?_
        rintro e x4 ⟨rfl, hb'⟩
        refine hK _ _ ?_
        clear hK K
        try simp only [Act.put, List.setIfInBounds_toArray, List.set_cons_zero, List.set_cons_succ]
        replace HW : Kp _ := ⟨HW.out.below hb' HW.out.lt⟩
        replace HX : Kp _ := ⟨HX.out.below hb' HX.out.lt⟩
        replace hBW := hBW.trans (hb'.mono hBW.size)
        clear hb'
        refine wpAnyIn_ready (rs := [0]) (by kernel_rfl) (by simp) ?_
        refine AllReadyIn.cons (o := ⟨some 11, _, _, _, _, _⟩) rfl (fun K hK => ready_inRound l (by intro c h; cases h) rfl ?_) AllReadyIn.nil
        refine step_load rwWords rfl (.tmp 5) rfl rfl HW.out (fit_all32 HLw.out) (take_all32 HLw.out) ?_
        refine hK _ _ ?_
        clear hK K
        try simp only [Act.put, List.setIfInBounds_toArray, List.set_cons_zero, List.set_cons_succ]
        refine wpAnyIn_ready (rs := [3]) (by kernel_rfl) (by simp) ?_
        refine AllReadyIn.cons (o := ⟨some 14, _, _, _, _, _⟩) rfl (fun K hK => ready_inRound l (by intro c h; cases h) rfl ?_) AllReadyIn.nil
        go_simp
        refine (plus_any (sumN pre) (getN x.1) x4).mono ?_
        rintro e x5 ⟨rfl, hb'⟩
        refine hK _ _ ?_
        clear hK K
        try simp only [Act.put, List.setIfInBounds_toArray, List.set_cons_zero, List.set_cons_succ]
        replace HW : Kp _ := ⟨HW.out.below hb' HW.out.lt⟩
        replace HX : Kp _ := ⟨HX.out.below hb' HX.out.lt⟩
        replace hBW := hBW.trans (hb'.mono hBW.size)
        clear hb'
        refine wpAnyIn_ready (rs := [4]) (by kernel_rfl) (by simp) ?_
        refine AllReadyIn.cons (o := ⟨none, _, _, _, _, _⟩) rfl (fun K hK => ready_inRound l (by intro c h; cases h) rfl ?_) AllReadyIn.nil
        refine step_store rwWords rfl (.tmp 5) (.tmp 14) rfl rfl rfl HW.out HLn.out (fit_all32 HLw.out) (numCells_one _) ?_
        intro x9 hk ho
        refine hK _ _ ?_
        clear hK K
        try simp only [Act.put]
        refine wpAnyIn_done (by kernel_rfl) ?_ _
        rw [store_all32 (n := 4) HLw.out] at hk
        have hg := only_of hBW ho
        exact ⟨KeepsFrom.of_grownBy hg (fun j e => by cases e; omega), KpE.grown hg (fun g e => by cases e; omega) (by omega) (by omega) (by omega), ⟨Nat.le_trans hi.size hg.size, by rw [sumN_snoc]; exact hk, HR.out.grown hg (by omega), hi.below.trans ((Below.mk hg.os hg.tape hg.output hg.size (fun k hk => hg.block k (by omega) (fun e => by have := Option.some.inj e; omega))))⟩⟩
  case done =>
    rintro D ys W hD rfl hi hKd
    have HW : Kp _ := ⟨hi.wd⟩
    have HR : Kp _ := ⟨hi.res⟩
    have hB := hi.below
    have HKd : Kp _ := ⟨hKd⟩
    have HLw : Kp ((numCells (W4 (sumN (comeL key its)))).length = 4) := ⟨by rw [numCells_length, W4_length]⟩
    have HZ : Kp (zero32.length = 32) := ⟨rfl⟩
    have hDl : D < W.heap.size := (Array.getElem?_eq_some_iff.1 hKd).1
    have hDr : w.heap.size < D := by omega
    clear hi hKd
    go_wp2_with (with_reducible refine wpList_loadAll (o := ⟨some 15, _, _, _, _, _⟩) rwWords rfl (.tmp 5) rfl rfl HW.out HLw.out ?_)
    go_wp2_with fail
    refine (HDg.out _).mono ?_
    rintro e W1 ⟨rfl, hb1⟩
    have HR1 : Kp _ := ⟨HR.out.below hb1 HR.out.lt⟩
    have HKd1 : Kp (W1.heap[D]? = some (.deferred (some []))) := ⟨(hb1.block D hDl).trans HKd.out⟩
    have hB1 := hB.trans (hb1.mono hB.size)
    clear hb1 HW HR HKd hB
    go_wp2_with (refine wpList_storeAll (o := ⟨none, _, _, _, _, _⟩) (vs := cells8 L) rwDig rfl (.tmp 4) (.tmp 16) rfl rfl HR1.out HZ.out HLr.out (cells8_one _) rfl ?_)
    intro W2 hk2 ho2
    have HK2 : Kp _ := ⟨hk2⟩
    have hKd2 : W2.heap[D]? = some (.deferred (some [])) := (ho2.block D (by omega)).trans HKd1.out
    have hB2 := hB1.trans (ho2.below (Nat.le_refl _))
    clear hk2 ho2 HR1 HKd1 hB1
    go_wp2
    refine ⟨by simp, .inl ⟨_, _, rfl, run_takeDeferred hKd2, ?_⟩⟩
    have hk3 : Blk (W2.putObj D (.deferred none)) w.heap.size 23 (cells8 L) := ⟨(World.putObj_heap_other (by omega)).trans HK2.out.heap⟩
    have hB3 : Below w.heap.size w (W2.putObj D (.deferred none)) := hB2.trans ((Below.refl _ W2).grown (grownBy_putObj' W2 D _) hB2.size (fun k e => by cases e; omega))
    exact ⟨_, results_arr rfl rwDig rfl hk3 HLr.out, rfl, hB3⟩
  case stop =>
    rintro D cc pre W hD hp h _
    exact h.elim
end Go.Proofs.Ytjllfaeamjadcaa

namespace Go.Proofs.Ytjllfaeamjadcaa
open Go.RowKit

def byN (n k : Nat) : Nat := n / 256 ^ k % 256
def carryB (m n k : Nat) : Nat := (m % 256 ^ k + n % 256 ^ k) / 256 ^ k
def borrowB (m n k : Nat) : Nat := if m % 256 ^ k < n % 256 ^ k then 1 else 0
theorem carryB_zero (m n : Nat) : carryB m n 0 = 0 := by unfold carryB; simp [Nat.mod_one]
theorem borrowB_zero (m n : Nat) : borrowB m n 0 = 0 := by unfold borrowB; simp [Nat.mod_one]
theorem carryB_le (m n k : Nat) : carryB m n k ≤ 1 := by
  unfold carryB
  have hp : 0 < 256 ^ k := Nat.pow_pos (by decide)
  have h1 := Nat.mod_lt m hp
  have h2 := Nat.mod_lt n hp
  generalize 256 ^ k = P at *
  have : (m % P + n % P) / P < 2 := Nat.div_lt_of_lt_mul (by omega)
  omega
theorem borrowB_le (m n k : Nat) : borrowB m n k ≤ 1 := by unfold borrowB; split <;> omega
theorem byN_lt (n k : Nat) : byN n k < 256 := Nat.mod_lt _ (by decide)
theorem pow_succ256 (k : Nat) : 256 ^ (k + 1) = 256 ^ k * 256 := Nat.pow_succ _ _
theorem add_byte (m n k : Nat) : byN (m + n) k = (carryB m n k + byN m k + byN n k) % 256 ∧ carryB m n (k + 1) = (carryB m n k + byN m k + byN n k) / 256 := by
  obtain ⟨h1, h2⟩ := add_parts m n (256 ^ k) 256 (Nat.pow_pos (by decide))
  unfold byN carryB
  rw [pow_succ256]
  exact ⟨by rw [h1]; congr 1; omega, by rw [h2]; congr 1; omega⟩
theorem sub_byte (m n k : Nat) (hk : k < 32) (hn : n < 256 ^ 32) :
    byN (subN m n) k = (if byN m k < byN n k + borrowB m n k then byN m k + 256 - byN n k - borrowB m n k else byN m k - byN n k - borrowB m n k) ∧
    borrowB m n (k + 1) = (if byN m k < byN n k + borrowB m n k then 1 else 0) := by
  have h := sub_parts m n (256 ^ k) 256 (Nat.pow_pos (by decide)) (by decide) (256 ^ (31 - k))
  have e : 256 ^ k * 256 * 256 ^ (31 - k) = 256 ^ 32 := by
    rw [← Nat.pow_succ, ← Nat.pow_add, show k + 1 + (31 - k) = 32 by omega]
  rw [e] at h
  obtain ⟨h1, h2⟩ := h (by omega)
  have hx := byN_lt m k
  have hy := byN_lt n k
  have hb := borrowB_le m n k
  refine ⟨?_, by unfold byN borrowB; rw [pow_succ256]; exact h2⟩
  have h3 : byN (subN m n) k = (byN m k + 256 - byN n k + 256 - borrowB m n k) % 256 := h1
  rw [h3]
  generalize byN m k = x at *
  generalize byN n k = y at *
  generalize borrowB m n k = b at *
  split <;> omega
theorem byte_at (l : List UInt8) (hl : l.length = 32) (k : Nat) (hk : k < 32) : (l[31 - k]'(by omega)).toNat = byN (getN l) k := by
  have e1 : l = l.take (31 - k) ++ [l[31 - k]'(by omega)] ++ l.drop (31 - k + 1) := by
    conv => lhs; rw [← List.take_append_drop (31 - k + 1) l]
    rw [List.take_succ_eq_append_getElem (by omega)]
  have hz : (l.drop (31 - k + 1)).length = k := by simp; omega
  have hz2 := getN_lt (l.drop (31 - k + 1))
  obtain ⟨x, hx⟩ : ∃ x, x = l[31 - k]'(by omega) := ⟨_, rfl⟩
  rw [← hx] at e1 ⊢
  clear hx
  generalize l.drop (31 - k + 1) = z at *
  generalize l.take (31 - k) = y at *
  rw [e1, getN_append, getN_append, hz]
  rw [hz] at hz2
  unfold byN
  have hs : getN [x] = x.toNat := by simp [getN]
  rw [hs]
  have hx := x.toNat_lt
  rw [show ([x] : List UInt8).length = 1 from rfl, Nat.pow_one]
  generalize getN y = gy at *
  generalize getN z = gz at *
  rw [show (gy * 256 + x.toNat) * 256 ^ k + gz = gz + 256 ^ k * (gy * 256 + x.toNat) by rw [Nat.mul_comm (256 ^ k)]; omega, Nat.add_mul_div_left _ _ (Nat.pow_pos (by decide)), Nat.div_eq_of_lt hz2]
  omega
/-- the bytes of a number: the last k are there -/
def tailB (n k : Nat) : List UInt8 := List.replicate (32 - k) 0 ++ putN n k
theorem tailB_spot (n k : Nat) (hk : k < 32) : (cells8 (tailB n k))[31 - k]? = some (.int .u8 0) := by
  have h := put_spot (n := n) (N := 32) hk
  rwa [show 32 - 1 - k = 31 - k by omega] at h
theorem tailB_set (n k : Nat) (hk : k < 32) : (cells8 (tailB n k)).set (31 - k) (.int .u8 ((byN n k : Nat) : Int)) = cells8 (tailB n (k + 1)) := by
  have h := put_row (n := n) (N := 32) hk
  rw [show 32 - 1 - k = 31 - k by omega] at h
  have e : ((byN n k : Nat) : Int) = (n : Int) / 2 ^ (8 * k) % 256 := by
    unfold byN
    rw [show (256 : Nat) ^ k = 2 ^ (8 * k) by rw [show (256 : Nat) = 2 ^ 8 from rfl, ← Nat.pow_mul]]
    simp
  rw [e]
  exact h
theorem tailB_none (n : Nat) : cells8 (tailB n 0) = cells8 z32 := by
  unfold tailB
  rw [show putN n 0 = [] from rfl, List.append_nil]; rfl
theorem tailB_all (n : Nat) : tailB n 32 = putN n 32 := by
  unfold tailB
  rw [Nat.sub_self, List.replicate_zero, List.nil_append]
theorem tailB_length (n k : Nat) (hk : k ≤ 32) : (tailB n k).length = 32 := by simp [tailB, putN_length]; omega
/-- the first byte that differs decides -/
theorem less_at {a b : List UInt8} (ha : a.length = 32) (hb : b.length = 32) (k : Nat) (hk : k < 32) (ht : a.take k = b.take k) (h : (a[k]'(by omega)).toNat < (b[k]'(by omega)).toNat) : getN a < getN b := by
  have split : ∀ l : List UInt8, ∀ hl : l.length = 32, getN l = (getN (l.take k) * 256 + (l[k]'(by omega)).toNat) * 256 ^ (31 - k) + getN (l.drop (k + 1)) := by
    intro l hl
    have e1 : l = l.take k ++ [l[k]'(by omega)] ++ l.drop (k + 1) := by
      conv => lhs; rw [← List.take_append_drop (k + 1) l]
      rw [List.take_succ_eq_append_getElem (by omega)]
    conv => lhs; rw [e1]
    rw [getN_append, getN_append, show ([l[k]'(by omega)] : List UInt8).length = 1 from rfl, Nat.pow_one, show (l.drop (k + 1)).length = 31 - k by simp; omega]
    congr 3
    simp [getN]
  rw [split a ha, split b hb, ht]
  have h1 := getN_lt (a.drop (k + 1))
  rw [show (a.drop (k + 1)).length = 31 - k by simp; omega] at h1
  generalize a[k]'_ = x at *
  generalize b[k]'_ = y at *
  generalize getN (b.take k) = t at *
  generalize getN (a.drop (k + 1)) = u at *
  generalize getN (b.drop (k + 1)) = v at *
  generalize 256 ^ (31 - k) = P at *
  have h2 : (t * 256 + x.toNat + 1) * P ≤ (t * 256 + y.toNat) * P := Nat.mul_le_mul_right _ (by omega)
  rw [Nat.add_mul, Nat.one_mul] at h2
  omega
end Go.Proofs.Ytjllfaeamjadcaa

namespace Go.Proofs.Ytjllfaeamjadcaa
open Go.RowKit

set_option maxRecDepth 100000 in
set_option maxHeartbeats 4000000 in
theorem less_any (a b : List UInt8) (w : World) (ha : a.length = 32) (hb : b.length = 32) : Calls Try.prog 14 #[.agg (cells8 a).toArray, .agg (cells8 b).toArray] w fun e w' => e = .returned (.bool (lessL a b)) ∧ Below w.heap.size w w' := by
  have HA32 : Kp _ := ⟨ha⟩
  have HB32 : Kp _ := ⟨hb⟩
  have HLa : Kp ((cells8 a).length = 32) := ⟨by rw [cells8_length]; exact ha⟩
  have HLb : Kp ((cells8 b).length = 32) := ⟨by rw [cells8_length]; exact hb⟩
  have HGa : Kp _ := ⟨getN_lt32 ha⟩
  have HGb : Kp _ := ⟨getN_lt32 hb⟩
  have huD : (Try.prog).underlying 23 = some (.array 32 5) := rwDig.ty
  have hia : ((Try.prog).info? 23).map (·.size) = some (cells8 a).length := by rw [HLa.out]; exact rwDig.size
  have hib : ((Try.prog).info? 23).map (·.size) = some (cells8 b).length := by rw [HLb.out]; exact rwDig.size
  clear ha hb
  obtain ⟨bb, hbb⟩ : ∃ bb, bb = lessL a b := ⟨_, rfl⟩
  have HBB : Kp (decide (getN a < getN b) = bb) := ⟨hbb.symm⟩
  rw [← hbb]
  clear hbb
  go_enter Try.func14, Try.ntmps14
  go_wp2_with (with_reducible refine wpList_box (o := ⟨some 2, _, _, _, _, _⟩) rfl (.tmp 0) rfl rfl ?_)
  intro w1 hk1 hb1 hs1
  have HK1 : Kp _ := ⟨hk1⟩
  clear hk1 hs1
  go_wp2_with (with_reducible refine wpList_box (o := ⟨some 3, _, _, _, _, _⟩) rfl (.tmp 1) rfl rfl ?_)
  intro w2 hk2 hb2 hs2
  have hT2 : Two w w.heap.size w1.heap.size 23 (cells8 a) (cells8 b) w2 := ⟨HK1.out.below hb2 HK1.out.lt, hk2, hb1.trans (hb2.mono hb1.size)⟩
  have n1 : w.heap.size < w1.heap.size := HK1.out.lt
  have n2 : w1.heap.size < w2.heap.size := hk2.lt
  obtain ⟨gb, hgb⟩ : ∃ g, g = w1.heap.size := ⟨_, rfl⟩
  rw [← hgb] at hT2 n1 n2 ⊢
  clear hk2 hb1 hb2 hs2 HK1 hgb
  go_wp2_with fail
  refine wp_region_held_drew (S := Two w w.heap.size gb 23 (cells8 a) (cells8 b)) (by kernel_rfl) (hT2.drew) (fun hHeld => ?_)
  generalize w2.drew = wS at *
  refine wpAnyH_take (i := 0) (oi := ⟨some 8, _, _, _, _, _⟩) (v := _) rfl (by kernel_rfl) (by kernel_rfl) (by kernel_rfl) (fun _ _ _ h => h) (yieldsIf_load_mid (by rfl) _ (.tmp 2) rfl _ _ rfl (cells8 a) _ (fun W hW => hW.a.range (take_all32 HLa.out)) huD rfl hia) (by assumption) ?_
  try simp only [Act.put, List.setIfInBounds_toArray, List.set_cons_zero, List.set_cons_succ]
  refine wpAnyH_take (i := 2) (oi := ⟨some 10, _, _, _, _, _⟩) (v := _) rfl (by kernel_rfl) (by kernel_rfl) (by kernel_rfl) (fun _ _ _ h => h) (yieldsIf_load_mid (by rfl) _ (.tmp 3) rfl _ _ rfl (cells8 b) _ (fun W hW => hW.b.range (take_all32 HLb.out)) huD rfl hib) (by assumption) ?_
  try simp only [Act.put, List.setIfInBounds_toArray, List.set_cons_zero, List.set_cons_succ]
  refine wpAnyH_ready (rs := [1, 8]) (by kernel_rfl) (by simp) ?_
  refine AllReadyH.cons (o := ⟨some 9, _, _, _, _, _⟩) rfl (fun K hK => ?_) (AllReadyH.cons (o := ⟨some 5, _, _, _, _, _⟩) rfl (fun K hK => ?_) AllReadyH.nil)
  · go_simp
    refine (split_any a _ HA32.out).mono ?_
    rintro e w51 ⟨rfl, hb'⟩
    try replace HR : Kp _ := ⟨HR.out.below hb' HR.out.lt⟩
    try replace HW : Kp _ := ⟨HW.out.below hb' HW.out.lt⟩
    refine hK.out _ _ (hHeld.next hb') (fun hHeld2 => ?_)
    clear hb'
    clear hK K hHeld
    have hHeld := hHeld2
    clear hHeld2
    try simp only [Act.put, List.setIfInBounds_toArray, List.set_cons_zero, List.set_cons_succ]
    refine wpAnyH_ready (rs := [3, 8]) (by kernel_rfl) (by simp) ?_
    refine AllReadyH.cons (o := ⟨some 11, _, _, _, _, _⟩) rfl (fun K hK => ?_) (AllReadyH.cons (o := ⟨some 5, _, _, _, _, _⟩) rfl (fun K hK => ?_) AllReadyH.nil)
    · go_simp
      refine (split_any b _ HB32.out).mono ?_
      rintro e w52 ⟨rfl, hb'⟩
      try replace HR : Kp _ := ⟨HR.out.below hb' HR.out.lt⟩
      try replace HW : Kp _ := ⟨HW.out.below hb' HW.out.lt⟩
      refine hK.out _ _ (hHeld.next hb') (fun hHeld2 => ?_)
      clear hb'
      clear hK K hHeld
      have hHeld := hHeld2
      clear hHeld2
      try simp only [Act.put, List.setIfInBounds_toArray, List.set_cons_zero, List.set_cons_succ]
      refine wpAnyH_ready (rs := [4, 8]) (by kernel_rfl) (by simp) ?_
      refine AllReadyH.cons (o := ⟨some 12, _, _, _, _, _⟩) rfl (fun K hK => ?_) (AllReadyH.cons (o := ⟨some 5, _, _, _, _, _⟩) rfl (fun K hK => ?_) AllReadyH.nil)
      · go_simp
        refine (minus_any (getN a) (getN b) _ HGa.out HGb.out).mono ?_
        rintro e w53 ⟨rfl, hb'⟩
        try replace HR : Kp _ := ⟨HR.out.below hb' HR.out.lt⟩
        try replace HW : Kp _ := ⟨HW.out.below hb' HW.out.lt⟩
        refine hK.out _ _ (hHeld.next hb') (fun hHeld2 => ?_)
        clear hb'
        clear hK K hHeld
        have hHeld := hHeld2
        clear hHeld2
        try simp only [Act.put, List.setIfInBounds_toArray, List.set_cons_zero, List.set_cons_succ]
        refine wpAnyH_take (i := 5) (oi := ⟨some 7, _, _, _, _, _⟩) (v := ?_) rfl (by kernel_rfl) (by kernel_rfl) (by kernel_rfl) (fun _ _ _ h => h) (Or.inl ⟨by rfl, by intro w hSw; go_simp; try rfl⟩) (by assumption) ?_
        try simp only [Act.put, List.setIfInBounds_toArray, List.set_cons_zero, List.set_cons_succ]
        refine wpAnyH_take (i := 6) (oi := ⟨some 13, _, _, _, _, _⟩) (v := ?_) rfl (by kernel_rfl) (by kernel_rfl) (by kernel_rfl) (fun _ _ _ h => h) (Or.inl ⟨by rfl, by intro w hSw; go_simp; try rfl⟩) (by assumption) ?_
        try simp only [Act.put, List.setIfInBounds_toArray, List.set_cons_zero, List.set_cons_succ]
        refine wpAnyH_take (i := 7) (oi := ⟨some 14, _, _, _, _, _⟩) (v := ?_) rfl (by kernel_rfl) (by kernel_rfl) (by kernel_rfl) (fun _ _ _ h => h) (Or.inl ⟨by rfl, by intro w hSw; go_simp; try rfl⟩) (by assumption) ?_
        try simp only [Act.put, List.setIfInBounds_toArray, List.set_cons_zero, List.set_cons_succ]
        refine wpAnyH_ready (rs := [8]) (by kernel_rfl) (by simp) ?_
        refine AllReadyH.cons (o := ⟨some 5, _, _, _, _, _⟩) rfl (fun K hK => ?_) AllReadyH.nil
        refine step_alloc tyWords rfl rfl ?_
        intro w54 hk5 hb'
        try have m4 := HR.out.lt
        try replace HR : Kp _ := ⟨HR.out.below hb' HR.out.lt⟩
        have HW : Kp _ := ⟨hk5⟩
        have m1 := hHeld.a.lt
        have m2 := hHeld.b.lt
        have m3 : w.heap.size ≤ w53.heap.size := hHeld.below.size
        obtain ⟨g5, hg5⟩ : ∃ g, g = w53.heap.size := ⟨_, rfl⟩
        rw [← hg5] at HW m1 m2 m3 ⊢
        try rw [← hg5] at m4
        refine hK.out _ _ (hHeld.next hb') (fun hHeld2 => ?_)
        clear hk5 hb' hg5
        clear hK K hHeld
        have hHeld := hHeld2
        clear hHeld2
        try simp only [Act.put, List.setIfInBounds_toArray, List.set_cons_zero, List.set_cons_succ]
        refine wpAnyH_ready (rs := [9]) (by kernel_rfl) (by simp) ?_
        refine AllReadyH.cons (o := ⟨none, _, _, _, _, _⟩) rfl (fun K hK => ?_) AllReadyH.nil
        have HL3 : Kp ((numCells (W4 (subN (getN a) (getN b)))).length = 4) := ⟨by rw [numCells_length, W4_length]⟩
        refine step_store rwWords rfl (.tmp 5) (.tmp 13) rfl rfl rfl HW.out HL3.out (fit_all32 (l := zeroW4) rfl) (numCells_one _) ?_
        intro w55 hk ho
        try replace HR : Kp _ := ⟨HR.out.only ho (by omega)⟩
        refine hK.out _ _ (hHeld.only ho m1 m2 m3) (fun hHeld2 => ?_)
        have HV : Kp (Blk w55 g5 41 (numCells (W4 (subN (getN a) (getN b))))) := ⟨by have h := hk; rw [store_all32 (n := 4) rfl] at h; exact h⟩
        clear hk ho HW
        clear hK K hHeld
        have hHeld := hHeld2
        clear hHeld2
        try simp only [Act.put]
        refine wpAnyH_take (i := 10) (oi := ⟨some 6, _, _, _, _, _⟩) (v := ?_) rfl (by kernel_rfl) (by kernel_rfl) (by kernel_rfl) (fun _ _ _ h => h) (Or.inl ⟨by rfl, by intro w hSw; go_simp; try rfl⟩) (by assumption) ?_
        try simp only [Act.put, List.setIfInBounds_toArray, List.set_cons_zero, List.set_cons_succ]
        refine wpAnyH_done (by kernel_rfl) ?_ _
        rw [HBB.out]
        clear HV HBB
        go_wp2
        go_ret
        exact ⟨by rfl, hHeld.below⟩
      · refine step_alloc tyWords rfl rfl ?_
        intro w56 hk5 hb'
        try have m4 := HR.out.lt
        try replace HR : Kp _ := ⟨HR.out.below hb' HR.out.lt⟩
        have HW : Kp _ := ⟨hk5⟩
        have m1 := hHeld.a.lt
        have m2 := hHeld.b.lt
        have m3 : w.heap.size ≤ w52.heap.size := hHeld.below.size
        obtain ⟨g5, hg5⟩ : ∃ g, g = w52.heap.size := ⟨_, rfl⟩
        rw [← hg5] at HW m1 m2 m3 ⊢
        try rw [← hg5] at m4
        refine hK.out _ _ (hHeld.next hb') (fun hHeld2 => ?_)
        clear hk5 hb' hg5
        clear hK K hHeld
        have hHeld := hHeld2
        clear hHeld2
        try simp only [Act.put, List.setIfInBounds_toArray, List.set_cons_zero, List.set_cons_succ]
        refine wpAnyH_ready (rs := [4]) (by kernel_rfl) (by simp) ?_
        refine AllReadyH.cons (o := ⟨some 12, _, _, _, _, _⟩) rfl (fun K hK => ?_) AllReadyH.nil
        go_simp
        refine (minus_any (getN a) (getN b) _ HGa.out HGb.out).mono ?_
        rintro e w57 ⟨rfl, hb'⟩
        try replace HR : Kp _ := ⟨HR.out.below hb' HR.out.lt⟩
        try replace HW : Kp _ := ⟨HW.out.below hb' HW.out.lt⟩
        refine hK.out _ _ (hHeld.next hb') (fun hHeld2 => ?_)
        clear hb'
        clear hK K hHeld
        have hHeld := hHeld2
        clear hHeld2
        try simp only [Act.put, List.setIfInBounds_toArray, List.set_cons_zero, List.set_cons_succ]
        refine wpAnyH_take (i := 5) (oi := ⟨some 7, _, _, _, _, _⟩) (v := ?_) rfl (by kernel_rfl) (by kernel_rfl) (by kernel_rfl) (fun _ _ _ h => h) (Or.inl ⟨by rfl, by intro w hSw; go_simp; try rfl⟩) (by assumption) ?_
        try simp only [Act.put, List.setIfInBounds_toArray, List.set_cons_zero, List.set_cons_succ]
        refine wpAnyH_take (i := 6) (oi := ⟨some 13, _, _, _, _, _⟩) (v := ?_) rfl (by kernel_rfl) (by kernel_rfl) (by kernel_rfl) (fun _ _ _ h => h) (Or.inl ⟨by rfl, by intro w hSw; go_simp; try rfl⟩) (by assumption) ?_
        try simp only [Act.put, List.setIfInBounds_toArray, List.set_cons_zero, List.set_cons_succ]
        refine wpAnyH_take (i := 7) (oi := ⟨some 14, _, _, _, _, _⟩) (v := ?_) rfl (by kernel_rfl) (by kernel_rfl) (by kernel_rfl) (fun _ _ _ h => h) (Or.inl ⟨by rfl, by intro w hSw; go_simp; try rfl⟩) (by assumption) ?_
        try simp only [Act.put, List.setIfInBounds_toArray, List.set_cons_zero, List.set_cons_succ]
        refine wpAnyH_ready (rs := [9]) (by kernel_rfl) (by simp) ?_
        refine AllReadyH.cons (o := ⟨none, _, _, _, _, _⟩) rfl (fun K hK => ?_) AllReadyH.nil
        have HL3 : Kp ((numCells (W4 (subN (getN a) (getN b)))).length = 4) := ⟨by rw [numCells_length, W4_length]⟩
        refine step_store rwWords rfl (.tmp 5) (.tmp 13) rfl rfl rfl HW.out HL3.out (fit_all32 (l := zeroW4) rfl) (numCells_one _) ?_
        intro w58 hk ho
        try replace HR : Kp _ := ⟨HR.out.only ho (by omega)⟩
        refine hK.out _ _ (hHeld.only ho m1 m2 m3) (fun hHeld2 => ?_)
        have HV : Kp (Blk w58 g5 41 (numCells (W4 (subN (getN a) (getN b))))) := ⟨by have h := hk; rw [store_all32 (n := 4) rfl] at h; exact h⟩
        clear hk ho HW
        clear hK K hHeld
        have hHeld := hHeld2
        clear hHeld2
        try simp only [Act.put]
        refine wpAnyH_take (i := 10) (oi := ⟨some 6, _, _, _, _, _⟩) (v := ?_) rfl (by kernel_rfl) (by kernel_rfl) (by kernel_rfl) (fun _ _ _ h => h) (Or.inl ⟨by rfl, by intro w hSw; go_simp; try rfl⟩) (by assumption) ?_
        try simp only [Act.put, List.setIfInBounds_toArray, List.set_cons_zero, List.set_cons_succ]
        refine wpAnyH_done (by kernel_rfl) ?_ _
        rw [HBB.out]
        clear HV HBB
        go_wp2
        go_ret
        exact ⟨by rfl, hHeld.below⟩
    · refine step_alloc tyWords rfl rfl ?_
      intro w59 hk5 hb'
      try have m4 := HR.out.lt
      try replace HR : Kp _ := ⟨HR.out.below hb' HR.out.lt⟩
      have HW : Kp _ := ⟨hk5⟩
      have m1 := hHeld.a.lt
      have m2 := hHeld.b.lt
      have m3 : w.heap.size ≤ w51.heap.size := hHeld.below.size
      obtain ⟨g5, hg5⟩ : ∃ g, g = w51.heap.size := ⟨_, rfl⟩
      rw [← hg5] at HW m1 m2 m3 ⊢
      try rw [← hg5] at m4
      refine hK.out _ _ (hHeld.next hb') (fun hHeld2 => ?_)
      clear hk5 hb' hg5
      clear hK K hHeld
      have hHeld := hHeld2
      clear hHeld2
      try simp only [Act.put, List.setIfInBounds_toArray, List.set_cons_zero, List.set_cons_succ]
      refine wpAnyH_ready (rs := [3]) (by kernel_rfl) (by simp) ?_
      refine AllReadyH.cons (o := ⟨some 11, _, _, _, _, _⟩) rfl (fun K hK => ?_) AllReadyH.nil
      go_simp
      refine (split_any b _ HB32.out).mono ?_
      rintro e w60 ⟨rfl, hb'⟩
      try replace HR : Kp _ := ⟨HR.out.below hb' HR.out.lt⟩
      try replace HW : Kp _ := ⟨HW.out.below hb' HW.out.lt⟩
      refine hK.out _ _ (hHeld.next hb') (fun hHeld2 => ?_)
      clear hb'
      clear hK K hHeld
      have hHeld := hHeld2
      clear hHeld2
      try simp only [Act.put, List.setIfInBounds_toArray, List.set_cons_zero, List.set_cons_succ]
      refine wpAnyH_ready (rs := [4]) (by kernel_rfl) (by simp) ?_
      refine AllReadyH.cons (o := ⟨some 12, _, _, _, _, _⟩) rfl (fun K hK => ?_) AllReadyH.nil
      go_simp
      refine (minus_any (getN a) (getN b) _ HGa.out HGb.out).mono ?_
      rintro e w61 ⟨rfl, hb'⟩
      try replace HR : Kp _ := ⟨HR.out.below hb' HR.out.lt⟩
      try replace HW : Kp _ := ⟨HW.out.below hb' HW.out.lt⟩
      refine hK.out _ _ (hHeld.next hb') (fun hHeld2 => ?_)
      clear hb'
      clear hK K hHeld
      have hHeld := hHeld2
      clear hHeld2
      try simp only [Act.put, List.setIfInBounds_toArray, List.set_cons_zero, List.set_cons_succ]
      refine wpAnyH_take (i := 5) (oi := ⟨some 7, _, _, _, _, _⟩) (v := ?_) rfl (by kernel_rfl) (by kernel_rfl) (by kernel_rfl) (fun _ _ _ h => h) (Or.inl ⟨by rfl, by intro w hSw; go_simp; try rfl⟩) (by assumption) ?_
      try simp only [Act.put, List.setIfInBounds_toArray, List.set_cons_zero, List.set_cons_succ]
      refine wpAnyH_take (i := 6) (oi := ⟨some 13, _, _, _, _, _⟩) (v := ?_) rfl (by kernel_rfl) (by kernel_rfl) (by kernel_rfl) (fun _ _ _ h => h) (Or.inl ⟨by rfl, by intro w hSw; go_simp; try rfl⟩) (by assumption) ?_
      try simp only [Act.put, List.setIfInBounds_toArray, List.set_cons_zero, List.set_cons_succ]
      refine wpAnyH_take (i := 7) (oi := ⟨some 14, _, _, _, _, _⟩) (v := ?_) rfl (by kernel_rfl) (by kernel_rfl) (by kernel_rfl) (fun _ _ _ h => h) (Or.inl ⟨by rfl, by intro w hSw; go_simp; try rfl⟩) (by assumption) ?_
      try simp only [Act.put, List.setIfInBounds_toArray, List.set_cons_zero, List.set_cons_succ]
      refine wpAnyH_ready (rs := [9]) (by kernel_rfl) (by simp) ?_
      refine AllReadyH.cons (o := ⟨none, _, _, _, _, _⟩) rfl (fun K hK => ?_) AllReadyH.nil
      have HL3 : Kp ((numCells (W4 (subN (getN a) (getN b)))).length = 4) := ⟨by rw [numCells_length, W4_length]⟩
      refine step_store rwWords rfl (.tmp 5) (.tmp 13) rfl rfl rfl HW.out HL3.out (fit_all32 (l := zeroW4) rfl) (numCells_one _) ?_
      intro w62 hk ho
      try replace HR : Kp _ := ⟨HR.out.only ho (by omega)⟩
      refine hK.out _ _ (hHeld.only ho m1 m2 m3) (fun hHeld2 => ?_)
      have HV : Kp (Blk w62 g5 41 (numCells (W4 (subN (getN a) (getN b))))) := ⟨by have h := hk; rw [store_all32 (n := 4) rfl] at h; exact h⟩
      clear hk ho HW
      clear hK K hHeld
      have hHeld := hHeld2
      clear hHeld2
      try simp only [Act.put]
      refine wpAnyH_take (i := 10) (oi := ⟨some 6, _, _, _, _, _⟩) (v := ?_) rfl (by kernel_rfl) (by kernel_rfl) (by kernel_rfl) (fun _ _ _ h => h) (Or.inl ⟨by rfl, by intro w hSw; go_simp; try rfl⟩) (by assumption) ?_
      try simp only [Act.put, List.setIfInBounds_toArray, List.set_cons_zero, List.set_cons_succ]
      refine wpAnyH_done (by kernel_rfl) ?_ _
      rw [HBB.out]
      clear HV HBB
      go_wp2
      go_ret
      exact ⟨by rfl, hHeld.below⟩
  · refine step_alloc tyWords rfl rfl ?_
    intro w63 hk5 hb'
    try have m4 := HR.out.lt
    try replace HR : Kp _ := ⟨HR.out.below hb' HR.out.lt⟩
    have HW : Kp _ := ⟨hk5⟩
    have m1 := hHeld.a.lt
    have m2 := hHeld.b.lt
    have m3 : w.heap.size ≤ wS.heap.size := hHeld.below.size
    obtain ⟨g5, hg5⟩ : ∃ g, g = wS.heap.size := ⟨_, rfl⟩
    rw [← hg5] at HW m1 m2 m3 ⊢
    try rw [← hg5] at m4
    refine hK.out _ _ (hHeld.next hb') (fun hHeld2 => ?_)
    clear hk5 hb' hg5
    clear hK K hHeld
    have hHeld := hHeld2
    clear hHeld2
    try simp only [Act.put, List.setIfInBounds_toArray, List.set_cons_zero, List.set_cons_succ]
    refine wpAnyH_ready (rs := [1]) (by kernel_rfl) (by simp) ?_
    refine AllReadyH.cons (o := ⟨some 9, _, _, _, _, _⟩) rfl (fun K hK => ?_) AllReadyH.nil
    go_simp
    refine (split_any a _ HA32.out).mono ?_
    rintro e w64 ⟨rfl, hb'⟩
    try replace HR : Kp _ := ⟨HR.out.below hb' HR.out.lt⟩
    try replace HW : Kp _ := ⟨HW.out.below hb' HW.out.lt⟩
    refine hK.out _ _ (hHeld.next hb') (fun hHeld2 => ?_)
    clear hb'
    clear hK K hHeld
    have hHeld := hHeld2
    clear hHeld2
    try simp only [Act.put, List.setIfInBounds_toArray, List.set_cons_zero, List.set_cons_succ]
    refine wpAnyH_ready (rs := [3]) (by kernel_rfl) (by simp) ?_
    refine AllReadyH.cons (o := ⟨some 11, _, _, _, _, _⟩) rfl (fun K hK => ?_) AllReadyH.nil
    go_simp
    refine (split_any b _ HB32.out).mono ?_
    rintro e w65 ⟨rfl, hb'⟩
    try replace HR : Kp _ := ⟨HR.out.below hb' HR.out.lt⟩
    try replace HW : Kp _ := ⟨HW.out.below hb' HW.out.lt⟩
    refine hK.out _ _ (hHeld.next hb') (fun hHeld2 => ?_)
    clear hb'
    clear hK K hHeld
    have hHeld := hHeld2
    clear hHeld2
    try simp only [Act.put, List.setIfInBounds_toArray, List.set_cons_zero, List.set_cons_succ]
    refine wpAnyH_ready (rs := [4]) (by kernel_rfl) (by simp) ?_
    refine AllReadyH.cons (o := ⟨some 12, _, _, _, _, _⟩) rfl (fun K hK => ?_) AllReadyH.nil
    go_simp
    refine (minus_any (getN a) (getN b) _ HGa.out HGb.out).mono ?_
    rintro e w66 ⟨rfl, hb'⟩
    try replace HR : Kp _ := ⟨HR.out.below hb' HR.out.lt⟩
    try replace HW : Kp _ := ⟨HW.out.below hb' HW.out.lt⟩
    refine hK.out _ _ (hHeld.next hb') (fun hHeld2 => ?_)
    clear hb'
    clear hK K hHeld
    have hHeld := hHeld2
    clear hHeld2
    try simp only [Act.put, List.setIfInBounds_toArray, List.set_cons_zero, List.set_cons_succ]
    refine wpAnyH_take (i := 5) (oi := ⟨some 7, _, _, _, _, _⟩) (v := ?_) rfl (by kernel_rfl) (by kernel_rfl) (by kernel_rfl) (fun _ _ _ h => h) (Or.inl ⟨by rfl, by intro w hSw; go_simp; try rfl⟩) (by assumption) ?_
    try simp only [Act.put, List.setIfInBounds_toArray, List.set_cons_zero, List.set_cons_succ]
    refine wpAnyH_take (i := 6) (oi := ⟨some 13, _, _, _, _, _⟩) (v := ?_) rfl (by kernel_rfl) (by kernel_rfl) (by kernel_rfl) (fun _ _ _ h => h) (Or.inl ⟨by rfl, by intro w hSw; go_simp; try rfl⟩) (by assumption) ?_
    try simp only [Act.put, List.setIfInBounds_toArray, List.set_cons_zero, List.set_cons_succ]
    refine wpAnyH_take (i := 7) (oi := ⟨some 14, _, _, _, _, _⟩) (v := ?_) rfl (by kernel_rfl) (by kernel_rfl) (by kernel_rfl) (fun _ _ _ h => h) (Or.inl ⟨by rfl, by intro w hSw; go_simp; try rfl⟩) (by assumption) ?_
    try simp only [Act.put, List.setIfInBounds_toArray, List.set_cons_zero, List.set_cons_succ]
    refine wpAnyH_ready (rs := [9]) (by kernel_rfl) (by simp) ?_
    refine AllReadyH.cons (o := ⟨none, _, _, _, _, _⟩) rfl (fun K hK => ?_) AllReadyH.nil
    have HL3 : Kp ((numCells (W4 (subN (getN a) (getN b)))).length = 4) := ⟨by rw [numCells_length, W4_length]⟩
    refine step_store rwWords rfl (.tmp 5) (.tmp 13) rfl rfl rfl HW.out HL3.out (fit_all32 (l := zeroW4) rfl) (numCells_one _) ?_
    intro w67 hk ho
    try replace HR : Kp _ := ⟨HR.out.only ho (by omega)⟩
    refine hK.out _ _ (hHeld.only ho m1 m2 m3) (fun hHeld2 => ?_)
    have HV : Kp (Blk w67 g5 41 (numCells (W4 (subN (getN a) (getN b))))) := ⟨by have h := hk; rw [store_all32 (n := 4) rfl] at h; exact h⟩
    clear hk ho HW
    clear hK K hHeld
    have hHeld := hHeld2
    clear hHeld2
    try simp only [Act.put]
    refine wpAnyH_take (i := 10) (oi := ⟨some 6, _, _, _, _, _⟩) (v := ?_) rfl (by kernel_rfl) (by kernel_rfl) (by kernel_rfl) (fun _ _ _ h => h) (Or.inl ⟨by rfl, by intro w hSw; go_simp; try rfl⟩) (by assumption) ?_
    try simp only [Act.put, List.setIfInBounds_toArray, List.set_cons_zero, List.set_cons_succ]
    refine wpAnyH_done (by kernel_rfl) ?_ _
    rw [HBB.out]
    clear HV HBB
    go_wp2
    go_ret
    exact ⟨by rfl, hHeld.below⟩
end Go.Proofs.Ytjllfaeamjadcaa
