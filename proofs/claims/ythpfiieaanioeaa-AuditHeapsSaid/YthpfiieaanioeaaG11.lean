/- The contract of audit's Minus. -/
import Derived.Test.YthpfiieaanioeaaG09
import Derived.Test.YthpfiieaanioeaaG10
namespace Go.Proofs.Ythpfiieaanioeaa
open Go.RowKit Go.Shelf

/-- what lies between two rounds -/
structure MnI (w w3 : World) (S g : Nat) (pre : List (YIt w3 w.heap.size)) (W : World) : Prop where
  size : S ≤ W.heap.size
  below : Below w.heap.size w W
  is : ∃ v L, Blk W g 23 [v] ∧ W.ownsRow S 30 2 v pre.length (hdCells L) ∧ LdO W L (thsL pre)
section
variable {w w3 W W' : World} {S g : Nat} {pre : List (YIt w3 w.heap.size)}
theorem MnI.keep (h : MnI w w3 S g pre W) (hb : Below W.heap.size W W') : MnI w w3 S g pre W' := by
  obtain ⟨v, L, h1, h2, h3⟩ := h.is
  exact ⟨Nat.le_trans h.size hb.size, h.below.trans (hb.mono h.below.size), v, L, h1.below hb h1.lt, own_kept h2 hb, h3.imp fun _ _ _ h => own_kept h hb⟩
theorem MnI.own (B : Nat) (hS : w.heap.size ≤ B) : OwnFrom B (MnI w w3 S g) := fun pre X Y row h hg hrow => by
  have hr : ∀ r, row = some r → ∃ o : Obj, X.heap[r]? = some o ∧ o.isCells = false := fun r e => (hrow r e).2
  obtain ⟨v, L, h1, h2, h3⟩ := h.is
  exact ⟨Nat.le_trans h.size hg.size, below_nc h.below hg (fun r e => (hrow r e).1) hS (Nat.le_refl _), v, L, blk_nc h1 hg hr, own_nc h2 hg hr, h3.imp fun _ _ _ h => own_nc h hg hr⟩
end
set_option maxRecDepth 100000 in
set_option maxHeartbeats 4000000 in
theorem minus_any (A : Option Addr) (m c : Nat) (its : List Th) (K : Option Addr) (kn kc : Nat) (bs : List Th) (w : World) (hI : Its w w.heap.size A m c its) (hK : Its w w.heap.size K kn kc bs)
    (hm : m ≤ 4294967296) (hkn : kn ≤ 4294967296) (hbl : ∀ x ∈ its, x.2.length ≤ 4294967296) :
    Calls Try.prog 10 #[.slice A m c, .slice K kn kc] w fun e w' => ∃ A' c', e = .returned (.slice A' (minusL its bs).length c') ∧ Its w' w'.heap.size A' (minusL its bs).length c' (minusL its bs) ∧ Below w.heap.size w w' := by
  have HI : Kp _ := ⟨hI⟩
  have HK : Kp _ := ⟨hK⟩
  have HB : Kp _ := ⟨hbl⟩
  have HL : Kp (its.length = m) := ⟨hI.len⟩
  clear hI hK hbl
  refine (callsIn_wide (n := 8)).1 (callsIn_of_wp_marks (F := Fence.wide) (n := 8) Try.func10 rfl trivial ?_ rfl)
  simp only [Try.ntmps10, List.size_toArray, List.length_cons, List.length_nil, Nat.reduceAdd, Nat.reduceSub, Array.replicate_succ, Array.replicate_zero, List.push_toArray, List.append_toArray, List.nil_append, List.cons_append]
  refine wpIn_wide.2 ?_
  go_upto_region 2 with fail
  have hk1 : Blk (w.alloc (.cells #[.slice none 0 0] 23)) w.heap.size 23 [.slice none 0 0] := Blk.new _ _ _
  have hb1 : Below w.heap.size w (w.alloc (.cells #[.slice none 0 0] 23)) := (Below.refl _ _).alloc (Nat.le_refl _) _
  have hs1 : (w.alloc (.cells #[.slice none 0 0] 23)).heap.size = w.heap.size + 1 := by simp
  generalize hw1 : w.alloc (.cells #[.slice none 0 0] 23) = w1 at *
  clear hw1
  go_wp2_with fail
  refine (without_any A m c K kn kc w1).mono ?_
  rintro e w3 ⟨rfl, hw3⟩
  have hb3 : Below w1.heap.size w1 w3 := by rw [hw3]; exact ((Below.refl _ w1).alloc (Nat.le_refl _) _).alloc (by simp) _
  have hs3 : w3.heap.size = w1.heap.size + 2 := by rw [hw3]; simp
  have HBl : Kp (w3.cell? ⟨w1.heap.size, 0, none⟩ = some (.slice A m c)) := ⟨by
    rw [hw3]
    refine (Below.cell ((Below.refl (w1.heap.size + 1) (w1.alloc (.cells #[.slice A m c] 23))).alloc (by simp) _) (p := ⟨w1.heap.size, 0, none⟩) (by show w1.heap.size < w1.heap.size + 1; omega)).trans ?_
    rw [World.cell?_alloc_at _ _ _ _ rfl]; rfl⟩
  have HBk : Kp (w3.cell? ⟨w1.heap.size + 1, 0, none⟩ = some (.slice K kn kc)) := ⟨by
    rw [hw3]
    rw [World.cell?_alloc_at _ _ _ _ (by simp)]; rfl⟩
  have hb13 : Below w.heap.size w w3 := hb1.trans (hb3.mono (by omega))
  have HW3 : Kp (MnI w w3 w3.heap.size w.heap.size [] w3) := ⟨Nat.le_refl _, hb13, _, [], hk1.below hb3 hk1.lt, World.ownsRow_nil _ _ _ _, LdO.nil _⟩
  have HK3 : Kp (Its w3 w.heap.size K kn kc bs) := ⟨HK.out.below hb13⟩
  have HI3 : Kp (Its w3 w.heap.size A m c its) := ⟨HI.out.below hb13⟩
  obtain ⟨Bl, hBl⟩ : ∃ g, g = w1.heap.size := ⟨_, rfl⟩
  obtain ⟨g, hg⟩ : ∃ g, g = w.heap.size := ⟨_, rfl⟩
  have HGe : Kp (g = w.heap.size) := ⟨hg⟩
  rw [← hBl] at HBk HBl hs1 hs3 ⊢
  rw [show w.heap.size = g from hg.symm] at ⊢
  have hwb : w.heap.size ≤ w3.heap.size := by omega
  have n1 : w.heap.size < Bl := by omega
  have n2 : Bl + 1 < w3.heap.size := by omega
  have hgs : g < w3.heap.size := by omega
  have HW3' : Kp (MnI w w3 w3.heap.size g [] w3) := ⟨by rw [hg]; exact HW3.out⟩
  have hgl : g < Bl := by omega
  have hgw : w.heap.size ≤ g := by omega
  have HB3o : Kp (Below w.heap.size w w3) := ⟨hb13⟩
  clear hw3 hb3 HW3 HK HI hBl hk1 hb1 hs1 hb13 hg HGe
  go_wp2_with fail
  refine (wpIn_wide (n := 8)).1 ?_
  refine wpIn_rangeFunc_ownH (F := Fence.wide) (n := 8) rfl (by decide) (gf := 30) (lb := #[.pointer (some ⟨Bl + 1, 0, none⟩), .pointer (some ⟨Bl, 0, none⟩)]) rfl trivial (enters_of Try.func30 (by kernel_rfl) rfl)
    (without_stops (8 - 1) Bl (Bl + 1) w.heap.size A m c its K kn kc bs w3 hwb HBl.out HBk.out (by omega) (by omega) HI3.out HK3.out hm hkn HB.out)
    (fun h k => KpW.trans h k) (fun W l o o' hl h hc hw => KpW.put hl h hc hw hwb (by omega) (by omega))
    (Below.refl _ _) (fun _ => rfl) (MnI w w3 w3.heap.size g) (fun _ _ _ => False) (MnI.own _ hwb) (fun _ _ _ _ _ h _ _ => h) HW3'.out
    (fun x a' W => ∃ (Bx : Nat) (t0 t1 t2 t3 t4 t7 t8 t9 t10 t11 t12 t13 t14 t15 t16 t17 t18 t19 t20 : Value), w3.heap.size ≤ Bx ∧ Blk W Bx 30 [.int .i64 x.1.2.1, .slice x.1.1.1 x.1.1.2.1 x.1.1.2.2] ∧ a' = { tmps := #[t0, t1, t2, t3, t4, .pointer (some ⟨g, 0, none⟩), .pointer (some ⟨Bx, 0, none⟩), t7, t8, t9, t10, t11, t12, t13, t14, t15, t16, t17, t18, t19, t20], defers := [] })
    ?hAx ?assign ?body ?done ?stop
  case hAx =>
    rintro x a' _ X Y row ⟨Bx, t0, t1, t2, t3, t4, t7, t8, t9, t10, t11, t12, t13, t14, t15, t16, t17, t18, t19, t20, hBx, hk, rfl⟩ hg hrow
    exact ⟨Bx, t0, t1, t2, t3, t4, t7, t8, t9, t10, t11, t12, t13, t14, t15, t16, t17, t18, t19, t20, hBx, blk_nc hk hg (fun r e => (hrow r e).2), rfl⟩
  case assign =>
    intro l pre x W K hi hKK
    have HLx : Kp (([.int .i64 x.1.2.1, .slice x.1.1.1 x.1.1.2.1 x.1.1.2.2] : List Value).length = 2) := ⟨rfl⟩
    simp only [encI, zip_one, List.setIfInBounds_toArray, List.set_cons_succ, List.set_cons_zero]
    refine wpIn_region_lit ?_
    refine list_inRound l (by intro c h; cases h) rfl fun K1 hK1 => ?_
    refine step_alloc tyIt rfl rfl ?_
    intro x1 hk1 hb1
    refine hK1 _ _ ?_
    clear hK1 K1
    refine list_inRound l (by intro c h; cases h) rfl fun K1 hK1 => ?_
    refine step_store rwIt rfl (.tmp 6) (.tmp 10) rfl rfl rfl hk1 HLx.out (fit_all32 (l := zeroIt) rfl) (by intro u hu; simp at hu; rcases hu with rfl | rfl <;> rfl) ?_
    intro x2 hk2 ho2
    refine hK1 _ _ ?_
    clear hK1 K1
    refine wpListIn_nil ?_
    have hb2 : Below W.heap.size W x2 := hb1.trans (ho2.below (Nat.le_refl _))
    have hsz := hi.size
    rw [store_all32 (n := 2) rfl] at hk2
    exact hKK _ _ (KeepsFrom.of_grownBy (grown_none hb2) (fun j e => by cases e)) (KpW.of_below hb2 (by omega) (by omega) (by omega)) (hi.keep hb2)
      ⟨W.heap.size, _, _, _, _, _, _, _, _, _, _, _, _, _, _, _, _, _, _, _, hsz, hk2, rfl⟩
  case body =>
    rintro l pre x a' W hl ⟨r, hr⟩ hi ⟨Bx, t0, t1, t2, t3, t4, t7, t8, t9, t10, t11, t12, t13, t14, t15, t16, t17, t18, t19, t20, hBx, hx, rfl⟩ hlen
    obtain ⟨⟨⟨A', n', c'⟩, ⟨z, bb⟩⟩, hwz, hgb, hn4⟩ := x
    simp only at hx hwz hgb hn4
    have hsz := hi.size
    obtain ⟨v, L, h1, h2, h3⟩ := hi.is
    have HPl : Kp (pre.length ≤ 4294967296) := ⟨by omega⟩
    have HBlw : Kp (Below w.heap.size w W) := ⟨hi.below⟩
    have HWz : Kp _ := ⟨hwz⟩
    have HN4 : Kp _ := ⟨hn4⟩
    have HBx : Kp (Blk W.drew g 23 [v]) := ⟨h1.drew⟩
    have HIx : Kp (Blk W.drew Bx 30 [.int .i64 z, .slice A' n' c']) := ⟨hx.drew⟩
    have hdr : Below W.heap.size W W.drew := (Below.refl _ _).drew
    have HOw : Kp (W.drew.ownsRow w3.heap.size 30 2 v pre.length (hdCells L)) := ⟨own_kept h2 hdr⟩
    have HLd : Kp (LdO W.drew L (thsL pre)) := ⟨h3.imp fun _ _ _ h => own_kept h hdr⟩
    have HRd : Kp (Rnd w3.heap.size g W W.drew) := ⟨Rnd.of_below hdr hsz⟩
    have HBs : Kp (Bs W.drew W.drew.heap.size A' n' c' bb) := ⟨(hgb.below (show Below w.heap.size w3 W.drew from ⟨HBlw.out.os.trans HB3o.out.os.symm, HBlw.out.tape.trans HB3o.out.tape.symm, HBlw.out.output.trans HB3o.out.output.symm, by have := hsz; exact this, fun k hk => (HBlw.out.block k hk).trans (HB3o.out.block k hk).symm⟩)).more (by show w.heap.size ≤ W.heap.size; omega)⟩
    have hszS : w3.heap.size ≤ W.drew.heap.size := hsz
    have hBS : Below W.drew.heap.size W.drew W.drew := Below.refl _ _
    clear h1 h2 h3 hdr hi hr hl hx hlen
    refine wpIn_block ?_
    refine region_inRound l (by rintro ⟨a, w, h⟩; exact h) (by kernel_rfl) (by kernel_rfl) ?_
    generalize W.drew = wS at *
    refine wpAny_take (i := 1) (oi := ⟨some 12, _, _, _, _, _⟩) (v := ?_) rfl (by kernel_rfl) (by kernel_rfl) (by kernel_rfl) (fun _ _ _ h => h) (Or.inl ⟨by rfl, by intro w; go_simp; try rfl⟩) ?_
    try simp only [Act.put, List.setIfInBounds_toArray, List.set_cons_zero, List.set_cons_succ]
    refine wpAny_take (i := 3) (oi := ⟨some 14, _, _, _, _, _⟩) (v := ?_) rfl (by kernel_rfl) (by kernel_rfl) (by kernel_rfl) (fun _ _ _ h => h) (Or.inl ⟨by rfl, by intro w; go_simp; try rfl⟩) ?_
    try simp only [Act.put, List.setIfInBounds_toArray, List.set_cons_zero, List.set_cons_succ]
    refine wpAny_ready (rs := [0, 2, 4]) (by kernel_rfl) (by simp) ?_
    refine AllReady.cons (o := ⟨some 11, _, _, _, _, _⟩) rfl (fun K hK => ?_) (AllReady.cons (o := ⟨some 13, _, _, _, _, _⟩) rfl (fun K hK => ?_) (AllReady.cons (o := ⟨some 15, _, _, _, _, _⟩) rfl (fun K hK => ?_) AllReady.nil))
    · have c0 := HBx.out.cell? 0
      simp only [List.getElem?_cons_zero] at c0
      go_simp
      refine hK _ _ ?_
      clear hK K c0
      try simp only [Act.put, List.setIfInBounds_toArray, List.set_cons_zero, List.set_cons_succ]
      refine wpAny_ready (rs := [2, 4]) (by kernel_rfl) (by simp) ?_
      refine AllReady.cons (o := ⟨some 13, _, _, _, _, _⟩) rfl (fun K hK => ?_) (AllReady.cons (o := ⟨some 15, _, _, _, _, _⟩) rfl (fun K hK => ?_) AllReady.nil)
      · have c0 := HIx.out.cell? 0
        simp only [List.getElem?_cons_zero] at c0
        go_simp
        refine hK _ _ ?_
        clear hK K c0
        try simp only [Act.put, List.setIfInBounds_toArray, List.set_cons_zero, List.set_cons_succ]
        refine wpAny_ready (rs := [4]) (by kernel_rfl) (by simp) ?_
        refine AllReady.cons (o := ⟨some 15, _, _, _, _, _⟩) rfl (fun K hK => ?_) AllReady.nil
        have c0 := HIx.out.cell? 1
        simp only [List.getElem?_cons_succ, List.getElem?_cons_zero] at c0
        go_simp
        refine hK _ _ ?_
        clear hK K c0
        try simp only [Act.put, List.setIfInBounds_toArray, List.set_cons_zero, List.set_cons_succ]
        refine wpAny_ready (rs := [5]) (by kernel_rfl) (by simp) ?_
        refine AllReady.cons (o := ⟨some 16, _, _, _, _, _⟩) rfl (fun K hK => ?_) AllReady.nil
        go_simp
        refine (clone_any A' n' c' bb wS ((HBs.out.below hBS).more hBS.size) HN4.out).mono ?_
        rintro e w64 ⟨vc, rfl, hown, hb'⟩
        refine hK _ _ ?_
        clear hK K
        try simp only [Act.put, List.setIfInBounds_toArray, List.set_cons_zero, List.set_cons_succ]
        replace HBx : Kp _ := ⟨HBx.out.below hb' HBx.out.lt⟩
        replace HIx : Kp _ := ⟨HIx.out.below hb' HIx.out.lt⟩
        obtain ⟨A9, c9, rfl, hbs9⟩ := Bs.of_own hown
        have HO9 : Kp _ := ⟨own_zero hown⟩
        clear hown hbs9
        replace HRd : Kp _ := ⟨HRd.out.trans (Rnd.of_below hb' (Nat.le_trans hszS hBS.size))⟩
        replace hBS := hBS.trans (hb'.mono hBS.size)
        clear hb'
        refine wpAny_take (i := 6) (oi := ⟨some 17, _, _, _, _, _⟩) (v := ?_) rfl (by kernel_rfl) (by kernel_rfl) (by kernel_rfl) (fun _ _ _ h => h) (Or.inl ⟨by rfl, by intro w; go_simp; try rfl⟩) ?_
        try simp only [Act.put, List.setIfInBounds_toArray, List.set_cons_zero, List.set_cons_succ]
        refine wpAny_ready (rs := [7]) (by kernel_rfl) (by simp) ?_
        refine AllReady.cons (o := ⟨some 18, _, _, _, _, _⟩) rfl (fun K hK => ?_) AllReady.nil
        go_simp
        refine hK _ _ ?_
        clear hK K
        try simp only [Act.put, List.setIfInBounds_toArray, List.set_cons_zero, List.set_cons_succ]
        have hb' : Below w64.heap.size w64 (w64.alloc (.cells #[.int .i64 z, .slice A9 n' c9] 30)) := (Below.refl _ _).alloc (Nat.le_refl _) _
        have HN9 : Kp (Blk (w64.alloc (.cells #[.int .i64 z, .slice A9 n' c9] 30)) w64.heap.size 30 [.int .i64 z, .slice A9 n' c9]) := ⟨Blk.new _ _ _⟩
        replace HBx : Kp _ := ⟨HBx.out.below hb' HBx.out.lt⟩
        replace HIx : Kp _ := ⟨HIx.out.below hb' HIx.out.lt⟩
        replace HO9 : Kp _ := ⟨own_kept HO9.out hb'⟩
        replace HRd : Kp _ := ⟨HRd.out.trans (Rnd.of_below hb' (Nat.le_trans hszS hBS.size))⟩
        replace hBS := hBS.trans (hb'.mono hBS.size)
        clear hb'
        generalize w64.alloc (.cells #[.int .i64 z, .slice A9 n' c9] 30) = w65 at *
        generalize w64.heap.size = g9 at *
        refine wpAny_ready (rs := [8]) (by kernel_rfl) (by simp) ?_
        refine AllReady.cons (o := ⟨some 19, _, _, _, _, _⟩) rfl (fun K hK => ?_) AllReady.nil
        have hOw9 := own_kept HOw.out hBS
        have hLd9 := HLd.out.imp fun _ _ _ h => own_kept h hBS
        have hsz9 := Nat.le_trans hszS hBS.size
        refine step_appI rfl (.tmp 11) (.tmp 18) rfl w3.heap.size v pre.length L rfl hOw9 g9 z A9 n' c9 rfl HN9.out HPl.out hsz9 ?_
        intro v9 w66 hown9 hg9
        refine hK _ _ ?_
        clear hK K
        try simp only [Act.put, List.setIfInBounds_toArray, List.set_cons_zero, List.set_cons_succ]
        replace HBx : Kp _ := ⟨HBx.out.grown' hg9 (own_low hOw9 hgs)⟩
        have HO10 : Kp _ := ⟨own_stay HO9.out hOw9 (by decide) hg9⟩
        have HLd9 : Kp _ := ⟨hLd9.imp fun _ _ _ h => own_stay h hOw9 (by decide) hg9⟩
        replace HRd : Kp _ := ⟨HRd.out.trans (Rnd.of_own hOw9 hg9 hsz9)⟩
        have HOn : Kp _ := ⟨hown9⟩
        obtain ⟨A10, c10, rfl⟩ := own_sl hown9
        clear hOw9 hLd9 hown9 hg9 HO9 HN9 HIx hBS
        refine wpAny_ready (rs := [9]) (by kernel_rfl) (by simp) ?_
        refine AllReady.cons (o := ⟨none, _, _, _, _, _⟩) rfl (fun K hK => ?_) AllReady.nil
        have c0 := HBx.out.cell? 0
        have f0 := HBx.out.frozen 0
        simp only [List.getElem?_cons_zero] at c0
        go_simp
        refine hK _ _ ?_
        clear hK K c0 f0
        try simp only [Act.put]
        refine wpAny_done (by kernel_rfl) ?_ _
        have hk10 := HBx.out.set 0 (.slice A10 (pre.length + 1) c10)
        have ho10 := Only.setCell w66 ⟨g, 0, none⟩ (.slice A10 (pre.length + 1) c10)
        have hR10 := HRd.out.trans (Rnd.of_set (S := w3.heap.size) HBx.out 0 (.slice A10 (pre.length + 1) c10))
        refine ⟨hR10.from _, hR10.kpW (by omega) hwb (by omega) (by omega) (by omega) (by omega), ⟨Nat.le_trans hsz hR10.others.size, HBlw.out.trans (hR10.below (by omega) hwb), _, L ++ [(z, A9, n', c9)], hk10, ?_, ?_⟩⟩
        · rw [List.length_append, List.length_singleton]; exact own_only HOn.out HBx.out (by decide) ho10
        · rw [thsL_snoc]; exact (HLd9.out.snoc HWz.out HO10.out).imp fun _ _ _ h => own_only h HBx.out (by decide) ho10
      · have c0 := HIx.out.cell? 1
        simp only [List.getElem?_cons_succ, List.getElem?_cons_zero] at c0
        go_simp
        refine hK _ _ ?_
        clear hK K c0
        try simp only [Act.put, List.setIfInBounds_toArray, List.set_cons_zero, List.set_cons_succ]
        refine wpAny_ready (rs := [2, 5]) (by kernel_rfl) (by simp) ?_
        refine AllReady.cons (o := ⟨some 13, _, _, _, _, _⟩) rfl (fun K hK => ?_) (AllReady.cons (o := ⟨some 16, _, _, _, _, _⟩) rfl (fun K hK => ?_) AllReady.nil)
        · have c0 := HIx.out.cell? 0
          simp only [List.getElem?_cons_zero] at c0
          go_simp
          refine hK _ _ ?_
          clear hK K c0
          try simp only [Act.put, List.setIfInBounds_toArray, List.set_cons_zero, List.set_cons_succ]
          refine wpAny_ready (rs := [5]) (by kernel_rfl) (by simp) ?_
          refine AllReady.cons (o := ⟨some 16, _, _, _, _, _⟩) rfl (fun K hK => ?_) AllReady.nil
          go_simp
          refine (clone_any A' n' c' bb wS ((HBs.out.below hBS).more hBS.size) HN4.out).mono ?_
          rintro e w70 ⟨vc, rfl, hown, hb'⟩
          refine hK _ _ ?_
          clear hK K
          try simp only [Act.put, List.setIfInBounds_toArray, List.set_cons_zero, List.set_cons_succ]
          replace HBx : Kp _ := ⟨HBx.out.below hb' HBx.out.lt⟩
          replace HIx : Kp _ := ⟨HIx.out.below hb' HIx.out.lt⟩
          obtain ⟨A9, c9, rfl, hbs9⟩ := Bs.of_own hown
          have HO9 : Kp _ := ⟨own_zero hown⟩
          clear hown hbs9
          replace HRd : Kp _ := ⟨HRd.out.trans (Rnd.of_below hb' (Nat.le_trans hszS hBS.size))⟩
          replace hBS := hBS.trans (hb'.mono hBS.size)
          clear hb'
          refine wpAny_take (i := 6) (oi := ⟨some 17, _, _, _, _, _⟩) (v := ?_) rfl (by kernel_rfl) (by kernel_rfl) (by kernel_rfl) (fun _ _ _ h => h) (Or.inl ⟨by rfl, by intro w; go_simp; try rfl⟩) ?_
          try simp only [Act.put, List.setIfInBounds_toArray, List.set_cons_zero, List.set_cons_succ]
          refine wpAny_ready (rs := [7]) (by kernel_rfl) (by simp) ?_
          refine AllReady.cons (o := ⟨some 18, _, _, _, _, _⟩) rfl (fun K hK => ?_) AllReady.nil
          go_simp
          refine hK _ _ ?_
          clear hK K
          try simp only [Act.put, List.setIfInBounds_toArray, List.set_cons_zero, List.set_cons_succ]
          have hb' : Below w70.heap.size w70 (w70.alloc (.cells #[.int .i64 z, .slice A9 n' c9] 30)) := (Below.refl _ _).alloc (Nat.le_refl _) _
          have HN9 : Kp (Blk (w70.alloc (.cells #[.int .i64 z, .slice A9 n' c9] 30)) w70.heap.size 30 [.int .i64 z, .slice A9 n' c9]) := ⟨Blk.new _ _ _⟩
          replace HBx : Kp _ := ⟨HBx.out.below hb' HBx.out.lt⟩
          replace HIx : Kp _ := ⟨HIx.out.below hb' HIx.out.lt⟩
          replace HO9 : Kp _ := ⟨own_kept HO9.out hb'⟩
          replace HRd : Kp _ := ⟨HRd.out.trans (Rnd.of_below hb' (Nat.le_trans hszS hBS.size))⟩
          replace hBS := hBS.trans (hb'.mono hBS.size)
          clear hb'
          generalize w70.alloc (.cells #[.int .i64 z, .slice A9 n' c9] 30) = w71 at *
          generalize w70.heap.size = g9 at *
          refine wpAny_ready (rs := [8]) (by kernel_rfl) (by simp) ?_
          refine AllReady.cons (o := ⟨some 19, _, _, _, _, _⟩) rfl (fun K hK => ?_) AllReady.nil
          have hOw9 := own_kept HOw.out hBS
          have hLd9 := HLd.out.imp fun _ _ _ h => own_kept h hBS
          have hsz9 := Nat.le_trans hszS hBS.size
          refine step_appI rfl (.tmp 11) (.tmp 18) rfl w3.heap.size v pre.length L rfl hOw9 g9 z A9 n' c9 rfl HN9.out HPl.out hsz9 ?_
          intro v9 w72 hown9 hg9
          refine hK _ _ ?_
          clear hK K
          try simp only [Act.put, List.setIfInBounds_toArray, List.set_cons_zero, List.set_cons_succ]
          replace HBx : Kp _ := ⟨HBx.out.grown' hg9 (own_low hOw9 hgs)⟩
          have HO10 : Kp _ := ⟨own_stay HO9.out hOw9 (by decide) hg9⟩
          have HLd9 : Kp _ := ⟨hLd9.imp fun _ _ _ h => own_stay h hOw9 (by decide) hg9⟩
          replace HRd : Kp _ := ⟨HRd.out.trans (Rnd.of_own hOw9 hg9 hsz9)⟩
          have HOn : Kp _ := ⟨hown9⟩
          obtain ⟨A10, c10, rfl⟩ := own_sl hown9
          clear hOw9 hLd9 hown9 hg9 HO9 HN9 HIx hBS
          refine wpAny_ready (rs := [9]) (by kernel_rfl) (by simp) ?_
          refine AllReady.cons (o := ⟨none, _, _, _, _, _⟩) rfl (fun K hK => ?_) AllReady.nil
          have c0 := HBx.out.cell? 0
          have f0 := HBx.out.frozen 0
          simp only [List.getElem?_cons_zero] at c0
          go_simp
          refine hK _ _ ?_
          clear hK K c0 f0
          try simp only [Act.put]
          refine wpAny_done (by kernel_rfl) ?_ _
          have hk10 := HBx.out.set 0 (.slice A10 (pre.length + 1) c10)
          have ho10 := Only.setCell w72 ⟨g, 0, none⟩ (.slice A10 (pre.length + 1) c10)
          have hR10 := HRd.out.trans (Rnd.of_set (S := w3.heap.size) HBx.out 0 (.slice A10 (pre.length + 1) c10))
          refine ⟨hR10.from _, hR10.kpW (by omega) hwb (by omega) (by omega) (by omega) (by omega), ⟨Nat.le_trans hsz hR10.others.size, HBlw.out.trans (hR10.below (by omega) hwb), _, L ++ [(z, A9, n', c9)], hk10, ?_, ?_⟩⟩
          · rw [List.length_append, List.length_singleton]; exact own_only HOn.out HBx.out (by decide) ho10
          · rw [thsL_snoc]; exact (HLd9.out.snoc HWz.out HO10.out).imp fun _ _ _ h => own_only h HBx.out (by decide) ho10
        · go_simp
          refine (clone_any A' n' c' bb wS ((HBs.out.below hBS).more hBS.size) HN4.out).mono ?_
          rintro e w74 ⟨vc, rfl, hown, hb'⟩
          refine hK _ _ ?_
          clear hK K
          try simp only [Act.put, List.setIfInBounds_toArray, List.set_cons_zero, List.set_cons_succ]
          replace HBx : Kp _ := ⟨HBx.out.below hb' HBx.out.lt⟩
          replace HIx : Kp _ := ⟨HIx.out.below hb' HIx.out.lt⟩
          obtain ⟨A9, c9, rfl, hbs9⟩ := Bs.of_own hown
          have HO9 : Kp _ := ⟨own_zero hown⟩
          clear hown hbs9
          replace HRd : Kp _ := ⟨HRd.out.trans (Rnd.of_below hb' (Nat.le_trans hszS hBS.size))⟩
          replace hBS := hBS.trans (hb'.mono hBS.size)
          clear hb'
          refine wpAny_ready (rs := [2]) (by kernel_rfl) (by simp) ?_
          refine AllReady.cons (o := ⟨some 13, _, _, _, _, _⟩) rfl (fun K hK => ?_) AllReady.nil
          have c0 := HIx.out.cell? 0
          simp only [List.getElem?_cons_zero] at c0
          go_simp
          refine hK _ _ ?_
          clear hK K c0
          try simp only [Act.put, List.setIfInBounds_toArray, List.set_cons_zero, List.set_cons_succ]
          refine wpAny_take (i := 6) (oi := ⟨some 17, _, _, _, _, _⟩) (v := ?_) rfl (by kernel_rfl) (by kernel_rfl) (by kernel_rfl) (fun _ _ _ h => h) (Or.inl ⟨by rfl, by intro w; go_simp; try rfl⟩) ?_
          try simp only [Act.put, List.setIfInBounds_toArray, List.set_cons_zero, List.set_cons_succ]
          refine wpAny_ready (rs := [7]) (by kernel_rfl) (by simp) ?_
          refine AllReady.cons (o := ⟨some 18, _, _, _, _, _⟩) rfl (fun K hK => ?_) AllReady.nil
          go_simp
          refine hK _ _ ?_
          clear hK K
          try simp only [Act.put, List.setIfInBounds_toArray, List.set_cons_zero, List.set_cons_succ]
          have hb' : Below w74.heap.size w74 (w74.alloc (.cells #[.int .i64 z, .slice A9 n' c9] 30)) := (Below.refl _ _).alloc (Nat.le_refl _) _
          have HN9 : Kp (Blk (w74.alloc (.cells #[.int .i64 z, .slice A9 n' c9] 30)) w74.heap.size 30 [.int .i64 z, .slice A9 n' c9]) := ⟨Blk.new _ _ _⟩
          replace HBx : Kp _ := ⟨HBx.out.below hb' HBx.out.lt⟩
          replace HIx : Kp _ := ⟨HIx.out.below hb' HIx.out.lt⟩
          replace HO9 : Kp _ := ⟨own_kept HO9.out hb'⟩
          replace HRd : Kp _ := ⟨HRd.out.trans (Rnd.of_below hb' (Nat.le_trans hszS hBS.size))⟩
          replace hBS := hBS.trans (hb'.mono hBS.size)
          clear hb'
          generalize w74.alloc (.cells #[.int .i64 z, .slice A9 n' c9] 30) = w76 at *
          generalize w74.heap.size = g9 at *
          refine wpAny_ready (rs := [8]) (by kernel_rfl) (by simp) ?_
          refine AllReady.cons (o := ⟨some 19, _, _, _, _, _⟩) rfl (fun K hK => ?_) AllReady.nil
          have hOw9 := own_kept HOw.out hBS
          have hLd9 := HLd.out.imp fun _ _ _ h => own_kept h hBS
          have hsz9 := Nat.le_trans hszS hBS.size
          refine step_appI rfl (.tmp 11) (.tmp 18) rfl w3.heap.size v pre.length L rfl hOw9 g9 z A9 n' c9 rfl HN9.out HPl.out hsz9 ?_
          intro v9 w77 hown9 hg9
          refine hK _ _ ?_
          clear hK K
          try simp only [Act.put, List.setIfInBounds_toArray, List.set_cons_zero, List.set_cons_succ]
          replace HBx : Kp _ := ⟨HBx.out.grown' hg9 (own_low hOw9 hgs)⟩
          have HO10 : Kp _ := ⟨own_stay HO9.out hOw9 (by decide) hg9⟩
          have HLd9 : Kp _ := ⟨hLd9.imp fun _ _ _ h => own_stay h hOw9 (by decide) hg9⟩
          replace HRd : Kp _ := ⟨HRd.out.trans (Rnd.of_own hOw9 hg9 hsz9)⟩
          have HOn : Kp _ := ⟨hown9⟩
          obtain ⟨A10, c10, rfl⟩ := own_sl hown9
          clear hOw9 hLd9 hown9 hg9 HO9 HN9 HIx hBS
          refine wpAny_ready (rs := [9]) (by kernel_rfl) (by simp) ?_
          refine AllReady.cons (o := ⟨none, _, _, _, _, _⟩) rfl (fun K hK => ?_) AllReady.nil
          have c0 := HBx.out.cell? 0
          have f0 := HBx.out.frozen 0
          simp only [List.getElem?_cons_zero] at c0
          go_simp
          refine hK _ _ ?_
          clear hK K c0 f0
          try simp only [Act.put]
          refine wpAny_done (by kernel_rfl) ?_ _
          have hk10 := HBx.out.set 0 (.slice A10 (pre.length + 1) c10)
          have ho10 := Only.setCell w77 ⟨g, 0, none⟩ (.slice A10 (pre.length + 1) c10)
          have hR10 := HRd.out.trans (Rnd.of_set (S := w3.heap.size) HBx.out 0 (.slice A10 (pre.length + 1) c10))
          refine ⟨hR10.from _, hR10.kpW (by omega) hwb (by omega) (by omega) (by omega) (by omega), ⟨Nat.le_trans hsz hR10.others.size, HBlw.out.trans (hR10.below (by omega) hwb), _, L ++ [(z, A9, n', c9)], hk10, ?_, ?_⟩⟩
          · rw [List.length_append, List.length_singleton]; exact own_only HOn.out HBx.out (by decide) ho10
          · rw [thsL_snoc]; exact (HLd9.out.snoc HWz.out HO10.out).imp fun _ _ _ h => own_only h HBx.out (by decide) ho10
    · have c0 := HIx.out.cell? 0
      simp only [List.getElem?_cons_zero] at c0
      go_simp
      refine hK _ _ ?_
      clear hK K c0
      try simp only [Act.put, List.setIfInBounds_toArray, List.set_cons_zero, List.set_cons_succ]
      refine wpAny_ready (rs := [0, 4]) (by kernel_rfl) (by simp) ?_
      refine AllReady.cons (o := ⟨some 11, _, _, _, _, _⟩) rfl (fun K hK => ?_) (AllReady.cons (o := ⟨some 15, _, _, _, _, _⟩) rfl (fun K hK => ?_) AllReady.nil)
      · have c0 := HBx.out.cell? 0
        simp only [List.getElem?_cons_zero] at c0
        go_simp
        refine hK _ _ ?_
        clear hK K c0
        try simp only [Act.put, List.setIfInBounds_toArray, List.set_cons_zero, List.set_cons_succ]
        refine wpAny_ready (rs := [4]) (by kernel_rfl) (by simp) ?_
        refine AllReady.cons (o := ⟨some 15, _, _, _, _, _⟩) rfl (fun K hK => ?_) AllReady.nil
        have c0 := HIx.out.cell? 1
        simp only [List.getElem?_cons_succ, List.getElem?_cons_zero] at c0
        go_simp
        refine hK _ _ ?_
        clear hK K c0
        try simp only [Act.put, List.setIfInBounds_toArray, List.set_cons_zero, List.set_cons_succ]
        refine wpAny_ready (rs := [5]) (by kernel_rfl) (by simp) ?_
        refine AllReady.cons (o := ⟨some 16, _, _, _, _, _⟩) rfl (fun K hK => ?_) AllReady.nil
        go_simp
        refine (clone_any A' n' c' bb wS ((HBs.out.below hBS).more hBS.size) HN4.out).mono ?_
        rintro e w82 ⟨vc, rfl, hown, hb'⟩
        refine hK _ _ ?_
        clear hK K
        try simp only [Act.put, List.setIfInBounds_toArray, List.set_cons_zero, List.set_cons_succ]
        replace HBx : Kp _ := ⟨HBx.out.below hb' HBx.out.lt⟩
        replace HIx : Kp _ := ⟨HIx.out.below hb' HIx.out.lt⟩
        obtain ⟨A9, c9, rfl, hbs9⟩ := Bs.of_own hown
        have HO9 : Kp _ := ⟨own_zero hown⟩
        clear hown hbs9
        replace HRd : Kp _ := ⟨HRd.out.trans (Rnd.of_below hb' (Nat.le_trans hszS hBS.size))⟩
        replace hBS := hBS.trans (hb'.mono hBS.size)
        clear hb'
        refine wpAny_take (i := 6) (oi := ⟨some 17, _, _, _, _, _⟩) (v := ?_) rfl (by kernel_rfl) (by kernel_rfl) (by kernel_rfl) (fun _ _ _ h => h) (Or.inl ⟨by rfl, by intro w; go_simp; try rfl⟩) ?_
        try simp only [Act.put, List.setIfInBounds_toArray, List.set_cons_zero, List.set_cons_succ]
        refine wpAny_ready (rs := [7]) (by kernel_rfl) (by simp) ?_
        refine AllReady.cons (o := ⟨some 18, _, _, _, _, _⟩) rfl (fun K hK => ?_) AllReady.nil
        go_simp
        refine hK _ _ ?_
        clear hK K
        try simp only [Act.put, List.setIfInBounds_toArray, List.set_cons_zero, List.set_cons_succ]
        have hb' : Below w82.heap.size w82 (w82.alloc (.cells #[.int .i64 z, .slice A9 n' c9] 30)) := (Below.refl _ _).alloc (Nat.le_refl _) _
        have HN9 : Kp (Blk (w82.alloc (.cells #[.int .i64 z, .slice A9 n' c9] 30)) w82.heap.size 30 [.int .i64 z, .slice A9 n' c9]) := ⟨Blk.new _ _ _⟩
        replace HBx : Kp _ := ⟨HBx.out.below hb' HBx.out.lt⟩
        replace HIx : Kp _ := ⟨HIx.out.below hb' HIx.out.lt⟩
        replace HO9 : Kp _ := ⟨own_kept HO9.out hb'⟩
        replace HRd : Kp _ := ⟨HRd.out.trans (Rnd.of_below hb' (Nat.le_trans hszS hBS.size))⟩
        replace hBS := hBS.trans (hb'.mono hBS.size)
        clear hb'
        generalize w82.alloc (.cells #[.int .i64 z, .slice A9 n' c9] 30) = w83 at *
        generalize w82.heap.size = g9 at *
        refine wpAny_ready (rs := [8]) (by kernel_rfl) (by simp) ?_
        refine AllReady.cons (o := ⟨some 19, _, _, _, _, _⟩) rfl (fun K hK => ?_) AllReady.nil
        have hOw9 := own_kept HOw.out hBS
        have hLd9 := HLd.out.imp fun _ _ _ h => own_kept h hBS
        have hsz9 := Nat.le_trans hszS hBS.size
        refine step_appI rfl (.tmp 11) (.tmp 18) rfl w3.heap.size v pre.length L rfl hOw9 g9 z A9 n' c9 rfl HN9.out HPl.out hsz9 ?_
        intro v9 w84 hown9 hg9
        refine hK _ _ ?_
        clear hK K
        try simp only [Act.put, List.setIfInBounds_toArray, List.set_cons_zero, List.set_cons_succ]
        replace HBx : Kp _ := ⟨HBx.out.grown' hg9 (own_low hOw9 hgs)⟩
        have HO10 : Kp _ := ⟨own_stay HO9.out hOw9 (by decide) hg9⟩
        have HLd9 : Kp _ := ⟨hLd9.imp fun _ _ _ h => own_stay h hOw9 (by decide) hg9⟩
        replace HRd : Kp _ := ⟨HRd.out.trans (Rnd.of_own hOw9 hg9 hsz9)⟩
        have HOn : Kp _ := ⟨hown9⟩
        obtain ⟨A10, c10, rfl⟩ := own_sl hown9
        clear hOw9 hLd9 hown9 hg9 HO9 HN9 HIx hBS
        refine wpAny_ready (rs := [9]) (by kernel_rfl) (by simp) ?_
        refine AllReady.cons (o := ⟨none, _, _, _, _, _⟩) rfl (fun K hK => ?_) AllReady.nil
        have c0 := HBx.out.cell? 0
        have f0 := HBx.out.frozen 0
        simp only [List.getElem?_cons_zero] at c0
        go_simp
        refine hK _ _ ?_
        clear hK K c0 f0
        try simp only [Act.put]
        refine wpAny_done (by kernel_rfl) ?_ _
        have hk10 := HBx.out.set 0 (.slice A10 (pre.length + 1) c10)
        have ho10 := Only.setCell w84 ⟨g, 0, none⟩ (.slice A10 (pre.length + 1) c10)
        have hR10 := HRd.out.trans (Rnd.of_set (S := w3.heap.size) HBx.out 0 (.slice A10 (pre.length + 1) c10))
        refine ⟨hR10.from _, hR10.kpW (by omega) hwb (by omega) (by omega) (by omega) (by omega), ⟨Nat.le_trans hsz hR10.others.size, HBlw.out.trans (hR10.below (by omega) hwb), _, L ++ [(z, A9, n', c9)], hk10, ?_, ?_⟩⟩
        · rw [List.length_append, List.length_singleton]; exact own_only HOn.out HBx.out (by decide) ho10
        · rw [thsL_snoc]; exact (HLd9.out.snoc HWz.out HO10.out).imp fun _ _ _ h => own_only h HBx.out (by decide) ho10
      · have c0 := HIx.out.cell? 1
        simp only [List.getElem?_cons_succ, List.getElem?_cons_zero] at c0
        go_simp
        refine hK _ _ ?_
        clear hK K c0
        try simp only [Act.put, List.setIfInBounds_toArray, List.set_cons_zero, List.set_cons_succ]
        refine wpAny_ready (rs := [0, 5]) (by kernel_rfl) (by simp) ?_
        refine AllReady.cons (o := ⟨some 11, _, _, _, _, _⟩) rfl (fun K hK => ?_) (AllReady.cons (o := ⟨some 16, _, _, _, _, _⟩) rfl (fun K hK => ?_) AllReady.nil)
        · have c0 := HBx.out.cell? 0
          simp only [List.getElem?_cons_zero] at c0
          go_simp
          refine hK _ _ ?_
          clear hK K c0
          try simp only [Act.put, List.setIfInBounds_toArray, List.set_cons_zero, List.set_cons_succ]
          refine wpAny_ready (rs := [5]) (by kernel_rfl) (by simp) ?_
          refine AllReady.cons (o := ⟨some 16, _, _, _, _, _⟩) rfl (fun K hK => ?_) AllReady.nil
          go_simp
          refine (clone_any A' n' c' bb wS ((HBs.out.below hBS).more hBS.size) HN4.out).mono ?_
          rintro e w88 ⟨vc, rfl, hown, hb'⟩
          refine hK _ _ ?_
          clear hK K
          try simp only [Act.put, List.setIfInBounds_toArray, List.set_cons_zero, List.set_cons_succ]
          replace HBx : Kp _ := ⟨HBx.out.below hb' HBx.out.lt⟩
          replace HIx : Kp _ := ⟨HIx.out.below hb' HIx.out.lt⟩
          obtain ⟨A9, c9, rfl, hbs9⟩ := Bs.of_own hown
          have HO9 : Kp _ := ⟨own_zero hown⟩
          clear hown hbs9
          replace HRd : Kp _ := ⟨HRd.out.trans (Rnd.of_below hb' (Nat.le_trans hszS hBS.size))⟩
          replace hBS := hBS.trans (hb'.mono hBS.size)
          clear hb'
          refine wpAny_take (i := 6) (oi := ⟨some 17, _, _, _, _, _⟩) (v := ?_) rfl (by kernel_rfl) (by kernel_rfl) (by kernel_rfl) (fun _ _ _ h => h) (Or.inl ⟨by rfl, by intro w; go_simp; try rfl⟩) ?_
          try simp only [Act.put, List.setIfInBounds_toArray, List.set_cons_zero, List.set_cons_succ]
          refine wpAny_ready (rs := [7]) (by kernel_rfl) (by simp) ?_
          refine AllReady.cons (o := ⟨some 18, _, _, _, _, _⟩) rfl (fun K hK => ?_) AllReady.nil
          go_simp
          refine hK _ _ ?_
          clear hK K
          try simp only [Act.put, List.setIfInBounds_toArray, List.set_cons_zero, List.set_cons_succ]
          have hb' : Below w88.heap.size w88 (w88.alloc (.cells #[.int .i64 z, .slice A9 n' c9] 30)) := (Below.refl _ _).alloc (Nat.le_refl _) _
          have HN9 : Kp (Blk (w88.alloc (.cells #[.int .i64 z, .slice A9 n' c9] 30)) w88.heap.size 30 [.int .i64 z, .slice A9 n' c9]) := ⟨Blk.new _ _ _⟩
          replace HBx : Kp _ := ⟨HBx.out.below hb' HBx.out.lt⟩
          replace HIx : Kp _ := ⟨HIx.out.below hb' HIx.out.lt⟩
          replace HO9 : Kp _ := ⟨own_kept HO9.out hb'⟩
          replace HRd : Kp _ := ⟨HRd.out.trans (Rnd.of_below hb' (Nat.le_trans hszS hBS.size))⟩
          replace hBS := hBS.trans (hb'.mono hBS.size)
          clear hb'
          generalize w88.alloc (.cells #[.int .i64 z, .slice A9 n' c9] 30) = w89 at *
          generalize w88.heap.size = g9 at *
          refine wpAny_ready (rs := [8]) (by kernel_rfl) (by simp) ?_
          refine AllReady.cons (o := ⟨some 19, _, _, _, _, _⟩) rfl (fun K hK => ?_) AllReady.nil
          have hOw9 := own_kept HOw.out hBS
          have hLd9 := HLd.out.imp fun _ _ _ h => own_kept h hBS
          have hsz9 := Nat.le_trans hszS hBS.size
          refine step_appI rfl (.tmp 11) (.tmp 18) rfl w3.heap.size v pre.length L rfl hOw9 g9 z A9 n' c9 rfl HN9.out HPl.out hsz9 ?_
          intro v9 w90 hown9 hg9
          refine hK _ _ ?_
          clear hK K
          try simp only [Act.put, List.setIfInBounds_toArray, List.set_cons_zero, List.set_cons_succ]
          replace HBx : Kp _ := ⟨HBx.out.grown' hg9 (own_low hOw9 hgs)⟩
          have HO10 : Kp _ := ⟨own_stay HO9.out hOw9 (by decide) hg9⟩
          have HLd9 : Kp _ := ⟨hLd9.imp fun _ _ _ h => own_stay h hOw9 (by decide) hg9⟩
          replace HRd : Kp _ := ⟨HRd.out.trans (Rnd.of_own hOw9 hg9 hsz9)⟩
          have HOn : Kp _ := ⟨hown9⟩
          obtain ⟨A10, c10, rfl⟩ := own_sl hown9
          clear hOw9 hLd9 hown9 hg9 HO9 HN9 HIx hBS
          refine wpAny_ready (rs := [9]) (by kernel_rfl) (by simp) ?_
          refine AllReady.cons (o := ⟨none, _, _, _, _, _⟩) rfl (fun K hK => ?_) AllReady.nil
          have c0 := HBx.out.cell? 0
          have f0 := HBx.out.frozen 0
          simp only [List.getElem?_cons_zero] at c0
          go_simp
          refine hK _ _ ?_
          clear hK K c0 f0
          try simp only [Act.put]
          refine wpAny_done (by kernel_rfl) ?_ _
          have hk10 := HBx.out.set 0 (.slice A10 (pre.length + 1) c10)
          have ho10 := Only.setCell w90 ⟨g, 0, none⟩ (.slice A10 (pre.length + 1) c10)
          have hR10 := HRd.out.trans (Rnd.of_set (S := w3.heap.size) HBx.out 0 (.slice A10 (pre.length + 1) c10))
          refine ⟨hR10.from _, hR10.kpW (by omega) hwb (by omega) (by omega) (by omega) (by omega), ⟨Nat.le_trans hsz hR10.others.size, HBlw.out.trans (hR10.below (by omega) hwb), _, L ++ [(z, A9, n', c9)], hk10, ?_, ?_⟩⟩
          · rw [List.length_append, List.length_singleton]; exact own_only HOn.out HBx.out (by decide) ho10
          · rw [thsL_snoc]; exact (HLd9.out.snoc HWz.out HO10.out).imp fun _ _ _ h => own_only h HBx.out (by decide) ho10
        · go_simp
          refine (clone_any A' n' c' bb wS ((HBs.out.below hBS).more hBS.size) HN4.out).mono ?_
          rintro e w92 ⟨vc, rfl, hown, hb'⟩
          refine hK _ _ ?_
          clear hK K
          try simp only [Act.put, List.setIfInBounds_toArray, List.set_cons_zero, List.set_cons_succ]
          replace HBx : Kp _ := ⟨HBx.out.below hb' HBx.out.lt⟩
          replace HIx : Kp _ := ⟨HIx.out.below hb' HIx.out.lt⟩
          obtain ⟨A9, c9, rfl, hbs9⟩ := Bs.of_own hown
          have HO9 : Kp _ := ⟨own_zero hown⟩
          clear hown hbs9
          replace HRd : Kp _ := ⟨HRd.out.trans (Rnd.of_below hb' (Nat.le_trans hszS hBS.size))⟩
          replace hBS := hBS.trans (hb'.mono hBS.size)
          clear hb'
          refine wpAny_take (i := 6) (oi := ⟨some 17, _, _, _, _, _⟩) (v := ?_) rfl (by kernel_rfl) (by kernel_rfl) (by kernel_rfl) (fun _ _ _ h => h) (Or.inl ⟨by rfl, by intro w; go_simp; try rfl⟩) ?_
          try simp only [Act.put, List.setIfInBounds_toArray, List.set_cons_zero, List.set_cons_succ]
          refine wpAny_ready (rs := [0, 7]) (by kernel_rfl) (by simp) ?_
          refine AllReady.cons (o := ⟨some 11, _, _, _, _, _⟩) rfl (fun K hK => ?_) (AllReady.cons (o := ⟨some 18, _, _, _, _, _⟩) rfl (fun K hK => ?_) AllReady.nil)
          · have c0 := HBx.out.cell? 0
            simp only [List.getElem?_cons_zero] at c0
            go_simp
            refine hK _ _ ?_
            clear hK K c0
            try simp only [Act.put, List.setIfInBounds_toArray, List.set_cons_zero, List.set_cons_succ]
            refine wpAny_ready (rs := [7]) (by kernel_rfl) (by simp) ?_
            refine AllReady.cons (o := ⟨some 18, _, _, _, _, _⟩) rfl (fun K hK => ?_) AllReady.nil
            go_simp
            refine hK _ _ ?_
            clear hK K
            try simp only [Act.put, List.setIfInBounds_toArray, List.set_cons_zero, List.set_cons_succ]
            have hb' : Below w92.heap.size w92 (w92.alloc (.cells #[.int .i64 z, .slice A9 n' c9] 30)) := (Below.refl _ _).alloc (Nat.le_refl _) _
            have HN9 : Kp (Blk (w92.alloc (.cells #[.int .i64 z, .slice A9 n' c9] 30)) w92.heap.size 30 [.int .i64 z, .slice A9 n' c9]) := ⟨Blk.new _ _ _⟩
            replace HBx : Kp _ := ⟨HBx.out.below hb' HBx.out.lt⟩
            replace HIx : Kp _ := ⟨HIx.out.below hb' HIx.out.lt⟩
            replace HO9 : Kp _ := ⟨own_kept HO9.out hb'⟩
            replace HRd : Kp _ := ⟨HRd.out.trans (Rnd.of_below hb' (Nat.le_trans hszS hBS.size))⟩
            replace hBS := hBS.trans (hb'.mono hBS.size)
            clear hb'
            generalize w92.alloc (.cells #[.int .i64 z, .slice A9 n' c9] 30) = w94 at *
            generalize w92.heap.size = g9 at *
            refine wpAny_ready (rs := [8]) (by kernel_rfl) (by simp) ?_
            refine AllReady.cons (o := ⟨some 19, _, _, _, _, _⟩) rfl (fun K hK => ?_) AllReady.nil
            have hOw9 := own_kept HOw.out hBS
            have hLd9 := HLd.out.imp fun _ _ _ h => own_kept h hBS
            have hsz9 := Nat.le_trans hszS hBS.size
            refine step_appI rfl (.tmp 11) (.tmp 18) rfl w3.heap.size v pre.length L rfl hOw9 g9 z A9 n' c9 rfl HN9.out HPl.out hsz9 ?_
            intro v9 w95 hown9 hg9
            refine hK _ _ ?_
            clear hK K
            try simp only [Act.put, List.setIfInBounds_toArray, List.set_cons_zero, List.set_cons_succ]
            replace HBx : Kp _ := ⟨HBx.out.grown' hg9 (own_low hOw9 hgs)⟩
            have HO10 : Kp _ := ⟨own_stay HO9.out hOw9 (by decide) hg9⟩
            have HLd9 : Kp _ := ⟨hLd9.imp fun _ _ _ h => own_stay h hOw9 (by decide) hg9⟩
            replace HRd : Kp _ := ⟨HRd.out.trans (Rnd.of_own hOw9 hg9 hsz9)⟩
            have HOn : Kp _ := ⟨hown9⟩
            obtain ⟨A10, c10, rfl⟩ := own_sl hown9
            clear hOw9 hLd9 hown9 hg9 HO9 HN9 HIx hBS
            refine wpAny_ready (rs := [9]) (by kernel_rfl) (by simp) ?_
            refine AllReady.cons (o := ⟨none, _, _, _, _, _⟩) rfl (fun K hK => ?_) AllReady.nil
            have c0 := HBx.out.cell? 0
            have f0 := HBx.out.frozen 0
            simp only [List.getElem?_cons_zero] at c0
            go_simp
            refine hK _ _ ?_
            clear hK K c0 f0
            try simp only [Act.put]
            refine wpAny_done (by kernel_rfl) ?_ _
            have hk10 := HBx.out.set 0 (.slice A10 (pre.length + 1) c10)
            have ho10 := Only.setCell w95 ⟨g, 0, none⟩ (.slice A10 (pre.length + 1) c10)
            have hR10 := HRd.out.trans (Rnd.of_set (S := w3.heap.size) HBx.out 0 (.slice A10 (pre.length + 1) c10))
            refine ⟨hR10.from _, hR10.kpW (by omega) hwb (by omega) (by omega) (by omega) (by omega), ⟨Nat.le_trans hsz hR10.others.size, HBlw.out.trans (hR10.below (by omega) hwb), _, L ++ [(z, A9, n', c9)], hk10, ?_, ?_⟩⟩
            · rw [List.length_append, List.length_singleton]; exact own_only HOn.out HBx.out (by decide) ho10
            · rw [thsL_snoc]; exact (HLd9.out.snoc HWz.out HO10.out).imp fun _ _ _ h => own_only h HBx.out (by decide) ho10
          · go_simp
            refine hK _ _ ?_
            clear hK K
            try simp only [Act.put, List.setIfInBounds_toArray, List.set_cons_zero, List.set_cons_succ]
            have hb' : Below w92.heap.size w92 (w92.alloc (.cells #[.int .i64 z, .slice A9 n' c9] 30)) := (Below.refl _ _).alloc (Nat.le_refl _) _
            have HN9 : Kp (Blk (w92.alloc (.cells #[.int .i64 z, .slice A9 n' c9] 30)) w92.heap.size 30 [.int .i64 z, .slice A9 n' c9]) := ⟨Blk.new _ _ _⟩
            replace HBx : Kp _ := ⟨HBx.out.below hb' HBx.out.lt⟩
            replace HIx : Kp _ := ⟨HIx.out.below hb' HIx.out.lt⟩
            replace HO9 : Kp _ := ⟨own_kept HO9.out hb'⟩
            replace HRd : Kp _ := ⟨HRd.out.trans (Rnd.of_below hb' (Nat.le_trans hszS hBS.size))⟩
            replace hBS := hBS.trans (hb'.mono hBS.size)
            clear hb'
            generalize w92.alloc (.cells #[.int .i64 z, .slice A9 n' c9] 30) = w97 at *
            generalize w92.heap.size = g9 at *
            refine wpAny_ready (rs := [0]) (by kernel_rfl) (by simp) ?_
            refine AllReady.cons (o := ⟨some 11, _, _, _, _, _⟩) rfl (fun K hK => ?_) AllReady.nil
            have c0 := HBx.out.cell? 0
            simp only [List.getElem?_cons_zero] at c0
            go_simp
            refine hK _ _ ?_
            clear hK K c0
            try simp only [Act.put, List.setIfInBounds_toArray, List.set_cons_zero, List.set_cons_succ]
            refine wpAny_ready (rs := [8]) (by kernel_rfl) (by simp) ?_
            refine AllReady.cons (o := ⟨some 19, _, _, _, _, _⟩) rfl (fun K hK => ?_) AllReady.nil
            have hOw9 := own_kept HOw.out hBS
            have hLd9 := HLd.out.imp fun _ _ _ h => own_kept h hBS
            have hsz9 := Nat.le_trans hszS hBS.size
            refine step_appI rfl (.tmp 11) (.tmp 18) rfl w3.heap.size v pre.length L rfl hOw9 g9 z A9 n' c9 rfl HN9.out HPl.out hsz9 ?_
            intro v9 w99 hown9 hg9
            refine hK _ _ ?_
            clear hK K
            try simp only [Act.put, List.setIfInBounds_toArray, List.set_cons_zero, List.set_cons_succ]
            replace HBx : Kp _ := ⟨HBx.out.grown' hg9 (own_low hOw9 hgs)⟩
            have HO10 : Kp _ := ⟨own_stay HO9.out hOw9 (by decide) hg9⟩
            have HLd9 : Kp _ := ⟨hLd9.imp fun _ _ _ h => own_stay h hOw9 (by decide) hg9⟩
            replace HRd : Kp _ := ⟨HRd.out.trans (Rnd.of_own hOw9 hg9 hsz9)⟩
            have HOn : Kp _ := ⟨hown9⟩
            obtain ⟨A10, c10, rfl⟩ := own_sl hown9
            clear hOw9 hLd9 hown9 hg9 HO9 HN9 HIx hBS
            refine wpAny_ready (rs := [9]) (by kernel_rfl) (by simp) ?_
            refine AllReady.cons (o := ⟨none, _, _, _, _, _⟩) rfl (fun K hK => ?_) AllReady.nil
            have c0 := HBx.out.cell? 0
            have f0 := HBx.out.frozen 0
            simp only [List.getElem?_cons_zero] at c0
            go_simp
            refine hK _ _ ?_
            clear hK K c0 f0
            try simp only [Act.put]
            refine wpAny_done (by kernel_rfl) ?_ _
            have hk10 := HBx.out.set 0 (.slice A10 (pre.length + 1) c10)
            have ho10 := Only.setCell w99 ⟨g, 0, none⟩ (.slice A10 (pre.length + 1) c10)
            have hR10 := HRd.out.trans (Rnd.of_set (S := w3.heap.size) HBx.out 0 (.slice A10 (pre.length + 1) c10))
            refine ⟨hR10.from _, hR10.kpW (by omega) hwb (by omega) (by omega) (by omega) (by omega), ⟨Nat.le_trans hsz hR10.others.size, HBlw.out.trans (hR10.below (by omega) hwb), _, L ++ [(z, A9, n', c9)], hk10, ?_, ?_⟩⟩
            · rw [List.length_append, List.length_singleton]; exact own_only HOn.out HBx.out (by decide) ho10
            · rw [thsL_snoc]; exact (HLd9.out.snoc HWz.out HO10.out).imp fun _ _ _ h => own_only h HBx.out (by decide) ho10
    · have c0 := HIx.out.cell? 1
      simp only [List.getElem?_cons_succ, List.getElem?_cons_zero] at c0
      go_simp
      refine hK _ _ ?_
      clear hK K c0
      try simp only [Act.put, List.setIfInBounds_toArray, List.set_cons_zero, List.set_cons_succ]
      refine wpAny_ready (rs := [0, 2, 5]) (by kernel_rfl) (by simp) ?_
      refine AllReady.cons (o := ⟨some 11, _, _, _, _, _⟩) rfl (fun K hK => ?_) (AllReady.cons (o := ⟨some 13, _, _, _, _, _⟩) rfl (fun K hK => ?_) (AllReady.cons (o := ⟨some 16, _, _, _, _, _⟩) rfl (fun K hK => ?_) AllReady.nil))
      · have c0 := HBx.out.cell? 0
        simp only [List.getElem?_cons_zero] at c0
        go_simp
        refine hK _ _ ?_
        clear hK K c0
        try simp only [Act.put, List.setIfInBounds_toArray, List.set_cons_zero, List.set_cons_succ]
        refine wpAny_ready (rs := [2, 5]) (by kernel_rfl) (by simp) ?_
        refine AllReady.cons (o := ⟨some 13, _, _, _, _, _⟩) rfl (fun K hK => ?_) (AllReady.cons (o := ⟨some 16, _, _, _, _, _⟩) rfl (fun K hK => ?_) AllReady.nil)
        · have c0 := HIx.out.cell? 0
          simp only [List.getElem?_cons_zero] at c0
          go_simp
          refine hK _ _ ?_
          clear hK K c0
          try simp only [Act.put, List.setIfInBounds_toArray, List.set_cons_zero, List.set_cons_succ]
          refine wpAny_ready (rs := [5]) (by kernel_rfl) (by simp) ?_
          refine AllReady.cons (o := ⟨some 16, _, _, _, _, _⟩) rfl (fun K hK => ?_) AllReady.nil
          go_simp
          refine (clone_any A' n' c' bb wS ((HBs.out.below hBS).more hBS.size) HN4.out).mono ?_
          rintro e w104 ⟨vc, rfl, hown, hb'⟩
          refine hK _ _ ?_
          clear hK K
          try simp only [Act.put, List.setIfInBounds_toArray, List.set_cons_zero, List.set_cons_succ]
          replace HBx : Kp _ := ⟨HBx.out.below hb' HBx.out.lt⟩
          replace HIx : Kp _ := ⟨HIx.out.below hb' HIx.out.lt⟩
          obtain ⟨A9, c9, rfl, hbs9⟩ := Bs.of_own hown
          have HO9 : Kp _ := ⟨own_zero hown⟩
          clear hown hbs9
          replace HRd : Kp _ := ⟨HRd.out.trans (Rnd.of_below hb' (Nat.le_trans hszS hBS.size))⟩
          replace hBS := hBS.trans (hb'.mono hBS.size)
          clear hb'
          refine wpAny_take (i := 6) (oi := ⟨some 17, _, _, _, _, _⟩) (v := ?_) rfl (by kernel_rfl) (by kernel_rfl) (by kernel_rfl) (fun _ _ _ h => h) (Or.inl ⟨by rfl, by intro w; go_simp; try rfl⟩) ?_
          try simp only [Act.put, List.setIfInBounds_toArray, List.set_cons_zero, List.set_cons_succ]
          refine wpAny_ready (rs := [7]) (by kernel_rfl) (by simp) ?_
          refine AllReady.cons (o := ⟨some 18, _, _, _, _, _⟩) rfl (fun K hK => ?_) AllReady.nil
          go_simp
          refine hK _ _ ?_
          clear hK K
          try simp only [Act.put, List.setIfInBounds_toArray, List.set_cons_zero, List.set_cons_succ]
          have hb' : Below w104.heap.size w104 (w104.alloc (.cells #[.int .i64 z, .slice A9 n' c9] 30)) := (Below.refl _ _).alloc (Nat.le_refl _) _
          have HN9 : Kp (Blk (w104.alloc (.cells #[.int .i64 z, .slice A9 n' c9] 30)) w104.heap.size 30 [.int .i64 z, .slice A9 n' c9]) := ⟨Blk.new _ _ _⟩
          replace HBx : Kp _ := ⟨HBx.out.below hb' HBx.out.lt⟩
          replace HIx : Kp _ := ⟨HIx.out.below hb' HIx.out.lt⟩
          replace HO9 : Kp _ := ⟨own_kept HO9.out hb'⟩
          replace HRd : Kp _ := ⟨HRd.out.trans (Rnd.of_below hb' (Nat.le_trans hszS hBS.size))⟩
          replace hBS := hBS.trans (hb'.mono hBS.size)
          clear hb'
          generalize w104.alloc (.cells #[.int .i64 z, .slice A9 n' c9] 30) = w105 at *
          generalize w104.heap.size = g9 at *
          refine wpAny_ready (rs := [8]) (by kernel_rfl) (by simp) ?_
          refine AllReady.cons (o := ⟨some 19, _, _, _, _, _⟩) rfl (fun K hK => ?_) AllReady.nil
          have hOw9 := own_kept HOw.out hBS
          have hLd9 := HLd.out.imp fun _ _ _ h => own_kept h hBS
          have hsz9 := Nat.le_trans hszS hBS.size
          refine step_appI rfl (.tmp 11) (.tmp 18) rfl w3.heap.size v pre.length L rfl hOw9 g9 z A9 n' c9 rfl HN9.out HPl.out hsz9 ?_
          intro v9 w106 hown9 hg9
          refine hK _ _ ?_
          clear hK K
          try simp only [Act.put, List.setIfInBounds_toArray, List.set_cons_zero, List.set_cons_succ]
          replace HBx : Kp _ := ⟨HBx.out.grown' hg9 (own_low hOw9 hgs)⟩
          have HO10 : Kp _ := ⟨own_stay HO9.out hOw9 (by decide) hg9⟩
          have HLd9 : Kp _ := ⟨hLd9.imp fun _ _ _ h => own_stay h hOw9 (by decide) hg9⟩
          replace HRd : Kp _ := ⟨HRd.out.trans (Rnd.of_own hOw9 hg9 hsz9)⟩
          have HOn : Kp _ := ⟨hown9⟩
          obtain ⟨A10, c10, rfl⟩ := own_sl hown9
          clear hOw9 hLd9 hown9 hg9 HO9 HN9 HIx hBS
          refine wpAny_ready (rs := [9]) (by kernel_rfl) (by simp) ?_
          refine AllReady.cons (o := ⟨none, _, _, _, _, _⟩) rfl (fun K hK => ?_) AllReady.nil
          have c0 := HBx.out.cell? 0
          have f0 := HBx.out.frozen 0
          simp only [List.getElem?_cons_zero] at c0
          go_simp
          refine hK _ _ ?_
          clear hK K c0 f0
          try simp only [Act.put]
          refine wpAny_done (by kernel_rfl) ?_ _
          have hk10 := HBx.out.set 0 (.slice A10 (pre.length + 1) c10)
          have ho10 := Only.setCell w106 ⟨g, 0, none⟩ (.slice A10 (pre.length + 1) c10)
          have hR10 := HRd.out.trans (Rnd.of_set (S := w3.heap.size) HBx.out 0 (.slice A10 (pre.length + 1) c10))
          refine ⟨hR10.from _, hR10.kpW (by omega) hwb (by omega) (by omega) (by omega) (by omega), ⟨Nat.le_trans hsz hR10.others.size, HBlw.out.trans (hR10.below (by omega) hwb), _, L ++ [(z, A9, n', c9)], hk10, ?_, ?_⟩⟩
          · rw [List.length_append, List.length_singleton]; exact own_only HOn.out HBx.out (by decide) ho10
          · rw [thsL_snoc]; exact (HLd9.out.snoc HWz.out HO10.out).imp fun _ _ _ h => own_only h HBx.out (by decide) ho10
        · go_simp
          refine (clone_any A' n' c' bb wS ((HBs.out.below hBS).more hBS.size) HN4.out).mono ?_
          rintro e w108 ⟨vc, rfl, hown, hb'⟩
          refine hK _ _ ?_
          clear hK K
          try simp only [Act.put, List.setIfInBounds_toArray, List.set_cons_zero, List.set_cons_succ]
          replace HBx : Kp _ := ⟨HBx.out.below hb' HBx.out.lt⟩
          replace HIx : Kp _ := ⟨HIx.out.below hb' HIx.out.lt⟩
          obtain ⟨A9, c9, rfl, hbs9⟩ := Bs.of_own hown
          have HO9 : Kp _ := ⟨own_zero hown⟩
          clear hown hbs9
          replace HRd : Kp _ := ⟨HRd.out.trans (Rnd.of_below hb' (Nat.le_trans hszS hBS.size))⟩
          replace hBS := hBS.trans (hb'.mono hBS.size)
          clear hb'
          refine wpAny_ready (rs := [2]) (by kernel_rfl) (by simp) ?_
          refine AllReady.cons (o := ⟨some 13, _, _, _, _, _⟩) rfl (fun K hK => ?_) AllReady.nil
          have c0 := HIx.out.cell? 0
          simp only [List.getElem?_cons_zero] at c0
          go_simp
          refine hK _ _ ?_
          clear hK K c0
          try simp only [Act.put, List.setIfInBounds_toArray, List.set_cons_zero, List.set_cons_succ]
          refine wpAny_take (i := 6) (oi := ⟨some 17, _, _, _, _, _⟩) (v := ?_) rfl (by kernel_rfl) (by kernel_rfl) (by kernel_rfl) (fun _ _ _ h => h) (Or.inl ⟨by rfl, by intro w; go_simp; try rfl⟩) ?_
          try simp only [Act.put, List.setIfInBounds_toArray, List.set_cons_zero, List.set_cons_succ]
          refine wpAny_ready (rs := [7]) (by kernel_rfl) (by simp) ?_
          refine AllReady.cons (o := ⟨some 18, _, _, _, _, _⟩) rfl (fun K hK => ?_) AllReady.nil
          go_simp
          refine hK _ _ ?_
          clear hK K
          try simp only [Act.put, List.setIfInBounds_toArray, List.set_cons_zero, List.set_cons_succ]
          have hb' : Below w108.heap.size w108 (w108.alloc (.cells #[.int .i64 z, .slice A9 n' c9] 30)) := (Below.refl _ _).alloc (Nat.le_refl _) _
          have HN9 : Kp (Blk (w108.alloc (.cells #[.int .i64 z, .slice A9 n' c9] 30)) w108.heap.size 30 [.int .i64 z, .slice A9 n' c9]) := ⟨Blk.new _ _ _⟩
          replace HBx : Kp _ := ⟨HBx.out.below hb' HBx.out.lt⟩
          replace HIx : Kp _ := ⟨HIx.out.below hb' HIx.out.lt⟩
          replace HO9 : Kp _ := ⟨own_kept HO9.out hb'⟩
          replace HRd : Kp _ := ⟨HRd.out.trans (Rnd.of_below hb' (Nat.le_trans hszS hBS.size))⟩
          replace hBS := hBS.trans (hb'.mono hBS.size)
          clear hb'
          generalize w108.alloc (.cells #[.int .i64 z, .slice A9 n' c9] 30) = w110 at *
          generalize w108.heap.size = g9 at *
          refine wpAny_ready (rs := [8]) (by kernel_rfl) (by simp) ?_
          refine AllReady.cons (o := ⟨some 19, _, _, _, _, _⟩) rfl (fun K hK => ?_) AllReady.nil
          have hOw9 := own_kept HOw.out hBS
          have hLd9 := HLd.out.imp fun _ _ _ h => own_kept h hBS
          have hsz9 := Nat.le_trans hszS hBS.size
          refine step_appI rfl (.tmp 11) (.tmp 18) rfl w3.heap.size v pre.length L rfl hOw9 g9 z A9 n' c9 rfl HN9.out HPl.out hsz9 ?_
          intro v9 w111 hown9 hg9
          refine hK _ _ ?_
          clear hK K
          try simp only [Act.put, List.setIfInBounds_toArray, List.set_cons_zero, List.set_cons_succ]
          replace HBx : Kp _ := ⟨HBx.out.grown' hg9 (own_low hOw9 hgs)⟩
          have HO10 : Kp _ := ⟨own_stay HO9.out hOw9 (by decide) hg9⟩
          have HLd9 : Kp _ := ⟨hLd9.imp fun _ _ _ h => own_stay h hOw9 (by decide) hg9⟩
          replace HRd : Kp _ := ⟨HRd.out.trans (Rnd.of_own hOw9 hg9 hsz9)⟩
          have HOn : Kp _ := ⟨hown9⟩
          obtain ⟨A10, c10, rfl⟩ := own_sl hown9
          clear hOw9 hLd9 hown9 hg9 HO9 HN9 HIx hBS
          refine wpAny_ready (rs := [9]) (by kernel_rfl) (by simp) ?_
          refine AllReady.cons (o := ⟨none, _, _, _, _, _⟩) rfl (fun K hK => ?_) AllReady.nil
          have c0 := HBx.out.cell? 0
          have f0 := HBx.out.frozen 0
          simp only [List.getElem?_cons_zero] at c0
          go_simp
          refine hK _ _ ?_
          clear hK K c0 f0
          try simp only [Act.put]
          refine wpAny_done (by kernel_rfl) ?_ _
          have hk10 := HBx.out.set 0 (.slice A10 (pre.length + 1) c10)
          have ho10 := Only.setCell w111 ⟨g, 0, none⟩ (.slice A10 (pre.length + 1) c10)
          have hR10 := HRd.out.trans (Rnd.of_set (S := w3.heap.size) HBx.out 0 (.slice A10 (pre.length + 1) c10))
          refine ⟨hR10.from _, hR10.kpW (by omega) hwb (by omega) (by omega) (by omega) (by omega), ⟨Nat.le_trans hsz hR10.others.size, HBlw.out.trans (hR10.below (by omega) hwb), _, L ++ [(z, A9, n', c9)], hk10, ?_, ?_⟩⟩
          · rw [List.length_append, List.length_singleton]; exact own_only HOn.out HBx.out (by decide) ho10
          · rw [thsL_snoc]; exact (HLd9.out.snoc HWz.out HO10.out).imp fun _ _ _ h => own_only h HBx.out (by decide) ho10
      · have c0 := HIx.out.cell? 0
        simp only [List.getElem?_cons_zero] at c0
        go_simp
        refine hK _ _ ?_
        clear hK K c0
        try simp only [Act.put, List.setIfInBounds_toArray, List.set_cons_zero, List.set_cons_succ]
        refine wpAny_ready (rs := [0, 5]) (by kernel_rfl) (by simp) ?_
        refine AllReady.cons (o := ⟨some 11, _, _, _, _, _⟩) rfl (fun K hK => ?_) (AllReady.cons (o := ⟨some 16, _, _, _, _, _⟩) rfl (fun K hK => ?_) AllReady.nil)
        · have c0 := HBx.out.cell? 0
          simp only [List.getElem?_cons_zero] at c0
          go_simp
          refine hK _ _ ?_
          clear hK K c0
          try simp only [Act.put, List.setIfInBounds_toArray, List.set_cons_zero, List.set_cons_succ]
          refine wpAny_ready (rs := [5]) (by kernel_rfl) (by simp) ?_
          refine AllReady.cons (o := ⟨some 16, _, _, _, _, _⟩) rfl (fun K hK => ?_) AllReady.nil
          go_simp
          refine (clone_any A' n' c' bb wS ((HBs.out.below hBS).more hBS.size) HN4.out).mono ?_
          rintro e w115 ⟨vc, rfl, hown, hb'⟩
          refine hK _ _ ?_
          clear hK K
          try simp only [Act.put, List.setIfInBounds_toArray, List.set_cons_zero, List.set_cons_succ]
          replace HBx : Kp _ := ⟨HBx.out.below hb' HBx.out.lt⟩
          replace HIx : Kp _ := ⟨HIx.out.below hb' HIx.out.lt⟩
          obtain ⟨A9, c9, rfl, hbs9⟩ := Bs.of_own hown
          have HO9 : Kp _ := ⟨own_zero hown⟩
          clear hown hbs9
          replace HRd : Kp _ := ⟨HRd.out.trans (Rnd.of_below hb' (Nat.le_trans hszS hBS.size))⟩
          replace hBS := hBS.trans (hb'.mono hBS.size)
          clear hb'
          refine wpAny_take (i := 6) (oi := ⟨some 17, _, _, _, _, _⟩) (v := ?_) rfl (by kernel_rfl) (by kernel_rfl) (by kernel_rfl) (fun _ _ _ h => h) (Or.inl ⟨by rfl, by intro w; go_simp; try rfl⟩) ?_
          try simp only [Act.put, List.setIfInBounds_toArray, List.set_cons_zero, List.set_cons_succ]
          refine wpAny_ready (rs := [7]) (by kernel_rfl) (by simp) ?_
          refine AllReady.cons (o := ⟨some 18, _, _, _, _, _⟩) rfl (fun K hK => ?_) AllReady.nil
          go_simp
          refine hK _ _ ?_
          clear hK K
          try simp only [Act.put, List.setIfInBounds_toArray, List.set_cons_zero, List.set_cons_succ]
          have hb' : Below w115.heap.size w115 (w115.alloc (.cells #[.int .i64 z, .slice A9 n' c9] 30)) := (Below.refl _ _).alloc (Nat.le_refl _) _
          have HN9 : Kp (Blk (w115.alloc (.cells #[.int .i64 z, .slice A9 n' c9] 30)) w115.heap.size 30 [.int .i64 z, .slice A9 n' c9]) := ⟨Blk.new _ _ _⟩
          replace HBx : Kp _ := ⟨HBx.out.below hb' HBx.out.lt⟩
          replace HIx : Kp _ := ⟨HIx.out.below hb' HIx.out.lt⟩
          replace HO9 : Kp _ := ⟨own_kept HO9.out hb'⟩
          replace HRd : Kp _ := ⟨HRd.out.trans (Rnd.of_below hb' (Nat.le_trans hszS hBS.size))⟩
          replace hBS := hBS.trans (hb'.mono hBS.size)
          clear hb'
          generalize w115.alloc (.cells #[.int .i64 z, .slice A9 n' c9] 30) = w116 at *
          generalize w115.heap.size = g9 at *
          refine wpAny_ready (rs := [8]) (by kernel_rfl) (by simp) ?_
          refine AllReady.cons (o := ⟨some 19, _, _, _, _, _⟩) rfl (fun K hK => ?_) AllReady.nil
          have hOw9 := own_kept HOw.out hBS
          have hLd9 := HLd.out.imp fun _ _ _ h => own_kept h hBS
          have hsz9 := Nat.le_trans hszS hBS.size
          refine step_appI rfl (.tmp 11) (.tmp 18) rfl w3.heap.size v pre.length L rfl hOw9 g9 z A9 n' c9 rfl HN9.out HPl.out hsz9 ?_
          intro v9 w117 hown9 hg9
          refine hK _ _ ?_
          clear hK K
          try simp only [Act.put, List.setIfInBounds_toArray, List.set_cons_zero, List.set_cons_succ]
          replace HBx : Kp _ := ⟨HBx.out.grown' hg9 (own_low hOw9 hgs)⟩
          have HO10 : Kp _ := ⟨own_stay HO9.out hOw9 (by decide) hg9⟩
          have HLd9 : Kp _ := ⟨hLd9.imp fun _ _ _ h => own_stay h hOw9 (by decide) hg9⟩
          replace HRd : Kp _ := ⟨HRd.out.trans (Rnd.of_own hOw9 hg9 hsz9)⟩
          have HOn : Kp _ := ⟨hown9⟩
          obtain ⟨A10, c10, rfl⟩ := own_sl hown9
          clear hOw9 hLd9 hown9 hg9 HO9 HN9 HIx hBS
          refine wpAny_ready (rs := [9]) (by kernel_rfl) (by simp) ?_
          refine AllReady.cons (o := ⟨none, _, _, _, _, _⟩) rfl (fun K hK => ?_) AllReady.nil
          have c0 := HBx.out.cell? 0
          have f0 := HBx.out.frozen 0
          simp only [List.getElem?_cons_zero] at c0
          go_simp
          refine hK _ _ ?_
          clear hK K c0 f0
          try simp only [Act.put]
          refine wpAny_done (by kernel_rfl) ?_ _
          have hk10 := HBx.out.set 0 (.slice A10 (pre.length + 1) c10)
          have ho10 := Only.setCell w117 ⟨g, 0, none⟩ (.slice A10 (pre.length + 1) c10)
          have hR10 := HRd.out.trans (Rnd.of_set (S := w3.heap.size) HBx.out 0 (.slice A10 (pre.length + 1) c10))
          refine ⟨hR10.from _, hR10.kpW (by omega) hwb (by omega) (by omega) (by omega) (by omega), ⟨Nat.le_trans hsz hR10.others.size, HBlw.out.trans (hR10.below (by omega) hwb), _, L ++ [(z, A9, n', c9)], hk10, ?_, ?_⟩⟩
          · rw [List.length_append, List.length_singleton]; exact own_only HOn.out HBx.out (by decide) ho10
          · rw [thsL_snoc]; exact (HLd9.out.snoc HWz.out HO10.out).imp fun _ _ _ h => own_only h HBx.out (by decide) ho10
        · go_simp
          refine (clone_any A' n' c' bb wS ((HBs.out.below hBS).more hBS.size) HN4.out).mono ?_
          rintro e w119 ⟨vc, rfl, hown, hb'⟩
          refine hK _ _ ?_
          clear hK K
          try simp only [Act.put, List.setIfInBounds_toArray, List.set_cons_zero, List.set_cons_succ]
          replace HBx : Kp _ := ⟨HBx.out.below hb' HBx.out.lt⟩
          replace HIx : Kp _ := ⟨HIx.out.below hb' HIx.out.lt⟩
          obtain ⟨A9, c9, rfl, hbs9⟩ := Bs.of_own hown
          have HO9 : Kp _ := ⟨own_zero hown⟩
          clear hown hbs9
          replace HRd : Kp _ := ⟨HRd.out.trans (Rnd.of_below hb' (Nat.le_trans hszS hBS.size))⟩
          replace hBS := hBS.trans (hb'.mono hBS.size)
          clear hb'
          refine wpAny_take (i := 6) (oi := ⟨some 17, _, _, _, _, _⟩) (v := ?_) rfl (by kernel_rfl) (by kernel_rfl) (by kernel_rfl) (fun _ _ _ h => h) (Or.inl ⟨by rfl, by intro w; go_simp; try rfl⟩) ?_
          try simp only [Act.put, List.setIfInBounds_toArray, List.set_cons_zero, List.set_cons_succ]
          refine wpAny_ready (rs := [0, 7]) (by kernel_rfl) (by simp) ?_
          refine AllReady.cons (o := ⟨some 11, _, _, _, _, _⟩) rfl (fun K hK => ?_) (AllReady.cons (o := ⟨some 18, _, _, _, _, _⟩) rfl (fun K hK => ?_) AllReady.nil)
          · have c0 := HBx.out.cell? 0
            simp only [List.getElem?_cons_zero] at c0
            go_simp
            refine hK _ _ ?_
            clear hK K c0
            try simp only [Act.put, List.setIfInBounds_toArray, List.set_cons_zero, List.set_cons_succ]
            refine wpAny_ready (rs := [7]) (by kernel_rfl) (by simp) ?_
            refine AllReady.cons (o := ⟨some 18, _, _, _, _, _⟩) rfl (fun K hK => ?_) AllReady.nil
            go_simp
            refine hK _ _ ?_
            clear hK K
            try simp only [Act.put, List.setIfInBounds_toArray, List.set_cons_zero, List.set_cons_succ]
            have hb' : Below w119.heap.size w119 (w119.alloc (.cells #[.int .i64 z, .slice A9 n' c9] 30)) := (Below.refl _ _).alloc (Nat.le_refl _) _
            have HN9 : Kp (Blk (w119.alloc (.cells #[.int .i64 z, .slice A9 n' c9] 30)) w119.heap.size 30 [.int .i64 z, .slice A9 n' c9]) := ⟨Blk.new _ _ _⟩
            replace HBx : Kp _ := ⟨HBx.out.below hb' HBx.out.lt⟩
            replace HIx : Kp _ := ⟨HIx.out.below hb' HIx.out.lt⟩
            replace HO9 : Kp _ := ⟨own_kept HO9.out hb'⟩
            replace HRd : Kp _ := ⟨HRd.out.trans (Rnd.of_below hb' (Nat.le_trans hszS hBS.size))⟩
            replace hBS := hBS.trans (hb'.mono hBS.size)
            clear hb'
            generalize w119.alloc (.cells #[.int .i64 z, .slice A9 n' c9] 30) = w121 at *
            generalize w119.heap.size = g9 at *
            refine wpAny_ready (rs := [8]) (by kernel_rfl) (by simp) ?_
            refine AllReady.cons (o := ⟨some 19, _, _, _, _, _⟩) rfl (fun K hK => ?_) AllReady.nil
            have hOw9 := own_kept HOw.out hBS
            have hLd9 := HLd.out.imp fun _ _ _ h => own_kept h hBS
            have hsz9 := Nat.le_trans hszS hBS.size
            refine step_appI rfl (.tmp 11) (.tmp 18) rfl w3.heap.size v pre.length L rfl hOw9 g9 z A9 n' c9 rfl HN9.out HPl.out hsz9 ?_
            intro v9 w122 hown9 hg9
            refine hK _ _ ?_
            clear hK K
            try simp only [Act.put, List.setIfInBounds_toArray, List.set_cons_zero, List.set_cons_succ]
            replace HBx : Kp _ := ⟨HBx.out.grown' hg9 (own_low hOw9 hgs)⟩
            have HO10 : Kp _ := ⟨own_stay HO9.out hOw9 (by decide) hg9⟩
            have HLd9 : Kp _ := ⟨hLd9.imp fun _ _ _ h => own_stay h hOw9 (by decide) hg9⟩
            replace HRd : Kp _ := ⟨HRd.out.trans (Rnd.of_own hOw9 hg9 hsz9)⟩
            have HOn : Kp _ := ⟨hown9⟩
            obtain ⟨A10, c10, rfl⟩ := own_sl hown9
            clear hOw9 hLd9 hown9 hg9 HO9 HN9 HIx hBS
            refine wpAny_ready (rs := [9]) (by kernel_rfl) (by simp) ?_
            refine AllReady.cons (o := ⟨none, _, _, _, _, _⟩) rfl (fun K hK => ?_) AllReady.nil
            have c0 := HBx.out.cell? 0
            have f0 := HBx.out.frozen 0
            simp only [List.getElem?_cons_zero] at c0
            go_simp
            refine hK _ _ ?_
            clear hK K c0 f0
            try simp only [Act.put]
            refine wpAny_done (by kernel_rfl) ?_ _
            have hk10 := HBx.out.set 0 (.slice A10 (pre.length + 1) c10)
            have ho10 := Only.setCell w122 ⟨g, 0, none⟩ (.slice A10 (pre.length + 1) c10)
            have hR10 := HRd.out.trans (Rnd.of_set (S := w3.heap.size) HBx.out 0 (.slice A10 (pre.length + 1) c10))
            refine ⟨hR10.from _, hR10.kpW (by omega) hwb (by omega) (by omega) (by omega) (by omega), ⟨Nat.le_trans hsz hR10.others.size, HBlw.out.trans (hR10.below (by omega) hwb), _, L ++ [(z, A9, n', c9)], hk10, ?_, ?_⟩⟩
            · rw [List.length_append, List.length_singleton]; exact own_only HOn.out HBx.out (by decide) ho10
            · rw [thsL_snoc]; exact (HLd9.out.snoc HWz.out HO10.out).imp fun _ _ _ h => own_only h HBx.out (by decide) ho10
          · go_simp
            refine hK _ _ ?_
            clear hK K
            try simp only [Act.put, List.setIfInBounds_toArray, List.set_cons_zero, List.set_cons_succ]
            have hb' : Below w119.heap.size w119 (w119.alloc (.cells #[.int .i64 z, .slice A9 n' c9] 30)) := (Below.refl _ _).alloc (Nat.le_refl _) _
            have HN9 : Kp (Blk (w119.alloc (.cells #[.int .i64 z, .slice A9 n' c9] 30)) w119.heap.size 30 [.int .i64 z, .slice A9 n' c9]) := ⟨Blk.new _ _ _⟩
            replace HBx : Kp _ := ⟨HBx.out.below hb' HBx.out.lt⟩
            replace HIx : Kp _ := ⟨HIx.out.below hb' HIx.out.lt⟩
            replace HO9 : Kp _ := ⟨own_kept HO9.out hb'⟩
            replace HRd : Kp _ := ⟨HRd.out.trans (Rnd.of_below hb' (Nat.le_trans hszS hBS.size))⟩
            replace hBS := hBS.trans (hb'.mono hBS.size)
            clear hb'
            generalize w119.alloc (.cells #[.int .i64 z, .slice A9 n' c9] 30) = w124 at *
            generalize w119.heap.size = g9 at *
            refine wpAny_ready (rs := [0]) (by kernel_rfl) (by simp) ?_
            refine AllReady.cons (o := ⟨some 11, _, _, _, _, _⟩) rfl (fun K hK => ?_) AllReady.nil
            have c0 := HBx.out.cell? 0
            simp only [List.getElem?_cons_zero] at c0
            go_simp
            refine hK _ _ ?_
            clear hK K c0
            try simp only [Act.put, List.setIfInBounds_toArray, List.set_cons_zero, List.set_cons_succ]
            refine wpAny_ready (rs := [8]) (by kernel_rfl) (by simp) ?_
            refine AllReady.cons (o := ⟨some 19, _, _, _, _, _⟩) rfl (fun K hK => ?_) AllReady.nil
            have hOw9 := own_kept HOw.out hBS
            have hLd9 := HLd.out.imp fun _ _ _ h => own_kept h hBS
            have hsz9 := Nat.le_trans hszS hBS.size
            refine step_appI rfl (.tmp 11) (.tmp 18) rfl w3.heap.size v pre.length L rfl hOw9 g9 z A9 n' c9 rfl HN9.out HPl.out hsz9 ?_
            intro v9 w126 hown9 hg9
            refine hK _ _ ?_
            clear hK K
            try simp only [Act.put, List.setIfInBounds_toArray, List.set_cons_zero, List.set_cons_succ]
            replace HBx : Kp _ := ⟨HBx.out.grown' hg9 (own_low hOw9 hgs)⟩
            have HO10 : Kp _ := ⟨own_stay HO9.out hOw9 (by decide) hg9⟩
            have HLd9 : Kp _ := ⟨hLd9.imp fun _ _ _ h => own_stay h hOw9 (by decide) hg9⟩
            replace HRd : Kp _ := ⟨HRd.out.trans (Rnd.of_own hOw9 hg9 hsz9)⟩
            have HOn : Kp _ := ⟨hown9⟩
            obtain ⟨A10, c10, rfl⟩ := own_sl hown9
            clear hOw9 hLd9 hown9 hg9 HO9 HN9 HIx hBS
            refine wpAny_ready (rs := [9]) (by kernel_rfl) (by simp) ?_
            refine AllReady.cons (o := ⟨none, _, _, _, _, _⟩) rfl (fun K hK => ?_) AllReady.nil
            have c0 := HBx.out.cell? 0
            have f0 := HBx.out.frozen 0
            simp only [List.getElem?_cons_zero] at c0
            go_simp
            refine hK _ _ ?_
            clear hK K c0 f0
            try simp only [Act.put]
            refine wpAny_done (by kernel_rfl) ?_ _
            have hk10 := HBx.out.set 0 (.slice A10 (pre.length + 1) c10)
            have ho10 := Only.setCell w126 ⟨g, 0, none⟩ (.slice A10 (pre.length + 1) c10)
            have hR10 := HRd.out.trans (Rnd.of_set (S := w3.heap.size) HBx.out 0 (.slice A10 (pre.length + 1) c10))
            refine ⟨hR10.from _, hR10.kpW (by omega) hwb (by omega) (by omega) (by omega) (by omega), ⟨Nat.le_trans hsz hR10.others.size, HBlw.out.trans (hR10.below (by omega) hwb), _, L ++ [(z, A9, n', c9)], hk10, ?_, ?_⟩⟩
            · rw [List.length_append, List.length_singleton]; exact own_only HOn.out HBx.out (by decide) ho10
            · rw [thsL_snoc]; exact (HLd9.out.snoc HWz.out HO10.out).imp fun _ _ _ h => own_only h HBx.out (by decide) ho10
      · go_simp
        refine (clone_any A' n' c' bb wS ((HBs.out.below hBS).more hBS.size) HN4.out).mono ?_
        rintro e w128 ⟨vc, rfl, hown, hb'⟩
        refine hK _ _ ?_
        clear hK K
        try simp only [Act.put, List.setIfInBounds_toArray, List.set_cons_zero, List.set_cons_succ]
        replace HBx : Kp _ := ⟨HBx.out.below hb' HBx.out.lt⟩
        replace HIx : Kp _ := ⟨HIx.out.below hb' HIx.out.lt⟩
        obtain ⟨A9, c9, rfl, hbs9⟩ := Bs.of_own hown
        have HO9 : Kp _ := ⟨own_zero hown⟩
        clear hown hbs9
        replace HRd : Kp _ := ⟨HRd.out.trans (Rnd.of_below hb' (Nat.le_trans hszS hBS.size))⟩
        replace hBS := hBS.trans (hb'.mono hBS.size)
        clear hb'
        refine wpAny_ready (rs := [0, 2]) (by kernel_rfl) (by simp) ?_
        refine AllReady.cons (o := ⟨some 11, _, _, _, _, _⟩) rfl (fun K hK => ?_) (AllReady.cons (o := ⟨some 13, _, _, _, _, _⟩) rfl (fun K hK => ?_) AllReady.nil)
        · have c0 := HBx.out.cell? 0
          simp only [List.getElem?_cons_zero] at c0
          go_simp
          refine hK _ _ ?_
          clear hK K c0
          try simp only [Act.put, List.setIfInBounds_toArray, List.set_cons_zero, List.set_cons_succ]
          refine wpAny_ready (rs := [2]) (by kernel_rfl) (by simp) ?_
          refine AllReady.cons (o := ⟨some 13, _, _, _, _, _⟩) rfl (fun K hK => ?_) AllReady.nil
          have c0 := HIx.out.cell? 0
          simp only [List.getElem?_cons_zero] at c0
          go_simp
          refine hK _ _ ?_
          clear hK K c0
          try simp only [Act.put, List.setIfInBounds_toArray, List.set_cons_zero, List.set_cons_succ]
          refine wpAny_take (i := 6) (oi := ⟨some 17, _, _, _, _, _⟩) (v := ?_) rfl (by kernel_rfl) (by kernel_rfl) (by kernel_rfl) (fun _ _ _ h => h) (Or.inl ⟨by rfl, by intro w; go_simp; try rfl⟩) ?_
          try simp only [Act.put, List.setIfInBounds_toArray, List.set_cons_zero, List.set_cons_succ]
          refine wpAny_ready (rs := [7]) (by kernel_rfl) (by simp) ?_
          refine AllReady.cons (o := ⟨some 18, _, _, _, _, _⟩) rfl (fun K hK => ?_) AllReady.nil
          go_simp
          refine hK _ _ ?_
          clear hK K
          try simp only [Act.put, List.setIfInBounds_toArray, List.set_cons_zero, List.set_cons_succ]
          have hb' : Below w128.heap.size w128 (w128.alloc (.cells #[.int .i64 z, .slice A9 n' c9] 30)) := (Below.refl _ _).alloc (Nat.le_refl _) _
          have HN9 : Kp (Blk (w128.alloc (.cells #[.int .i64 z, .slice A9 n' c9] 30)) w128.heap.size 30 [.int .i64 z, .slice A9 n' c9]) := ⟨Blk.new _ _ _⟩
          replace HBx : Kp _ := ⟨HBx.out.below hb' HBx.out.lt⟩
          replace HIx : Kp _ := ⟨HIx.out.below hb' HIx.out.lt⟩
          replace HO9 : Kp _ := ⟨own_kept HO9.out hb'⟩
          replace HRd : Kp _ := ⟨HRd.out.trans (Rnd.of_below hb' (Nat.le_trans hszS hBS.size))⟩
          replace hBS := hBS.trans (hb'.mono hBS.size)
          clear hb'
          generalize w128.alloc (.cells #[.int .i64 z, .slice A9 n' c9] 30) = w131 at *
          generalize w128.heap.size = g9 at *
          refine wpAny_ready (rs := [8]) (by kernel_rfl) (by simp) ?_
          refine AllReady.cons (o := ⟨some 19, _, _, _, _, _⟩) rfl (fun K hK => ?_) AllReady.nil
          have hOw9 := own_kept HOw.out hBS
          have hLd9 := HLd.out.imp fun _ _ _ h => own_kept h hBS
          have hsz9 := Nat.le_trans hszS hBS.size
          refine step_appI rfl (.tmp 11) (.tmp 18) rfl w3.heap.size v pre.length L rfl hOw9 g9 z A9 n' c9 rfl HN9.out HPl.out hsz9 ?_
          intro v9 w132 hown9 hg9
          refine hK _ _ ?_
          clear hK K
          try simp only [Act.put, List.setIfInBounds_toArray, List.set_cons_zero, List.set_cons_succ]
          replace HBx : Kp _ := ⟨HBx.out.grown' hg9 (own_low hOw9 hgs)⟩
          have HO10 : Kp _ := ⟨own_stay HO9.out hOw9 (by decide) hg9⟩
          have HLd9 : Kp _ := ⟨hLd9.imp fun _ _ _ h => own_stay h hOw9 (by decide) hg9⟩
          replace HRd : Kp _ := ⟨HRd.out.trans (Rnd.of_own hOw9 hg9 hsz9)⟩
          have HOn : Kp _ := ⟨hown9⟩
          obtain ⟨A10, c10, rfl⟩ := own_sl hown9
          clear hOw9 hLd9 hown9 hg9 HO9 HN9 HIx hBS
          refine wpAny_ready (rs := [9]) (by kernel_rfl) (by simp) ?_
          refine AllReady.cons (o := ⟨none, _, _, _, _, _⟩) rfl (fun K hK => ?_) AllReady.nil
          have c0 := HBx.out.cell? 0
          have f0 := HBx.out.frozen 0
          simp only [List.getElem?_cons_zero] at c0
          go_simp
          refine hK _ _ ?_
          clear hK K c0 f0
          try simp only [Act.put]
          refine wpAny_done (by kernel_rfl) ?_ _
          have hk10 := HBx.out.set 0 (.slice A10 (pre.length + 1) c10)
          have ho10 := Only.setCell w132 ⟨g, 0, none⟩ (.slice A10 (pre.length + 1) c10)
          have hR10 := HRd.out.trans (Rnd.of_set (S := w3.heap.size) HBx.out 0 (.slice A10 (pre.length + 1) c10))
          refine ⟨hR10.from _, hR10.kpW (by omega) hwb (by omega) (by omega) (by omega) (by omega), ⟨Nat.le_trans hsz hR10.others.size, HBlw.out.trans (hR10.below (by omega) hwb), _, L ++ [(z, A9, n', c9)], hk10, ?_, ?_⟩⟩
          · rw [List.length_append, List.length_singleton]; exact own_only HOn.out HBx.out (by decide) ho10
          · rw [thsL_snoc]; exact (HLd9.out.snoc HWz.out HO10.out).imp fun _ _ _ h => own_only h HBx.out (by decide) ho10
        · have c0 := HIx.out.cell? 0
          simp only [List.getElem?_cons_zero] at c0
          go_simp
          refine hK _ _ ?_
          clear hK K c0
          try simp only [Act.put, List.setIfInBounds_toArray, List.set_cons_zero, List.set_cons_succ]
          refine wpAny_take (i := 6) (oi := ⟨some 17, _, _, _, _, _⟩) (v := ?_) rfl (by kernel_rfl) (by kernel_rfl) (by kernel_rfl) (fun _ _ _ h => h) (Or.inl ⟨by rfl, by intro w; go_simp; try rfl⟩) ?_
          try simp only [Act.put, List.setIfInBounds_toArray, List.set_cons_zero, List.set_cons_succ]
          refine wpAny_ready (rs := [0, 7]) (by kernel_rfl) (by simp) ?_
          refine AllReady.cons (o := ⟨some 11, _, _, _, _, _⟩) rfl (fun K hK => ?_) (AllReady.cons (o := ⟨some 18, _, _, _, _, _⟩) rfl (fun K hK => ?_) AllReady.nil)
          · have c0 := HBx.out.cell? 0
            simp only [List.getElem?_cons_zero] at c0
            go_simp
            refine hK _ _ ?_
            clear hK K c0
            try simp only [Act.put, List.setIfInBounds_toArray, List.set_cons_zero, List.set_cons_succ]
            refine wpAny_ready (rs := [7]) (by kernel_rfl) (by simp) ?_
            refine AllReady.cons (o := ⟨some 18, _, _, _, _, _⟩) rfl (fun K hK => ?_) AllReady.nil
            go_simp
            refine hK _ _ ?_
            clear hK K
            try simp only [Act.put, List.setIfInBounds_toArray, List.set_cons_zero, List.set_cons_succ]
            have hb' : Below w128.heap.size w128 (w128.alloc (.cells #[.int .i64 z, .slice A9 n' c9] 30)) := (Below.refl _ _).alloc (Nat.le_refl _) _
            have HN9 : Kp (Blk (w128.alloc (.cells #[.int .i64 z, .slice A9 n' c9] 30)) w128.heap.size 30 [.int .i64 z, .slice A9 n' c9]) := ⟨Blk.new _ _ _⟩
            replace HBx : Kp _ := ⟨HBx.out.below hb' HBx.out.lt⟩
            replace HIx : Kp _ := ⟨HIx.out.below hb' HIx.out.lt⟩
            replace HO9 : Kp _ := ⟨own_kept HO9.out hb'⟩
            replace HRd : Kp _ := ⟨HRd.out.trans (Rnd.of_below hb' (Nat.le_trans hszS hBS.size))⟩
            replace hBS := hBS.trans (hb'.mono hBS.size)
            clear hb'
            generalize w128.alloc (.cells #[.int .i64 z, .slice A9 n' c9] 30) = w136 at *
            generalize w128.heap.size = g9 at *
            refine wpAny_ready (rs := [8]) (by kernel_rfl) (by simp) ?_
            refine AllReady.cons (o := ⟨some 19, _, _, _, _, _⟩) rfl (fun K hK => ?_) AllReady.nil
            have hOw9 := own_kept HOw.out hBS
            have hLd9 := HLd.out.imp fun _ _ _ h => own_kept h hBS
            have hsz9 := Nat.le_trans hszS hBS.size
            refine step_appI rfl (.tmp 11) (.tmp 18) rfl w3.heap.size v pre.length L rfl hOw9 g9 z A9 n' c9 rfl HN9.out HPl.out hsz9 ?_
            intro v9 w137 hown9 hg9
            refine hK _ _ ?_
            clear hK K
            try simp only [Act.put, List.setIfInBounds_toArray, List.set_cons_zero, List.set_cons_succ]
            replace HBx : Kp _ := ⟨HBx.out.grown' hg9 (own_low hOw9 hgs)⟩
            have HO10 : Kp _ := ⟨own_stay HO9.out hOw9 (by decide) hg9⟩
            have HLd9 : Kp _ := ⟨hLd9.imp fun _ _ _ h => own_stay h hOw9 (by decide) hg9⟩
            replace HRd : Kp _ := ⟨HRd.out.trans (Rnd.of_own hOw9 hg9 hsz9)⟩
            have HOn : Kp _ := ⟨hown9⟩
            obtain ⟨A10, c10, rfl⟩ := own_sl hown9
            clear hOw9 hLd9 hown9 hg9 HO9 HN9 HIx hBS
            refine wpAny_ready (rs := [9]) (by kernel_rfl) (by simp) ?_
            refine AllReady.cons (o := ⟨none, _, _, _, _, _⟩) rfl (fun K hK => ?_) AllReady.nil
            have c0 := HBx.out.cell? 0
            have f0 := HBx.out.frozen 0
            simp only [List.getElem?_cons_zero] at c0
            go_simp
            refine hK _ _ ?_
            clear hK K c0 f0
            try simp only [Act.put]
            refine wpAny_done (by kernel_rfl) ?_ _
            have hk10 := HBx.out.set 0 (.slice A10 (pre.length + 1) c10)
            have ho10 := Only.setCell w137 ⟨g, 0, none⟩ (.slice A10 (pre.length + 1) c10)
            have hR10 := HRd.out.trans (Rnd.of_set (S := w3.heap.size) HBx.out 0 (.slice A10 (pre.length + 1) c10))
            refine ⟨hR10.from _, hR10.kpW (by omega) hwb (by omega) (by omega) (by omega) (by omega), ⟨Nat.le_trans hsz hR10.others.size, HBlw.out.trans (hR10.below (by omega) hwb), _, L ++ [(z, A9, n', c9)], hk10, ?_, ?_⟩⟩
            · rw [List.length_append, List.length_singleton]; exact own_only HOn.out HBx.out (by decide) ho10
            · rw [thsL_snoc]; exact (HLd9.out.snoc HWz.out HO10.out).imp fun _ _ _ h => own_only h HBx.out (by decide) ho10
          · go_simp
            refine hK _ _ ?_
            clear hK K
            try simp only [Act.put, List.setIfInBounds_toArray, List.set_cons_zero, List.set_cons_succ]
            have hb' : Below w128.heap.size w128 (w128.alloc (.cells #[.int .i64 z, .slice A9 n' c9] 30)) := (Below.refl _ _).alloc (Nat.le_refl _) _
            have HN9 : Kp (Blk (w128.alloc (.cells #[.int .i64 z, .slice A9 n' c9] 30)) w128.heap.size 30 [.int .i64 z, .slice A9 n' c9]) := ⟨Blk.new _ _ _⟩
            replace HBx : Kp _ := ⟨HBx.out.below hb' HBx.out.lt⟩
            replace HIx : Kp _ := ⟨HIx.out.below hb' HIx.out.lt⟩
            replace HO9 : Kp _ := ⟨own_kept HO9.out hb'⟩
            replace HRd : Kp _ := ⟨HRd.out.trans (Rnd.of_below hb' (Nat.le_trans hszS hBS.size))⟩
            replace hBS := hBS.trans (hb'.mono hBS.size)
            clear hb'
            generalize w128.alloc (.cells #[.int .i64 z, .slice A9 n' c9] 30) = w139 at *
            generalize w128.heap.size = g9 at *
            refine wpAny_ready (rs := [0]) (by kernel_rfl) (by simp) ?_
            refine AllReady.cons (o := ⟨some 11, _, _, _, _, _⟩) rfl (fun K hK => ?_) AllReady.nil
            have c0 := HBx.out.cell? 0
            simp only [List.getElem?_cons_zero] at c0
            go_simp
            refine hK _ _ ?_
            clear hK K c0
            try simp only [Act.put, List.setIfInBounds_toArray, List.set_cons_zero, List.set_cons_succ]
            refine wpAny_ready (rs := [8]) (by kernel_rfl) (by simp) ?_
            refine AllReady.cons (o := ⟨some 19, _, _, _, _, _⟩) rfl (fun K hK => ?_) AllReady.nil
            have hOw9 := own_kept HOw.out hBS
            have hLd9 := HLd.out.imp fun _ _ _ h => own_kept h hBS
            have hsz9 := Nat.le_trans hszS hBS.size
            refine step_appI rfl (.tmp 11) (.tmp 18) rfl w3.heap.size v pre.length L rfl hOw9 g9 z A9 n' c9 rfl HN9.out HPl.out hsz9 ?_
            intro v9 w141 hown9 hg9
            refine hK _ _ ?_
            clear hK K
            try simp only [Act.put, List.setIfInBounds_toArray, List.set_cons_zero, List.set_cons_succ]
            replace HBx : Kp _ := ⟨HBx.out.grown' hg9 (own_low hOw9 hgs)⟩
            have HO10 : Kp _ := ⟨own_stay HO9.out hOw9 (by decide) hg9⟩
            have HLd9 : Kp _ := ⟨hLd9.imp fun _ _ _ h => own_stay h hOw9 (by decide) hg9⟩
            replace HRd : Kp _ := ⟨HRd.out.trans (Rnd.of_own hOw9 hg9 hsz9)⟩
            have HOn : Kp _ := ⟨hown9⟩
            obtain ⟨A10, c10, rfl⟩ := own_sl hown9
            clear hOw9 hLd9 hown9 hg9 HO9 HN9 HIx hBS
            refine wpAny_ready (rs := [9]) (by kernel_rfl) (by simp) ?_
            refine AllReady.cons (o := ⟨none, _, _, _, _, _⟩) rfl (fun K hK => ?_) AllReady.nil
            have c0 := HBx.out.cell? 0
            have f0 := HBx.out.frozen 0
            simp only [List.getElem?_cons_zero] at c0
            go_simp
            refine hK _ _ ?_
            clear hK K c0 f0
            try simp only [Act.put]
            refine wpAny_done (by kernel_rfl) ?_ _
            have hk10 := HBx.out.set 0 (.slice A10 (pre.length + 1) c10)
            have ho10 := Only.setCell w141 ⟨g, 0, none⟩ (.slice A10 (pre.length + 1) c10)
            have hR10 := HRd.out.trans (Rnd.of_set (S := w3.heap.size) HBx.out 0 (.slice A10 (pre.length + 1) c10))
            refine ⟨hR10.from _, hR10.kpW (by omega) hwb (by omega) (by omega) (by omega) (by omega), ⟨Nat.le_trans hsz hR10.others.size, HBlw.out.trans (hR10.below (by omega) hwb), _, L ++ [(z, A9, n', c9)], hk10, ?_, ?_⟩⟩
            · rw [List.length_append, List.length_singleton]; exact own_only HOn.out HBx.out (by decide) ho10
            · rw [thsL_snoc]; exact (HLd9.out.snoc HWz.out HO10.out).imp fun _ _ _ h => own_only h HBx.out (by decide) ho10
  case done =>
    rintro Dd ys W hD hys hi hKd
    obtain ⟨v, L, h1, h2, h3⟩ := hi.is
    have HBx : Kp _ := ⟨h1⟩
    have HOw : Kp _ := ⟨h2⟩
    have HLd : Kp _ := ⟨h3⟩
    have HBw : Kp _ := ⟨hi.below⟩
    have HKd : Kp _ := ⟨hKd⟩
    have HYs : Kp _ := ⟨hys⟩
    have c0 : W.cell? ⟨g, 0, none⟩ = some v := h1.cell? 0
    have HDw : Kp (w.heap.size ≤ Dd) := ⟨by omega⟩
    clear hi h1 h2 h3 hKd hys
    go_wp2
    refine ⟨by simp, .inl ⟨_, _, rfl, run_takeDeferred HKd.out, ?_⟩⟩
    have hgp : W.grownBy (W.putObj Dd (.deferred none)) (some Dd) := grownBy_putObj' W Dd _
    have hnc : ∀ r, some Dd = some r → ∃ o : Obj, W.heap[r]? = some o ∧ o.isCells = false := fun r e => by cases e; exact ⟨_, HKd.out, rfl⟩
    obtain ⟨A', c', rfl, hits⟩ := Its.of_own (own_nc HOw.out hgp hnc) ((HLd.out.imp fun _ _ _ h => own_nc h hgp hnc).leads) (Nat.le_refl _)
    have hlen : ys.length = (minusL its bs).length := by rw [← HYs.out, thsL_length]
    rw [HYs.out, hlen] at hits
    rw [hlen]
    exact ⟨_, results_tmp rfl _ _ _, A', c', rfl, hits, below_nc HBw.out hgp (fun r e => by cases e; exact HDw.out) (Nat.le_refl _) (Nat.le_refl _)⟩
  case stop =>
    rintro Dd cc pre W hD hp h _
    exact h.elim
end Go.Proofs.Ythpfiieaanioeaa
