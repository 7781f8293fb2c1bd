/- The document's calls of chapter 10, and the walk of AuditHeaps. -/
import Derived.Test.YthpfiieaanioeaaG18
import Derived.Test.YthpfiieaanioeaaG16
namespace Go.Proofs.Ythpfiieaanioeaa
open Go.RowKit

set_option maxRecDepth 100000 in
set_option maxHeartbeats 2000000 in
theorem refcoll_any (K : Option Addr) (kn kc : Nat) (key : List UInt8) (A : Option Addr) (m c : Nat) (its : List Th) (B : Option Addr) (p d : Nat) (bs : List Th) (w : World) (hK : Bs w w.heap.size K kn kc key) (hI : Its w w.heap.size A m c its) (hJ : Its w w.heap.size B p d bs)
    (hkn : kn ≤ 524288) (hm : m ≤ 64) (hp : p ≤ 64) (hb : ∀ x ∈ its, x.2.length ≤ 523000) (hb2 : ∀ x ∈ bs, x.2.length ≤ 523000) :
    Calls Try.prog 25 #[.slice K kn kc, .slice A m c, .slice B p d] w fun e w' => e = .returned (.bool (collL key its bs)) ∧ Below w.heap.size w w' := by
  have HK : Kp _ := ⟨hK⟩
  have HI : Kp _ := ⟨hI⟩
  have HJ : Kp _ := ⟨hJ⟩
  have HB : Kp _ := ⟨hb⟩
  have HB2 : Kp _ := ⟨hb2⟩
  clear hK hI hJ hb hb2
  obtain ⟨X, hX⟩ : ∃ x, x = allL key its := ⟨_, rfl⟩
  obtain ⟨Y, hY⟩ : ∃ x, x = allL key bs := ⟨_, rfl⟩
  have HXl : Kp (X.length = 32) := ⟨by rw [hX]; exact allL_length _ _⟩
  have HYl : Kp (Y.length = 32) := ⟨by rw [hY]; exact allL_length _ _⟩
  have CX : Kp (∀ W, Below w.heap.size w W → Calls Try.prog 38 #[.slice K kn kc, .slice A m c] W fun e w' => e = .returned (.agg (cells8 X).toArray) ∧ Below W.heap.size W w') := ⟨fun W hW => by
    rw [hX]; exact refall_any K kn kc key A m c its W (HK.out.next hW (Nat.le_refl _)) (HI.out.next hW (Nat.le_refl _)) hkn HB.out⟩
  have CY : Kp (∀ W, Below w.heap.size w W → Calls Try.prog 38 #[.slice K kn kc, .slice B p d] W fun e w' => e = .returned (.agg (cells8 Y).toArray) ∧ Below W.heap.size W w') := ⟨fun W hW => by
    rw [hY]; exact refall_any K kn kc key B p d bs W (HK.out.next hW (Nat.le_refl _)) (HJ.out.next hW (Nat.le_refl _)) hkn HB2.out⟩
  obtain ⟨q, hq⟩ : ∃ q, q = (X == Y) := ⟨_, rfl⟩
  have HQ : Kp ((X == Y) = q) := ⟨hq.symm⟩
  obtain ⟨s, hs⟩ : ∃ s, s = sameL its bs := ⟨_, rfl⟩
  have HE : Kp (collL key its bs = (!s && q)) := ⟨by unfold collL; rw [hs, hq, hX, hY]⟩
  have CS := refsame_any A m c its B p d bs w HI.out HJ.out hm hp
  rw [← hs] at CS
  have HCS : Kp _ := ⟨CS⟩
  clear CS hX hY hq hs HB HB2 HK HI HJ
  rw [HE.out]
  go_enter Try.func25, Try.ntmps25
  go_wp2_with fail
  refine HCS.out.mono ?_
  rintro e w1 ⟨rfl, hb1⟩
  cases s with
  | true =>
    clear HQ HE
    go_wp2
    go_ret
    exact ⟨by simp, hb1⟩
  | false =>
    clear HE
    go_wp2_with fail
    refine (CX.out w1 hb1).mono ?_
    rintro e w2 ⟨rfl, hb2⟩
    have hB2 := hb1.trans (hb2.mono hb1.size)
    clear hb1 hb2
    go_wp2_with fail
    refine (CY.out w2 hB2).mono ?_
    rintro e w3 ⟨rfl, hb3⟩
    have hB3 := hB2.trans (hb3.mono hB2.size)
    clear hb3 hB2
    go_wp2_with (refine wpList_eql_g (o := ⟨some 18, _, _, _, _, _⟩) rfl eqDig Try.eqGuardType43 (.tmp 14) (.tmp 17) rfl X Y rfl rfl HXl.out HYl.out HQ.out ?_)
    go_wp2
    go_ret
    exact ⟨by simp, hB3⟩
set_option maxHeartbeats 1000000 in
theorem ref10coll_any (K : Option Addr) (kn kc : Nat) (key : List UInt8) (A : Option Addr) (m c : Nat) (its : List Th) (B : Option Addr) (p d : Nat) (bs : List Th) (w : World) (hK : Bs w w.heap.size K kn kc key) (hI : Its w w.heap.size A m c its) (hJ : Its w w.heap.size B p d bs)
    (hkn : kn ≤ 524288) (hm : m ≤ 64) (hp : p ≤ 64) (hb : ∀ x ∈ its, x.2.length ≤ 523000) (hb2 : ∀ x ∈ bs, x.2.length ≤ 523000) :
    Calls Try.prog 15 #[.slice K kn kc, .slice A m c, .slice B p d] w fun e w' => e = .returned (.bool (collL key its bs)) ∧ Below w.heap.size w w' := by
  have HC : Kp _ := ⟨refcoll_any K kn kc key A m c its B p d bs w hK hI hJ hkn hm hp hb hb2⟩
  clear hK hI hJ hb hb2
  go_enter Try.func15, Try.ntmps15
  go_wp2_with fail
  refine HC.out.mono ?_
  rintro e w1 ⟨rfl, hb1⟩
  go_wp2
  go_ret
  exact ⟨rfl, hb1⟩
set_option maxHeartbeats 1000000 in
theorem ref10same_any (A : Option Addr) (m c : Nat) (its : List Th) (B : Option Addr) (p d : Nat) (bs : List Th) (w : World) (hI : Its w w.heap.size A m c its) (hJ : Its w w.heap.size B p d bs) (hm : m ≤ 64) (hp : p ≤ 64) :
    Calls Try.prog 13 #[.slice A m c, .slice B p d] w fun e w' => e = .returned (.bool (sameL its bs)) ∧ Below w.heap.size w w' := by
  have HC : Kp _ := ⟨refsame_any A m c its B p d bs w hI hJ hm hp⟩
  clear hI hJ
  go_enter Try.func13, Try.ntmps13
  go_wp2_with fail
  refine HC.out.mono ?_
  rintro e w1 ⟨rfl, hb1⟩
  go_wp2
  go_ret
  exact ⟨rfl, hb1⟩
set_option maxHeartbeats 1000000 in
theorem ref10minus_any (A : Option Addr) (m c : Nat) (its : List Th) (B : Option Addr) (p d : Nat) (bs : List Th) (w : World) (hI : Its w w.heap.size A m c its) (hJ : Its w w.heap.size B p d bs) (hm : m ≤ 64) (hp : p ≤ 64) :
    Calls Try.prog 11 #[.slice A m c, .slice B p d] w fun e w' => ∃ A' c', e = .returned (.slice A' (minusL its bs).length c') ∧ Its w' w'.heap.size A' (minusL its bs).length c' (minusL its bs) ∧ Below w.heap.size w w' := by
  have HC : Kp _ := ⟨refminus_any A m c its B p d bs w hI hJ hm hp⟩
  clear hI hJ
  go_enter Try.func11, Try.ntmps11
  go_wp2_with fail
  refine HC.out.mono ?_
  rintro e w1 ⟨A1, c1, rfl, hI1, hb1⟩
  have HI1 : Kp _ := ⟨hI1⟩
  clear hI1
  go_wp2
  go_ret
  exact ⟨A1, c1, rfl, HI1.out, hb1⟩
theorem sameitem_eq (z : Int) (A : Option Addr) (n c : Nat) (l : List UInt8) (B : Option Addr) (m d : Nat) (w : World) (ha : Bs w w.heap.size A n c l) (hb : Bs w w.heap.size B m d l) :
    Calls Try.prog 19 #[.agg #[.int .i64 z, .slice A n c], .agg #[.int .i64 z, .slice B m d]] w fun e w' => e = .returned (.bool true) ∧ Below w.heap.size w w' := by
  have h := sameitem_any z z A n c l B m d l w ha hb
  rw [show decide ((z, l) = (z, l)) = true by simp] at h
  exact h
set_option maxRecDepth 100000 in
set_option maxHeartbeats 4000000 in
/-- two rows that read alike -/
theorem samerow_eq (A : Option Addr) (m c : Nat) (B : Option Addr) (d : Nat) (its : List Th) (w : World) (hI : Its w w.heap.size A m c its) (hJ : Its w w.heap.size B m d its) (hm : m ≤ 64) :
    Calls Try.prog 9 #[.slice A m c, .slice B m d] w fun e w' => e = .returned (.bool true) ∧ Below w.heap.size w w' := by
  have HI : Kp _ := ⟨hI⟩
  have HJ : Kp _ := ⟨hJ⟩
  have HL : Kp (its.length = m) := ⟨hI.len⟩
  clear hI hJ
  go_enter Try.func9, Try.ntmps9
  go_wp2
  go_loopg [5] m (fun gk v5 wr => ∃ i : Nat, i + gk = m ∧ v5 = .int .i64 i ∧ Kp (Below w.heap.size w wr))
  case atStart => exact ⟨0, by omega, rfl, ⟨Below.refl _ _⟩⟩
  case round =>
    obtain ⟨i, hig, rfl, HBr⟩ := hrel
    cases gk with
    | zero =>
      have hlt : ¬ ((i : Int) < (m : Int)) := by omega
      go_wp2
      go_ret
      exact ⟨rfl, HBr.out⟩
    | succ g2 =>
      have hlt : (i : Int) < (m : Int) := by omega
      have hin : i < m := by omega
      have hil : i < its.length := by rw [HL.out]; exact hin
      obtain ⟨ba, oa, A', n', c', rfl, hbl, hc1, hc2, hbs⟩ := (HI.out.below HBr.out).at hin
      obtain ⟨bb, ob, B', m', d', rfl, hbl2, hd1, hd2, hbs2⟩ := (HJ.out.below HBr.out).at hin
      obtain ⟨zz, hzz⟩ : ∃ z, z = (its[i]'hil).1 := ⟨_, rfl⟩
      obtain ⟨ll, hll⟩ : ∃ z, z = (its[i]'hil).2 := ⟨_, rfl⟩
      rw [← hzz] at hc1 hd1
      rw [← hll] at hbs hbs2
      have hwr : w.heap.size ≤ wr.heap.size := HBr.out.size
      have HBs : Kp _ := ⟨hbs.more hwr⟩
      have HBs2 : Kp _ := ⟨hbs2.more hwr⟩
      have hbw : ba < wr.heap.size := Nat.lt_of_lt_of_le hbl hwr
      have hbw2 : bb < wr.heap.size := Nat.lt_of_lt_of_le hbl2 hwr
      clear hzz hll hbs hbs2 hbl hbl2
      go_upto_region 6 with fail
      have hBS : Below wr.heap.size wr wr := Below.refl _ _
      refine wp_region_any (by kernel_rfl) ?_
      change wpAny _ _ _ _ _ _ _ wr.drew
      replace hBS := hBS.drew
      generalize wr.drew = wS at *
      refine wpAny_take (i := 0) (oi := ⟨some 17, _, _, _, _, _⟩) (v := ?_) rfl (by kernel_rfl) (by kernel_rfl) (by kernel_rfl) (fun _ _ _ h => h) (Or.inl ⟨by rfl, by intro w; go_simp; try rfl⟩) ?_
      try simp only [Act.put, List.setIfInBounds_toArray, List.set_cons_zero, List.set_cons_succ]
      refine wpAny_take (i := 1) (oi := ⟨some 18, _, _, _, _, _⟩) (v := ?_) rfl (by kernel_rfl) (by kernel_rfl) (by kernel_rfl) (fun _ _ _ h => h) (Or.inl ⟨by rfl, by intro w; go_simp; try rfl⟩) ?_
      try simp only [Act.put, List.setIfInBounds_toArray, List.set_cons_zero, List.set_cons_succ]
      refine wpAny_take (i := 2) (oi := ⟨some 19, _, _, _, _, _⟩) (v := ?_) rfl (by kernel_rfl) (by kernel_rfl) (by kernel_rfl) (fun _ _ _ h => h) (Or.inl ⟨by rfl, by intro w; go_simp; try rfl⟩) ?_
      try simp only [Act.put, List.setIfInBounds_toArray, List.set_cons_zero, List.set_cons_succ]
      refine wpAny_take (i := 4) (oi := ⟨some 21, _, _, _, _, _⟩) (v := ?_) rfl (by kernel_rfl) (by kernel_rfl) (by kernel_rfl) (fun _ _ _ h => h) (Or.inl ⟨by rfl, by intro w; go_simp; try rfl⟩) ?_
      try simp only [Act.put, List.setIfInBounds_toArray, List.set_cons_zero, List.set_cons_succ]
      refine wpAny_take (i := 5) (oi := ⟨some 22, _, _, _, _, _⟩) (v := ?_) rfl (by kernel_rfl) (by kernel_rfl) (by kernel_rfl) (fun _ _ _ h => h) (Or.inl ⟨by rfl, by intro w; go_simp; try rfl⟩) ?_
      try simp only [Act.put, List.setIfInBounds_toArray, List.set_cons_zero, List.set_cons_succ]
      refine wpAny_take (i := 6) (oi := ⟨some 23, _, _, _, _, _⟩) (v := ?_) rfl (by kernel_rfl) (by kernel_rfl) (by kernel_rfl) (fun _ _ _ h => h) (Or.inl ⟨by rfl, by intro w; go_simp; try rfl⟩) ?_
      try simp only [Act.put, List.setIfInBounds_toArray, List.set_cons_zero, List.set_cons_succ]
      refine wpAny_ready (rs := [3, 7]) (by kernel_rfl) (by simp) ?_
      refine AllReady.cons (o := ⟨some 20, _, _, _, _, _⟩) rfl (fun K hK => ?_) (AllReady.cons (o := ⟨some 24, _, _, _, _, _⟩) rfl (fun K hK => ?_) AllReady.nil)
      · have c1 := (hBS.cell (p := ⟨ba, oa + i * 2, none⟩) hbw).trans hc1
        have c2 := (hBS.cell (p := ⟨ba, oa + i * 2 + 1, none⟩) hbw).trans hc2
        go_simp
        refine hK _ _ ?_
        clear hK K c1 c2
        try simp only [Act.put, List.setIfInBounds_toArray, List.set_cons_zero, List.set_cons_succ]
        refine wpAny_ready (rs := [7]) (by kernel_rfl) (by simp) ?_
        refine AllReady.cons (o := ⟨some 24, _, _, _, _, _⟩) rfl (fun K hK => ?_) AllReady.nil
        have c1 := (hBS.cell (p := ⟨bb, ob + i * 2, none⟩) hbw2).trans hd1
        have c2 := (hBS.cell (p := ⟨bb, ob + i * 2 + 1, none⟩) hbw2).trans hd2
        go_simp
        refine hK _ _ ?_
        clear hK K c1 c2
        try simp only [Act.put, List.setIfInBounds_toArray, List.set_cons_zero, List.set_cons_succ]
        refine wpAny_ready (rs := [8]) (by kernel_rfl) (by simp) ?_
        refine AllReady.cons (o := ⟨some 25, _, _, _, _, _⟩) rfl (fun K hK => ?_) AllReady.nil
        go_simp
        refine (sameitem_eq zz A' n' c' ll B' m' d' wS ((HBs.out.below hBS).more hBS.size) ((HBs2.out.below hBS).more hBS.size)).mono ?_
        rintro e w63 ⟨rfl, hb'⟩
        refine hK _ _ ?_
        clear hK K
        try simp only [Act.put, List.setIfInBounds_toArray, List.set_cons_zero, List.set_cons_succ]
        replace hBS := hBS.trans (hb'.mono hBS.size)
        clear hb'
        refine wpAny_take (i := 9) (oi := ⟨some 26, _, _, _, _, _⟩) (v := ?_) rfl (by kernel_rfl) (by kernel_rfl) (by kernel_rfl) (fun _ _ _ h => h) (Or.inl ⟨by rfl, by intro w; go_simp; try rfl⟩) ?_
        try simp only [Act.put, List.setIfInBounds_toArray, List.set_cons_zero, List.set_cons_succ]
        refine wpAny_done (by kernel_rfl) ?_ _
        have HB9 : Kp _ := ⟨HBr.out.trans (hBS.mono hwr)⟩
        clear hBS HBr HBs HBs2 hc1 hc2 hd1 hd2
        go_wp2
        go_roundg g2
        case measure => omega
        case rel => exact ⟨i + 1, by omega, by go_num, HB9⟩
      · have c1 := (hBS.cell (p := ⟨bb, ob + i * 2, none⟩) hbw2).trans hd1
        have c2 := (hBS.cell (p := ⟨bb, ob + i * 2 + 1, none⟩) hbw2).trans hd2
        go_simp
        refine hK _ _ ?_
        clear hK K c1 c2
        try simp only [Act.put, List.setIfInBounds_toArray, List.set_cons_zero, List.set_cons_succ]
        refine wpAny_ready (rs := [3]) (by kernel_rfl) (by simp) ?_
        refine AllReady.cons (o := ⟨some 20, _, _, _, _, _⟩) rfl (fun K hK => ?_) AllReady.nil
        have c1 := (hBS.cell (p := ⟨ba, oa + i * 2, none⟩) hbw).trans hc1
        have c2 := (hBS.cell (p := ⟨ba, oa + i * 2 + 1, none⟩) hbw).trans hc2
        go_simp
        refine hK _ _ ?_
        clear hK K c1 c2
        try simp only [Act.put, List.setIfInBounds_toArray, List.set_cons_zero, List.set_cons_succ]
        refine wpAny_ready (rs := [8]) (by kernel_rfl) (by simp) ?_
        refine AllReady.cons (o := ⟨some 25, _, _, _, _, _⟩) rfl (fun K hK => ?_) AllReady.nil
        go_simp
        refine (sameitem_eq zz A' n' c' ll B' m' d' wS ((HBs.out.below hBS).more hBS.size) ((HBs2.out.below hBS).more hBS.size)).mono ?_
        rintro e w66 ⟨rfl, hb'⟩
        refine hK _ _ ?_
        clear hK K
        try simp only [Act.put, List.setIfInBounds_toArray, List.set_cons_zero, List.set_cons_succ]
        replace hBS := hBS.trans (hb'.mono hBS.size)
        clear hb'
        refine wpAny_take (i := 9) (oi := ⟨some 26, _, _, _, _, _⟩) (v := ?_) rfl (by kernel_rfl) (by kernel_rfl) (by kernel_rfl) (fun _ _ _ h => h) (Or.inl ⟨by rfl, by intro w; go_simp; try rfl⟩) ?_
        try simp only [Act.put, List.setIfInBounds_toArray, List.set_cons_zero, List.set_cons_succ]
        refine wpAny_done (by kernel_rfl) ?_ _
        have HB9 : Kp _ := ⟨HBr.out.trans (hBS.mono hwr)⟩
        clear hBS HBr HBs HBs2 hc1 hc2 hd1 hd2
        go_wp2
        go_roundg g2
        case measure => omega
        case rel => exact ⟨i + 1, by omega, by go_num, HB9⟩
set_option maxRecDepth 100000 in
set_option maxHeartbeats 4000000 in
theorem law_auditHeaps (K : Option Addr) (n c : Nat) (key : List UInt8) (I : Option Addr) (p q : Nat) (its : List Th) (B : Option Addr) (m d : Nat) (bs : List Th) (W : World)
    (hk : Bs W W.heap.size K n c key ∧ c ≤ 140737488351232) (hi : Its W W.heap.size I p q its ∧ ∀ x ∈ its, x.2.length ≤ 140737488351232) (hj : Its W W.heap.size B m d bs ∧ ∀ x ∈ bs, x.2.length ≤ 140737488351232)
    (r1 : q * 32 ≤ 140737488351232) (r2 : d * 32 ≤ 140737488351232) :
    Calls Try.prog 3 #[.slice K n c, .slice I p q, .slice B m d] W fun e w' => e = .returned (.bool true) ∧ Below W.heap.size W w' := by
  have hp0 : p ≤ 4398046510976 := by have := hi.1.cap; omega
  have hm0 : m ≤ 4398046510976 := by have := hj.1.cap; omega
  have hn0 : n ≤ 140737488351232 := by have := hk.1.cap; omega
  have HK : Kp _ := ⟨hk.1⟩
  have HI : Kp _ := ⟨hi.1⟩
  have HJ : Kp _ := ⟨hj.1⟩
  have HIb : Kp _ := ⟨hi.2⟩
  have HJb : Kp _ := ⟨hj.2⟩
  have HIl : Kp (its.length = p) := ⟨hi.1.len⟩
  have HJl : Kp (bs.length = m) := ⟨hj.1.len⟩
  clear hk hi hj r1 r2
  go_enter Try.func3, Try.ntmps3
  by_cases h1 : (100 : Int) < n
  · go_wp2_with fail
    refine (known_any _).mono ?_
    rintro e wz ⟨rfl, hz⟩
    go_wp2
    go_ret
    exact ⟨rfl, hz⟩
  have dh1 := decide_eq_false h1
  by_cases h2 : (40 : Int) < (p : Int) + (m : Int)
  · go_wp2_with fail
    refine (known_any _).mono ?_
    rintro e wz ⟨rfl, hz⟩
    go_wp2
    go_ret
    exact ⟨rfl, hz⟩
  have dh2 := decide_eq_false h2
  have hp30 : p ≤ 40 := by omega
  have hm30 : m ≤ 40 := by omega
  obtain ⟨s0, hs0⟩ : ∃ s, s = longN its := ⟨_, rfl⟩
  obtain ⟨s1, hs1⟩ : ∃ s, s = longN bs := ⟨_, rfl⟩
  have b0 : s0 ≤ 9007199254740992 := by rw [hs0]; exact longN_bound its p (by omega) HIl.out HIb.out
  have b1 : s1 ≤ 9007199254740992 := by rw [hs1]; exact longN_bound bs m (by omega) HJl.out HJb.out
  have S0 : Kp (∀ w, w = W → Calls Try.prog 7 #[.slice I p q] w fun e w' => e = .returned (.int .i64 ((s0 : Nat) : Int)) ∧ w' = w) := ⟨fun w hw => by rw [hs0, hw]; exact reflong64_any I p q its W W.heap.size HI.out (by omega) HIb.out⟩
  have S1 : Kp (∀ w, w = W → Calls Try.prog 7 #[.slice B m d] w fun e w' => e = .returned (.int .i64 ((s1 : Nat) : Int)) ∧ w' = w) := ⟨fun w hw => by rw [hs1, hw]; exact reflong64_any B m d bs W W.heap.size HJ.out (by omega) HJb.out⟩
  have HMi : Kp (∀ x ∈ its, x.2.length < s0) := ⟨by rw [hs0]; exact longN_mem its⟩
  have HMj : Kp (∀ x ∈ bs, x.2.length < s1) := ⟨by rw [hs1]; exact longN_mem bs⟩
  clear hs0 hs1 HIb HJb
  go_wp2_with fail
  refine (S0.out W rfl).mono ?_
  rintro e w1 ⟨rfl, rfl⟩
  go_wp2_with fail
  refine (S1.out w1 rfl).mono ?_
  rintro e w0 ⟨rfl, rfl⟩
  clear S0 S1
  by_cases h3 : (1200 : Int) < (s0 : Int) + (s1 : Int)
  · go_wp2_with fail
    refine (known_any _).mono ?_
    rintro e wz ⟨rfl, hz⟩
    go_wp2
    go_ret
    exact ⟨rfl, hz⟩
  have dh3 := decide_eq_false h3
  have HI4 : Kp (∀ x ∈ its, x.2.length ≤ 523000) := ⟨fun x hx => by have := HMi.out x hx; omega⟩
  have HJ4 : Kp (∀ x ∈ bs, x.2.length ≤ 523000) := ⟨fun x hx => by have := HMj.out x hx; omega⟩
  have HIq : Kp (∀ x ∈ its, x.2.length ≤ 4294967296) := ⟨fun x hx => by have := HI4.out x hx; omega⟩
  have HIx : Kp (∀ w, Below w0.heap.size w0 w → Its w w.heap.size I p q its) := ⟨fun w hw => HI.out.next hw (Nat.le_refl _)⟩
  have HJx : Kp (∀ w, Below w0.heap.size w0 w → Its w w.heap.size B m d bs) := ⟨fun w hw => HJ.out.next hw (Nat.le_refl _)⟩
  have HKx : Kp (∀ w, Below w0.heap.size w0 w → Bs w w.heap.size K n c key) := ⟨fun w hw => HK.out.next hw (Nat.le_refl _)⟩
  obtain ⟨r, hr⟩ : ∃ r, r = (minusL its bs).length := ⟨_, rfl⟩
  have HR : Kp (r = (minusL its bs).length) := ⟨hr⟩
  have hr40 : r ≤ 40 := by have h := (minus_lengths its bs).1; rw [← hr, HIl.out] at h; omega
  obtain ⟨s, hs⟩ : ∃ s, s = sameL its bs := ⟨_, rfl⟩
  have HS : Kp (s = sameL its bs) := ⟨hs⟩
  obtain ⟨t, ht⟩ : ∃ s, s = collL key its bs := ⟨_, rfl⟩
  have HT : Kp (t = collL key its bs) := ⟨ht⟩
  clear hr hs ht HMi HMj b0 b1 HI HJ HK
  go_wp2_with fail
  refine (minus_any I p q its B m d bs w0 (HIx.out w0 (Below.refl _ _)) (HJx.out w0 (Below.refl _ _)) (by omega) (by omega) HIq.out).mono ?_
  rw [← HR.out]
  rintro e x1 ⟨A1, c1, rfl, hI1, hx1⟩
  have HI1 : Kp _ := ⟨hI1⟩
  clear hI1
  go_wp2_with fail
  refine (ref10minus_any I p q its B m d bs x1 (HIx.out x1 hx1) (HJx.out x1 hx1) (by omega) (by omega)).mono ?_
  rw [← HR.out]
  rintro e x2 ⟨A2, c2, rfl, hI2, hx2'⟩
  have HI2 : Kp _ := ⟨hI2⟩
  have HI12 : Kp _ := ⟨HI1.out.next hx2' (Nat.le_refl _)⟩
  have hx2 := hx1.trans (hx2'.mono hx1.size)
  clear hI2 hx2' hx1 HI1
  go_wp2_with fail
  refine (samerow_eq A1 r c1 A2 c2 (minusL its bs) x2 HI12.out HI2.out (by omega)).mono ?_
  rintro e x3 ⟨rfl, hx3'⟩
  have hx3 := hx2.trans (hx3'.mono hx2.size)
  clear hx3' hx2 HI12 HI2
  go_wp2_with fail
  refine (same_any I p q its B m d bs x3 (HIx.out x3 hx3) (HJx.out x3 hx3) (by omega) (by omega) HIq.out).mono ?_
  rw [← HS.out]
  rintro e x4 ⟨rfl, hx4'⟩
  have hx4 := hx3.trans (hx4'.mono hx3.size)
  clear hx4' hx3
  go_wp2_with fail
  refine (ref10same_any I p q its B m d bs x4 (HIx.out x4 hx4) (HJx.out x4 hx4) (by omega) (by omega)).mono ?_
  rw [← HS.out]
  rintro e x5 ⟨rfl, hx5'⟩
  have hx5 := hx4.trans (hx5'.mono hx4.size)
  clear hx5' hx4
  go_wp2_with fail
  refine (coll_any K n c key I p q its B m d bs x5 (HKx.out x5 hx5) (HIx.out x5 hx5) (HJx.out x5 hx5) (by omega) (by omega) (by omega) HI4.out HJ4.out).mono ?_
  rw [← HT.out]
  rintro e x6 ⟨rfl, hx6'⟩
  have hx6 := hx5.trans (hx6'.mono hx5.size)
  clear hx6' hx5
  go_wp2_with fail
  refine (ref10coll_any K n c key I p q its B m d bs x6 (HKx.out x6 hx6) (HIx.out x6 hx6) (HJx.out x6 hx6) (by omega) (by omega) (by omega) HI4.out HJ4.out).mono ?_
  rw [← HT.out]
  rintro e x7 ⟨rfl, hx7'⟩
  have hx7 := hx6.trans (hx7'.mono hx6.size)
  clear hx7' hx6
  go_wp2_with fail
  refine (known_any _).mono ?_
  rintro e wz ⟨rfl, hz⟩
  have hBz := hx7.trans (hz.mono hx7.size)
  clear hz hx7
  go_wp2
  go_ret
  exact ⟨rfl, hBz⟩
end Go.Proofs.Ythpfiieaanioeaa
