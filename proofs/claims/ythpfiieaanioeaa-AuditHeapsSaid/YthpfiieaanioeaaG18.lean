/- The document's SameItem, count, Minus, SameHeap, and whether two rows are the same. -/
import Derived.Test.YthpfiieaanioeaaG17
import Derived.Test.YthpfiieaanioeaaG16
import Derived.Deep.CutRange
namespace Go.Proofs.Ythpfiieaanioeaa
open Go.RowKit

set_option maxRecDepth 100000 in
set_option maxHeartbeats 1000000 in
theorem sameitem_any (z y : Int) (A : Option Addr) (n c : Nat) (l : List UInt8) (B : Option Addr) (m d : Nat) (b : List UInt8) (w : World) (ha : Bs w w.heap.size A n c l) (hb : Bs w w.heap.size B m d b) :
    Calls Try.prog 19 #[.agg #[.int .i64 z, .slice A n c], .agg #[.int .i64 y, .slice B m d]] w fun e w' => e = .returned (.bool (decide ((z, l) = (y, b)))) ∧ Below w.heap.size w w' := by
  have hb1 : Below w.heap.size w (w.alloc (.cells #[.int .i64 z, .slice A n c] 30)) := (Below.refl _ _).alloc (Nat.le_refl _) _
  have hb2 : Below w.heap.size w ((w.alloc (.cells #[.int .i64 z, .slice A n c] 30)).alloc (.cells #[.int .i64 y, .slice B m d] 30)) := hb1.alloc (by simp) _
  have k1 := (Blk.new w 30 [.int .i64 z, .slice A n c]).alloc (.cells #[.int .i64 y, .slice B m d] 30)
  have k2 := Blk.new (w.alloc (.cells #[.int .i64 z, .slice A n c] 30)) 30 [.int .i64 y, .slice B m d]
  have e1 := (ha.below hb2).text Try.underlying22 Try.underlying5 Try.underlying9
  have e2 := (hb.below hb2).text Try.underlying22 Try.underlying5 Try.underlying9
  have c0 : ((w.alloc (.cells #[.int .i64 z, .slice A n c] 30)).alloc (.cells #[.int .i64 y, .slice B m d] 30)).cell? ⟨w.heap.size, 0, none⟩ = some (.int .i64 z) := k1.cell? 0
  have c1 : ((w.alloc (.cells #[.int .i64 z, .slice A n c] 30)).alloc (.cells #[.int .i64 y, .slice B m d] 30)).cell? ⟨w.heap.size, 1, none⟩ = some (.slice A n c) := k1.cell? 1
  have d0 : ((w.alloc (.cells #[.int .i64 z, .slice A n c] 30)).alloc (.cells #[.int .i64 y, .slice B m d] 30)).cell? ⟨w.heap.size + 1, 0, none⟩ = some (.int .i64 y) := by have h := k2.cell? 0; rw [World.size_alloc] at h; exact h
  have d1 : ((w.alloc (.cells #[.int .i64 z, .slice A n c] 30)).alloc (.cells #[.int .i64 y, .slice B m d] 30)).cell? ⟨w.heap.size + 1, 1, none⟩ = some (.slice B m d) := by have h := k2.cell? 1; rw [World.size_alloc] at h; exact h
  clear ha hb hb1 k1 k2
  by_cases hz : z = y
  · subst hz
    by_cases hl : l = b
    · subst hl
      go_enter Try.func19, Try.ntmps19
      go_wp2
      go_ret
      exact ⟨by simp, hb2⟩
    · have hne : (l == b) = false := beq_eq_false_iff_ne.2 hl
      have HL9 : Kp _ := ⟨hl⟩
      clear hl
      go_enter Try.func19, Try.ntmps19
      go_wp2
      go_ret
      exact ⟨by simp [HL9.out], hb2⟩
  · have HE : Kp (decide ((z, l) = (y, b)) = false) := ⟨by simp [hz]⟩
    have hz2 : (z == y) = false := beq_eq_false_iff_ne.2 hz
    clear e1 e2
    go_enter Try.func19, Try.ntmps19
    go_wp2
    go_ret
    exact ⟨by rw [HE.out]; rfl, hb2⟩
set_option maxRecDepth 100000 in
set_option maxHeartbeats 4000000 in
theorem count_any (A : Option Addr) (m c : Nat) (its : List Th) (k : Nat) (y : Int) (B : Option Addr) (n d : Nat) (b : List UInt8) (w : World) (hI : Its w w.heap.size A m c its) (hB : Bs w w.heap.size B n d b) (hk : k ≤ m) (hm : m ≤ 64) :
    Calls Try.prog 33 #[.slice A m c, .int .i64 k, .agg #[.int .i64 y, .slice B n d]] w fun e w' => e = .returned (.int .i64 ((cntL (its.take k) (y, b) : Nat) : Int)) ∧ Below w.heap.size w w' := by
  have HI : Kp _ := ⟨hI⟩
  have HB : Kp _ := ⟨hB⟩
  have HL : Kp (its.length = m) := ⟨hI.len⟩
  clear hI hB
  go_enter Try.func33, Try.ntmps33
  go_upto_region 1 with fail
  have hg0 : Blk (w.alloc (.cells #[.int .i64 y, .slice B n d] 30)) w.heap.size 30 [.int .i64 y, .slice B n d] := Blk.new _ _ _
  have hb0 : Below w.heap.size w (w.alloc (.cells #[.int .i64 y, .slice B n d] 30)) := (Below.refl _ _).alloc (Nat.le_refl _) _
  generalize w.alloc (.cells #[.int .i64 y, .slice B n d] 30) = w0 at *
  have HG : Kp _ := ⟨hg0⟩
  clear hg0
  go_wp2
  go_loopg [7, 8] k (fun gk v7 v8 wr => ∃ i : Nat, i + gk = k ∧ v8 = .int .i64 i ∧ v7 = .int .i64 ((cntL (its.take i) (y, b) : Nat) : Int) ∧ Kp (Below w0.heap.size w0 wr))
  case atStart => exact ⟨0, by omega, rfl, rfl, ⟨Below.refl _ _⟩⟩
  case round =>
    obtain ⟨i, hi, rfl, rfl, HBr⟩ := hrel
    cases gk with
    | zero =>
      have hlt : ¬ ((i : Int) < (k : Int)) := by omega
      have HE : Kp (i = k) := ⟨by omega⟩
      go_wp2
      go_ret
      exact ⟨by rw [← HE.out]; rfl, hb0.trans (HBr.out.mono hb0.size)⟩
    | succ g2 =>
      have hlt : (i : Int) < (k : Int) := by omega
      have hin : i < m := by omega
      have hil : i < its.length := by rw [HL.out]; exact hin
      obtain ⟨x, hx⟩ : ∃ x, x = cntL (its.take i) (y, b) := ⟨_, rfl⟩
      have hxi : x ≤ 64 := by rw [hx]; have := cntL_le (its.take i) (y, b); rw [List.length_take] at this; omega
      have HNx : Kp (cntL (its.take (i + 1)) (y, b) = x + if its[i]'hil = (y, b) then 1 else 0) := ⟨by rw [cntL_take its i hil, hx]⟩
      have hBw : Below w.heap.size w wr := hb0.trans (HBr.out.mono hb0.size)
      obtain ⟨ba, oa, A', n', c', rfl, hbl, hc1, hc2, hbs⟩ := (HI.out.below hBw).at hin
      obtain ⟨zz, hzz⟩ : ∃ z, z = (its[i]'hil).1 := ⟨_, rfl⟩
      obtain ⟨ll, hll⟩ : ∃ z, z = (its[i]'hil).2 := ⟨_, rfl⟩
      have HZ : Kp (its[i]'hil = (zz, ll)) := ⟨by rw [hzz, hll]⟩
      rw [← hzz] at hc1
      rw [← hll] at hbs
      have HBs : Kp _ := ⟨hbs.more hBw.size⟩
      have HBb : Kp (Bs wr wr.heap.size B n d b) := ⟨(HB.out.below hBw).more hBw.size⟩
      have HGr : Kp _ := ⟨HG.out.below HBr.out HG.out.lt⟩
      have hbw : ba < wr.heap.size := Nat.lt_of_lt_of_le hbl hBw.size
      rw [← hx]
      clear hzz hll hbs hx hBw
      obtain ⟨q, hq⟩ : ∃ q, q = decide ((zz, ll) = (y, b)) := ⟨_, rfl⟩
      have HQ : Kp (decide ((zz, ll) = (y, b)) = q) := ⟨hq.symm⟩
      have HNy : Kp (cntL (its.take (i + 1)) (y, b) = x + if q then 1 else 0) := ⟨by rw [HNx.out, HZ.out, hq]; simp⟩
      clear hq HNx HZ
      go_upto_region 5 with fail
      go_cut [19] from 14 to 18 (fun v19 wx => v19 = .bool q ∧ Kp (Below wr.heap.size wr wx))
      case first =>
        go_wp2_with fail
        have hBS : Below wr.heap.size wr wr := Below.refl _ _
        refine wp_region_any (by kernel_rfl) ?_
        change wpAny _ _ _ _ _ _ _ wr.drew
        replace HGr : Kp _ := ⟨HGr.out.drew⟩
        replace hBS := hBS.drew
        generalize wr.drew = wS at *
        refine wpAny_take (i := 0) (oi := ⟨some 14, _, _, _, _, _⟩) (v := ?_) rfl (by kernel_rfl) (by kernel_rfl) (by kernel_rfl) (fun _ _ _ h => h) (Or.inl ⟨by rfl, by intro w; go_simp; try rfl⟩) ?_
        try simp only [Act.put, List.setIfInBounds_toArray, List.set_cons_zero, List.set_cons_succ]
        refine wpAny_take (i := 1) (oi := ⟨some 15, _, _, _, _, _⟩) (v := ?_) rfl (by kernel_rfl) (by kernel_rfl) (by kernel_rfl) (fun _ _ _ h => h) (Or.inl ⟨by rfl, by intro w; go_simp; try rfl⟩) ?_
        try simp only [Act.put, List.setIfInBounds_toArray, List.set_cons_zero, List.set_cons_succ]
        refine wpAny_take (i := 2) (oi := ⟨some 16, _, _, _, _, _⟩) (v := ?_) rfl (by kernel_rfl) (by kernel_rfl) (by kernel_rfl) (fun _ _ _ h => h) (Or.inl ⟨by rfl, by intro w; go_simp; try rfl⟩) ?_
        try simp only [Act.put, List.setIfInBounds_toArray, List.set_cons_zero, List.set_cons_succ]
        refine wpAny_ready (rs := [3, 4]) (by kernel_rfl) (by simp) ?_
        refine AllReady.cons (o := ⟨some 17, _, _, _, _, _⟩) rfl (fun K hK => ?_) (AllReady.cons (o := ⟨some 18, _, _, _, _, _⟩) rfl (fun K hK => ?_) AllReady.nil)
        · have c1 := (hBS.cell (p := ⟨ba, oa + i * 2, none⟩) hbw).trans hc1
          have c2 := (hBS.cell (p := ⟨ba, oa + i * 2 + 1, none⟩) hbw).trans hc2
          go_simp
          refine hK _ _ ?_
          clear hK K c1 c2
          try simp only [Act.put, List.setIfInBounds_toArray, List.set_cons_zero, List.set_cons_succ]
          refine wpAny_ready (rs := [4]) (by kernel_rfl) (by simp) ?_
          refine AllReady.cons (o := ⟨some 18, _, _, _, _, _⟩) rfl (fun K hK => ?_) AllReady.nil
          refine step_load rwIt rfl (.tmp 5) rfl rfl HGr.out (fit_all32 (n := 2) rfl) (take_all32 (n := 2) rfl) ?_
          refine hK _ _ ?_
          clear hK K
          try simp only [Act.put, List.setIfInBounds_toArray, List.set_cons_zero, List.set_cons_succ]
          refine wpAny_ready (rs := [5]) (by kernel_rfl) (by simp) ?_
          refine AllReady.cons (o := ⟨some 19, _, _, _, _, _⟩) rfl (fun K hK => ?_) AllReady.nil
          go_simp
          refine (sameitem_any zz y A' n' c' ll B n d b wS ((HBs.out.below hBS).more hBS.size) ((HBb.out.below hBS).more hBS.size)).mono ?_
          rintro e w62 ⟨rfl, hb'⟩
          refine hK _ _ ?_
          clear hK K
          try simp only [Act.put, List.setIfInBounds_toArray, List.set_cons_zero, List.set_cons_succ]
          replace HGr : Kp _ := ⟨HGr.out.below hb' HGr.out.lt⟩
          replace hBS := hBS.trans (hb'.mono hBS.size)
          clear hb'
          refine wpAny_done (by kernel_rfl) ?_ _
          rw [HQ.out]
          have HB9 : Kp _ := ⟨hBS⟩
          clear hBS
          go_wp2_with fail
          go_meet
          case rel => exact ⟨rfl, HB9⟩
        · refine step_load rwIt rfl (.tmp 5) rfl rfl HGr.out (fit_all32 (n := 2) rfl) (take_all32 (n := 2) rfl) ?_
          refine hK _ _ ?_
          clear hK K
          try simp only [Act.put, List.setIfInBounds_toArray, List.set_cons_zero, List.set_cons_succ]
          refine wpAny_ready (rs := [3]) (by kernel_rfl) (by simp) ?_
          refine AllReady.cons (o := ⟨some 17, _, _, _, _, _⟩) rfl (fun K hK => ?_) AllReady.nil
          have c1 := (hBS.cell (p := ⟨ba, oa + i * 2, none⟩) hbw).trans hc1
          have c2 := (hBS.cell (p := ⟨ba, oa + i * 2 + 1, none⟩) hbw).trans hc2
          go_simp
          refine hK _ _ ?_
          clear hK K c1 c2
          try simp only [Act.put, List.setIfInBounds_toArray, List.set_cons_zero, List.set_cons_succ]
          refine wpAny_ready (rs := [5]) (by kernel_rfl) (by simp) ?_
          refine AllReady.cons (o := ⟨some 19, _, _, _, _, _⟩) rfl (fun K hK => ?_) AllReady.nil
          go_simp
          refine (sameitem_any zz y A' n' c' ll B n d b wS ((HBs.out.below hBS).more hBS.size) ((HBb.out.below hBS).more hBS.size)).mono ?_
          rintro e w64 ⟨rfl, hb'⟩
          refine hK _ _ ?_
          clear hK K
          try simp only [Act.put, List.setIfInBounds_toArray, List.set_cons_zero, List.set_cons_succ]
          replace HGr : Kp _ := ⟨HGr.out.below hb' HGr.out.lt⟩
          replace hBS := hBS.trans (hb'.mono hBS.size)
          clear hb'
          refine wpAny_done (by kernel_rfl) ?_ _
          rw [HQ.out]
          have HB9 : Kp _ := ⟨hBS⟩
          clear hBS
          go_wp2_with fail
          go_meet
          case rel => exact ⟨rfl, HB9⟩
      case rest =>
        obtain ⟨rfl, HBx⟩ := hcut
        have HB9 : Kp (Below w0.heap.size w0 wc) := ⟨HBr.out.trans (HBx.out.mono HBr.out.size)⟩
        clear HBx HBr hc1 hc2 HGr HBs HBb
        cases q with
        | true =>
          go_wp2
          go_roundg g2
          case measure => omega
          case rel => exact ⟨i + 1, by omega, by go_num, by rw [HNy.out]; go_num, HB9⟩
        | false =>
          go_wp2
          go_roundg g2
          case measure => omega
          case rel => exact ⟨i + 1, by omega, by go_num, by rw [HNy.out]; rfl, HB9⟩
set_option maxRecDepth 100000 in
set_option maxHeartbeats 4000000 in
theorem refminus_any (A : Option Addr) (m c : Nat) (its : List Th) (B : Option Addr) (p d : Nat) (bs : List Th) (w : World) (hI : Its w w.heap.size A m c its) (hJ : Its w w.heap.size B p d bs) (hm : m ≤ 64) (hp : p ≤ 64) :
    Calls Try.prog 22 #[.slice A m c, .slice B p d] w fun e w' => ∃ A' c', e = .returned (.slice A' (minusL its bs).length c') ∧ Its w' w'.heap.size A' (minusL its bs).length c' (minusL its bs) ∧ Below w.heap.size w w' := by
  have HI : Kp _ := ⟨hI⟩
  have HJ : Kp _ := ⟨hJ⟩
  have HL : Kp (its.length = m) := ⟨hI.len⟩
  have HL2 : Kp (bs.length = p) := ⟨hJ.len⟩
  have HD : Kp _ := ⟨refP_done its bs⟩
  obtain ⟨inf, hi, hi0, hi2, hi32⟩ := item_info
  clear hI hJ
  go_enter Try.func22, Try.ntmps22
  go_wp2
  go_loopg [5, 6] m (fun gk v5 v6 wr => ∃ i : Nat, i + gk = m ∧ v6 = .int .i64 i ∧ Kp (∃ L, wr.ownsRow w.heap.size 30 2 v5 (refP its bs i).length (hdCells L) ∧ Leads wr w.heap.size L (refP its bs i)) ∧ Kp ((refP its bs i).length ≤ i) ∧ Kp (Below w.heap.size w wr))
  case atStart => exact ⟨0, by omega, rfl, ⟨[], own2_nil _ _ _, Leads.nil _ _⟩, ⟨Nat.le_refl _⟩, ⟨Below.refl _ _⟩⟩
  case round =>
    obtain ⟨i, hig, rfl, HO, HPl, HBr⟩ := hrel
    cases gk with
    | zero =>
      have hlt : ¬ ((i : Int) < (m : Int)) := by omega
      have HE : Kp (i = m) := ⟨by omega⟩
      go_wp2
      go_ret
      obtain ⟨L, hown, hL⟩ := HO.out
      rw [HE.out, ← HL.out, HD.out] at hown hL
      obtain ⟨A', c', rfl, hits⟩ := Its.of_own hown hL HBr.out.size
      exact ⟨A', c', rfl, hits, HBr.out⟩
    | succ g2 =>
      have hlt : (i : Int) < (m : Int) := by omega
      have hin : i < m := by omega
      have hil : i < its.length := by rw [HL.out]; exact hin
      obtain ⟨ba, oa, A', n', c', rfl, hbl, hc1, hc2, hbs⟩ := (HI.out.below HBr.out).at hin
      obtain ⟨zz, hzz⟩ : ∃ z, z = (its[i]'hil).1 := ⟨_, rfl⟩
      obtain ⟨ll, hll⟩ : ∃ z, z = (its[i]'hil).2 := ⟨_, rfl⟩
      have HZ : Kp (its[i]'hil = (zz, ll)) := ⟨by rw [hzz, hll]⟩
      have HZw : Kp ((Lit.int .i64 zz).wf = true) := ⟨by rw [hzz]; exact HI.out.wf _ (List.getElem_mem hil)⟩
      rw [← hzz] at hc1
      rw [← hll] at hbs
      have hwr : w.heap.size ≤ wr.heap.size := HBr.out.size
      have HBs : Kp _ := ⟨hbs⟩
      have hbw : ba < wr.heap.size := Nat.lt_of_lt_of_le hbl hwr
      obtain ⟨x1, hx1⟩ : ∃ x, x = cntL (its.take i) (zz, ll) := ⟨_, rfl⟩
      obtain ⟨x2, hx2⟩ : ∃ x, x = cntL bs (zz, ll) := ⟨_, rfl⟩
      have CA : Kp (∀ W, Below wr.heap.size wr W → Calls Try.prog 33 #[.slice (some ⟨ba, oa, none⟩) m c, .int .i64 i, .agg #[.int .i64 zz, .slice A' n' c']] W fun e w' => e = .returned (.int .i64 ((x1 : Nat) : Int)) ∧ Below W.heap.size W w') := ⟨fun W hW => by
        have hb := HBr.out.trans (hW.mono hwr)
        rw [hx1]
        exact count_any _ m c its i zz A' n' c' ll W ((HI.out.below hb).more hb.size) ((HBs.out.below (hW.mono hwr)).more hb.size) (by omega) hm⟩
      have CB : Kp (∀ W, Below wr.heap.size wr W → Calls Try.prog 33 #[.slice B p d, .int .i64 p, .agg #[.int .i64 zz, .slice A' n' c']] W fun e w' => e = .returned (.int .i64 ((x2 : Nat) : Int)) ∧ Below W.heap.size W w') := ⟨fun W hW => by
        have hb := HBr.out.trans (hW.mono hwr)
        have h := count_any B p d bs p zz A' n' c' ll W ((HJ.out.below hb).more hb.size) ((HBs.out.below (hW.mono hwr)).more hb.size) (Nat.le_refl _) hp
        rw [List.take_of_length_le (by rw [HL2.out]; exact Nat.le_refl _), ← hx2] at h
        exact h⟩
      have HNx : Kp (refP its bs (i + 1) = refP its bs i ++ if x2 ≤ x1 then [(zz, ll)] else []) := ⟨by rw [refP_next its bs i hil, HZ.out, hx1, hx2]⟩
      clear hzz hll hbs hx1 hx2 HZ hbl
      by_cases hle : x2 ≤ x1
      · have HNy : Kp (refP its bs (i + 1) = refP its bs i ++ [(zz, ll)]) := ⟨by rw [HNx.out, if_pos hle]⟩
        have hleI : (x2 : Int) ≤ (x1 : Int) := by omega
        clear HNx
        go_upto_region 5 with fail
        go_cut [28] from 13 to 27 (fun v28 wx => v28 = .bool true ∧ Kp (Below wr.heap.size wr wx))
        case first =>
          go_wp2_with fail
          have hBS : Below wr.heap.size wr wr := Below.refl _ _
          refine wp_region_any (by kernel_rfl) ?_
          change wpAny _ _ _ _ _ _ _ wr.drew
          replace hBS := hBS.drew
          generalize wr.drew = wS at *
          refine wpAny_take (i := 0) (oi := ⟨some 13, _, _, _, _, _⟩) (v := ?_) rfl (by kernel_rfl) (by kernel_rfl) (by kernel_rfl) (fun _ _ _ h => h) (Or.inl ⟨by rfl, by intro w; go_simp; try rfl⟩) ?_
          try simp only [Act.put, List.setIfInBounds_toArray, List.set_cons_zero, List.set_cons_succ]
          refine wpAny_take (i := 1) (oi := ⟨some 14, _, _, _, _, _⟩) (v := ?_) rfl (by kernel_rfl) (by kernel_rfl) (by kernel_rfl) (fun _ _ _ h => h) (Or.inl ⟨by rfl, by intro w; go_simp; try rfl⟩) ?_
          try simp only [Act.put, List.setIfInBounds_toArray, List.set_cons_zero, List.set_cons_succ]
          refine wpAny_take (i := 2) (oi := ⟨some 15, _, _, _, _, _⟩) (v := ?_) rfl (by kernel_rfl) (by kernel_rfl) (by kernel_rfl) (fun _ _ _ h => h) (Or.inl ⟨by rfl, by intro w; go_simp; try rfl⟩) ?_
          try simp only [Act.put, List.setIfInBounds_toArray, List.set_cons_zero, List.set_cons_succ]
          refine wpAny_take (i := 3) (oi := ⟨some 16, _, _, _, _, _⟩) (v := ?_) rfl (by kernel_rfl) (by kernel_rfl) (by kernel_rfl) (fun _ _ _ h => h) (Or.inl ⟨by rfl, by intro w; go_simp; try rfl⟩) ?_
          try simp only [Act.put, List.setIfInBounds_toArray, List.set_cons_zero, List.set_cons_succ]
          refine wpAny_take (i := 4) (oi := ⟨some 17, _, _, _, _, _⟩) (v := ?_) rfl (by kernel_rfl) (by kernel_rfl) (by kernel_rfl) (fun _ _ _ h => h) (Or.inl ⟨by rfl, by intro w; go_simp; try rfl⟩) ?_
          try simp only [Act.put, List.setIfInBounds_toArray, List.set_cons_zero, List.set_cons_succ]
          refine wpAny_take (i := 7) (oi := ⟨some 20, _, _, _, _, _⟩) (v := ?_) rfl (by kernel_rfl) (by kernel_rfl) (by kernel_rfl) (fun _ _ _ h => h) (Or.inl ⟨by rfl, by intro w; go_simp; try rfl⟩) ?_
          try simp only [Act.put, List.setIfInBounds_toArray, List.set_cons_zero, List.set_cons_succ]
          refine wpAny_take (i := 8) (oi := ⟨some 21, _, _, _, _, _⟩) (v := ?_) rfl (by kernel_rfl) (by kernel_rfl) (by kernel_rfl) (fun _ _ _ h => h) (Or.inl ⟨by rfl, by intro w; go_simp; try rfl⟩) ?_
          try simp only [Act.put, List.setIfInBounds_toArray, List.set_cons_zero, List.set_cons_succ]
          refine wpAny_take (i := 9) (oi := ⟨some 22, _, _, _, _, _⟩) (v := ?_) rfl (by kernel_rfl) (by kernel_rfl) (by kernel_rfl) (fun _ _ _ h => h) (Or.inl ⟨by rfl, by intro w; go_simp; try rfl⟩) ?_
          try simp only [Act.put, List.setIfInBounds_toArray, List.set_cons_zero, List.set_cons_succ]
          refine wpAny_take (i := 10) (oi := ⟨some 23, _, _, _, _, _⟩) (v := ?_) rfl (by kernel_rfl) (by kernel_rfl) (by kernel_rfl) (fun _ _ _ h => h) (Or.inl ⟨by rfl, by intro w; go_simp; try rfl⟩) ?_
          try simp only [Act.put, List.setIfInBounds_toArray, List.set_cons_zero, List.set_cons_succ]
          refine wpAny_take (i := 11) (oi := ⟨some 24, _, _, _, _, _⟩) (v := ?_) rfl (by kernel_rfl) (by kernel_rfl) (by kernel_rfl) (fun _ _ _ h => h) (Or.inl ⟨by rfl, by intro w; go_simp; try rfl⟩) ?_
          try simp only [Act.put, List.setIfInBounds_toArray, List.set_cons_zero, List.set_cons_succ]
          refine wpAny_take (i := 12) (oi := ⟨some 25, _, _, _, _, _⟩) (v := ?_) rfl (by kernel_rfl) (by kernel_rfl) (by kernel_rfl) (fun _ _ _ h => h) (Or.inl ⟨by rfl, by intro w; go_simp; try rfl⟩) ?_
          try simp only [Act.put, List.setIfInBounds_toArray, List.set_cons_zero, List.set_cons_succ]
          refine wpAny_ready (rs := [5, 13]) (by kernel_rfl) (by simp) ?_
          refine AllReady.cons (o := ⟨some 18, _, _, _, _, _⟩) rfl (fun K hK => ?_) (AllReady.cons (o := ⟨some 26, _, _, _, _, _⟩) rfl (fun K hK => ?_) AllReady.nil)
          · have c1 := (hBS.cell (p := ⟨ba, oa + i * 2, none⟩) hbw).trans hc1
            have c2 := (hBS.cell (p := ⟨ba, oa + i * 2 + 1, none⟩) hbw).trans hc2
            go_simp
            refine hK _ _ ?_
            clear hK K c1 c2
            try simp only [Act.put, List.setIfInBounds_toArray, List.set_cons_zero, List.set_cons_succ]
            refine wpAny_ready (rs := [6, 13]) (by kernel_rfl) (by simp) ?_
            refine AllReady.cons (o := ⟨some 19, _, _, _, _, _⟩) rfl (fun K hK => ?_) (AllReady.cons (o := ⟨some 26, _, _, _, _, _⟩) rfl (fun K hK => ?_) AllReady.nil)
            · go_simp
              refine (CA.out wS hBS).mono ?_
              rintro e w62 ⟨rfl, hb'⟩
              refine hK _ _ ?_
              clear hK K
              try simp only [Act.put, List.setIfInBounds_toArray, List.set_cons_zero, List.set_cons_succ]
              replace hBS := hBS.trans (hb'.mono hBS.size)
              clear hb'
              refine wpAny_ready (rs := [13]) (by kernel_rfl) (by simp) ?_
              refine AllReady.cons (o := ⟨some 26, _, _, _, _, _⟩) rfl (fun K hK => ?_) AllReady.nil
              have c1 := (hBS.cell (p := ⟨ba, oa + i * 2, none⟩) hbw).trans hc1
              have c2 := (hBS.cell (p := ⟨ba, oa + i * 2 + 1, none⟩) hbw).trans hc2
              go_simp
              refine hK _ _ ?_
              clear hK K c1 c2
              try simp only [Act.put, List.setIfInBounds_toArray, List.set_cons_zero, List.set_cons_succ]
              refine wpAny_ready (rs := [14]) (by kernel_rfl) (by simp) ?_
              refine AllReady.cons (o := ⟨some 27, _, _, _, _, _⟩) rfl (fun K hK => ?_) AllReady.nil
              go_simp
              refine (CB.out w62 hBS).mono ?_
              rintro e w64 ⟨rfl, hb'⟩
              refine hK _ _ ?_
              clear hK K
              try simp only [Act.put, List.setIfInBounds_toArray, List.set_cons_zero, List.set_cons_succ]
              replace hBS := hBS.trans (hb'.mono hBS.size)
              clear hb'
              refine wpAny_take (i := 15) (oi := ⟨some 28, _, _, _, _, _⟩) (v := ?_) rfl (by kernel_rfl) (by kernel_rfl) (by kernel_rfl) (fun _ _ _ h => h) (Or.inl ⟨by rfl, by intro w; go_simp; try rfl⟩) ?_
              try simp only [Act.put, List.setIfInBounds_toArray, List.set_cons_zero, List.set_cons_succ]
              refine wpAny_done (by kernel_rfl) ?_ _
              have HB9 : Kp _ := ⟨hBS⟩
              clear hBS
              go_wp2_with fail
              go_meet
              case rel => exact ⟨rfl, HB9⟩
            · have c1 := (hBS.cell (p := ⟨ba, oa + i * 2, none⟩) hbw).trans hc1
              have c2 := (hBS.cell (p := ⟨ba, oa + i * 2 + 1, none⟩) hbw).trans hc2
              go_simp
              refine hK _ _ ?_
              clear hK K c1 c2
              try simp only [Act.put, List.setIfInBounds_toArray, List.set_cons_zero, List.set_cons_succ]
              refine wpAny_ready (rs := [6]) (by kernel_rfl) (by simp) ?_
              refine AllReady.cons (o := ⟨some 19, _, _, _, _, _⟩) rfl (fun K hK => ?_) AllReady.nil
              go_simp
              refine (CA.out wS hBS).mono ?_
              rintro e w66 ⟨rfl, hb'⟩
              refine hK _ _ ?_
              clear hK K
              try simp only [Act.put, List.setIfInBounds_toArray, List.set_cons_zero, List.set_cons_succ]
              replace hBS := hBS.trans (hb'.mono hBS.size)
              clear hb'
              refine wpAny_ready (rs := [14]) (by kernel_rfl) (by simp) ?_
              refine AllReady.cons (o := ⟨some 27, _, _, _, _, _⟩) rfl (fun K hK => ?_) AllReady.nil
              go_simp
              refine (CB.out w66 hBS).mono ?_
              rintro e w67 ⟨rfl, hb'⟩
              refine hK _ _ ?_
              clear hK K
              try simp only [Act.put, List.setIfInBounds_toArray, List.set_cons_zero, List.set_cons_succ]
              replace hBS := hBS.trans (hb'.mono hBS.size)
              clear hb'
              refine wpAny_take (i := 15) (oi := ⟨some 28, _, _, _, _, _⟩) (v := ?_) rfl (by kernel_rfl) (by kernel_rfl) (by kernel_rfl) (fun _ _ _ h => h) (Or.inl ⟨by rfl, by intro w; go_simp; try rfl⟩) ?_
              try simp only [Act.put, List.setIfInBounds_toArray, List.set_cons_zero, List.set_cons_succ]
              refine wpAny_done (by kernel_rfl) ?_ _
              have HB9 : Kp _ := ⟨hBS⟩
              clear hBS
              go_wp2_with fail
              go_meet
              case rel => exact ⟨rfl, HB9⟩
          · have c1 := (hBS.cell (p := ⟨ba, oa + i * 2, none⟩) hbw).trans hc1
            have c2 := (hBS.cell (p := ⟨ba, oa + i * 2 + 1, none⟩) hbw).trans hc2
            go_simp
            refine hK _ _ ?_
            clear hK K c1 c2
            try simp only [Act.put, List.setIfInBounds_toArray, List.set_cons_zero, List.set_cons_succ]
            refine wpAny_ready (rs := [5]) (by kernel_rfl) (by simp) ?_
            refine AllReady.cons (o := ⟨some 18, _, _, _, _, _⟩) rfl (fun K hK => ?_) AllReady.nil
            have c1 := (hBS.cell (p := ⟨ba, oa + i * 2, none⟩) hbw).trans hc1
            have c2 := (hBS.cell (p := ⟨ba, oa + i * 2 + 1, none⟩) hbw).trans hc2
            go_simp
            refine hK _ _ ?_
            clear hK K c1 c2
            try simp only [Act.put, List.setIfInBounds_toArray, List.set_cons_zero, List.set_cons_succ]
            refine wpAny_ready (rs := [6]) (by kernel_rfl) (by simp) ?_
            refine AllReady.cons (o := ⟨some 19, _, _, _, _, _⟩) rfl (fun K hK => ?_) AllReady.nil
            go_simp
            refine (CA.out wS hBS).mono ?_
            rintro e w70 ⟨rfl, hb'⟩
            refine hK _ _ ?_
            clear hK K
            try simp only [Act.put, List.setIfInBounds_toArray, List.set_cons_zero, List.set_cons_succ]
            replace hBS := hBS.trans (hb'.mono hBS.size)
            clear hb'
            refine wpAny_ready (rs := [14]) (by kernel_rfl) (by simp) ?_
            refine AllReady.cons (o := ⟨some 27, _, _, _, _, _⟩) rfl (fun K hK => ?_) AllReady.nil
            go_simp
            refine (CB.out w70 hBS).mono ?_
            rintro e w71 ⟨rfl, hb'⟩
            refine hK _ _ ?_
            clear hK K
            try simp only [Act.put, List.setIfInBounds_toArray, List.set_cons_zero, List.set_cons_succ]
            replace hBS := hBS.trans (hb'.mono hBS.size)
            clear hb'
            refine wpAny_take (i := 15) (oi := ⟨some 28, _, _, _, _, _⟩) (v := ?_) rfl (by kernel_rfl) (by kernel_rfl) (by kernel_rfl) (fun _ _ _ h => h) (Or.inl ⟨by rfl, by intro w; go_simp; try rfl⟩) ?_
            try simp only [Act.put, List.setIfInBounds_toArray, List.set_cons_zero, List.set_cons_succ]
            refine wpAny_done (by kernel_rfl) ?_ _
            have HB9 : Kp _ := ⟨hBS⟩
            clear hBS
            go_wp2_with fail
            go_meet
            case rel => exact ⟨rfl, HB9⟩
        case rest =>
          obtain ⟨rfl, HBx⟩ := hcut
          have e1 : wc.cell? ⟨ba, oa + i * 2, none⟩ = some (.int .i64 zz) := (HBx.out.cell (p := ⟨ba, oa + i * 2, none⟩) hbw).trans hc1
          have e2 : wc.cell? ⟨ba, oa + i * 2 + 1, none⟩ = some (.slice A' n' c') := (HBx.out.cell (p := ⟨ba, oa + i * 2 + 1, none⟩) hbw).trans hc2
          have HB9 : Kp (Below w.heap.size w wc) := ⟨HBr.out.trans (HBx.out.mono hwr)⟩
          obtain ⟨L, hown, hL⟩ := HO.out
          have HOw : Kp _ := ⟨own2_below hown HBx.out⟩
          have HLd : Kp (Leads wc w.heap.size (L ++ [(zz, A', n', c')]) (refP its bs i ++ [(zz, ll)])) := ⟨(hL.below (HBx.out.mono hwr)).append (Leads.one HZw.out (HBs.out.below (HBx.out.mono hwr)))⟩
          have hPl := HPl.out
          generalize hpl : (refP its bs i).length = pl at *
          have HPe : Kp _ := ⟨hpl⟩
          have hwc : w.heap.size ≤ wc.heap.size := HB9.out.size
          clear hown hL HO HBr HBx hc1 hc2 HBs CA CB hle hleI hpl HPl
          go_wp2_with (at_builtin; refine wpList_appI (o := ⟨some 35, _, _, _, _, _⟩) Try.underlying23 hi hi0 hi2 hi32 rfl rfl (.tmp 29) (.tmp 34) rfl w.heap.size _ pl L rfl (own2_below HOw.out ((Below.refl _ wc).alloc (Nat.le_refl _) _)) (some ⟨wc.heap.size, 0, none⟩) 1 1 [(zz, A', n', c')] rfl rfl (fun h => by cases h) (two_cells wc _ zz A' n' c') (by simp only [maxLen]; omega) (by omega) (by simp; omega) ?_)
          intro v9 w9 hown9 hb9' _
          have hb9 : Below w.heap.size wc w9 := ((Below.refl _ wc).alloc hwc _).trans hb9'
          have HO9 : Kp (∃ L, w9.ownsRow w.heap.size 30 2 v9 (refP its bs (i + 1)).length (hdCells L) ∧ Leads w9 w.heap.size L (refP its bs (i + 1))) := ⟨_, by rw [HNy.out, List.length_append, HPe.out]; exact hown9, by rw [HNy.out]; exact HLd.out.below hb9⟩
          have HP9 : Kp ((refP its bs (i + 1)).length ≤ i + 1) := ⟨by rw [HNy.out, List.length_append, HPe.out, List.length_singleton]; omega⟩
          have HB10 : Kp (Below w.heap.size w w9) := ⟨HB9.out.trans hb9⟩
          clear hown9 hb9' hb9 HOw HLd HB9 e1 e2 HNy HPe
          go_wp2
          go_roundg g2
          case measure => omega
          case rel => exact ⟨i + 1, by omega, by go_num, HO9, HP9, HB10⟩
      · have HNy : Kp (refP its bs (i + 1) = refP its bs i) := ⟨by rw [HNx.out, if_neg hle, List.append_nil]⟩
        have hleI : ¬ ((x2 : Int) ≤ (x1 : Int)) := by omega
        clear HNx
        go_upto_region 5 with fail
        go_cut [28] from 13 to 27 (fun v28 wx => v28 = .bool false ∧ Kp (Below wr.heap.size wr wx))
        case first =>
          go_wp2_with fail
          have hBS : Below wr.heap.size wr wr := Below.refl _ _
          refine wp_region_any (by kernel_rfl) ?_
          change wpAny _ _ _ _ _ _ _ wr.drew
          replace hBS := hBS.drew
          generalize wr.drew = wS at *
          refine wpAny_take (i := 0) (oi := ⟨some 13, _, _, _, _, _⟩) (v := ?_) rfl (by kernel_rfl) (by kernel_rfl) (by kernel_rfl) (fun _ _ _ h => h) (Or.inl ⟨by rfl, by intro w; go_simp; try rfl⟩) ?_
          try simp only [Act.put, List.setIfInBounds_toArray, List.set_cons_zero, List.set_cons_succ]
          refine wpAny_take (i := 1) (oi := ⟨some 14, _, _, _, _, _⟩) (v := ?_) rfl (by kernel_rfl) (by kernel_rfl) (by kernel_rfl) (fun _ _ _ h => h) (Or.inl ⟨by rfl, by intro w; go_simp; try rfl⟩) ?_
          try simp only [Act.put, List.setIfInBounds_toArray, List.set_cons_zero, List.set_cons_succ]
          refine wpAny_take (i := 2) (oi := ⟨some 15, _, _, _, _, _⟩) (v := ?_) rfl (by kernel_rfl) (by kernel_rfl) (by kernel_rfl) (fun _ _ _ h => h) (Or.inl ⟨by rfl, by intro w; go_simp; try rfl⟩) ?_
          try simp only [Act.put, List.setIfInBounds_toArray, List.set_cons_zero, List.set_cons_succ]
          refine wpAny_take (i := 3) (oi := ⟨some 16, _, _, _, _, _⟩) (v := ?_) rfl (by kernel_rfl) (by kernel_rfl) (by kernel_rfl) (fun _ _ _ h => h) (Or.inl ⟨by rfl, by intro w; go_simp; try rfl⟩) ?_
          try simp only [Act.put, List.setIfInBounds_toArray, List.set_cons_zero, List.set_cons_succ]
          refine wpAny_take (i := 4) (oi := ⟨some 17, _, _, _, _, _⟩) (v := ?_) rfl (by kernel_rfl) (by kernel_rfl) (by kernel_rfl) (fun _ _ _ h => h) (Or.inl ⟨by rfl, by intro w; go_simp; try rfl⟩) ?_
          try simp only [Act.put, List.setIfInBounds_toArray, List.set_cons_zero, List.set_cons_succ]
          refine wpAny_take (i := 7) (oi := ⟨some 20, _, _, _, _, _⟩) (v := ?_) rfl (by kernel_rfl) (by kernel_rfl) (by kernel_rfl) (fun _ _ _ h => h) (Or.inl ⟨by rfl, by intro w; go_simp; try rfl⟩) ?_
          try simp only [Act.put, List.setIfInBounds_toArray, List.set_cons_zero, List.set_cons_succ]
          refine wpAny_take (i := 8) (oi := ⟨some 21, _, _, _, _, _⟩) (v := ?_) rfl (by kernel_rfl) (by kernel_rfl) (by kernel_rfl) (fun _ _ _ h => h) (Or.inl ⟨by rfl, by intro w; go_simp; try rfl⟩) ?_
          try simp only [Act.put, List.setIfInBounds_toArray, List.set_cons_zero, List.set_cons_succ]
          refine wpAny_take (i := 9) (oi := ⟨some 22, _, _, _, _, _⟩) (v := ?_) rfl (by kernel_rfl) (by kernel_rfl) (by kernel_rfl) (fun _ _ _ h => h) (Or.inl ⟨by rfl, by intro w; go_simp; try rfl⟩) ?_
          try simp only [Act.put, List.setIfInBounds_toArray, List.set_cons_zero, List.set_cons_succ]
          refine wpAny_take (i := 10) (oi := ⟨some 23, _, _, _, _, _⟩) (v := ?_) rfl (by kernel_rfl) (by kernel_rfl) (by kernel_rfl) (fun _ _ _ h => h) (Or.inl ⟨by rfl, by intro w; go_simp; try rfl⟩) ?_
          try simp only [Act.put, List.setIfInBounds_toArray, List.set_cons_zero, List.set_cons_succ]
          refine wpAny_take (i := 11) (oi := ⟨some 24, _, _, _, _, _⟩) (v := ?_) rfl (by kernel_rfl) (by kernel_rfl) (by kernel_rfl) (fun _ _ _ h => h) (Or.inl ⟨by rfl, by intro w; go_simp; try rfl⟩) ?_
          try simp only [Act.put, List.setIfInBounds_toArray, List.set_cons_zero, List.set_cons_succ]
          refine wpAny_take (i := 12) (oi := ⟨some 25, _, _, _, _, _⟩) (v := ?_) rfl (by kernel_rfl) (by kernel_rfl) (by kernel_rfl) (fun _ _ _ h => h) (Or.inl ⟨by rfl, by intro w; go_simp; try rfl⟩) ?_
          try simp only [Act.put, List.setIfInBounds_toArray, List.set_cons_zero, List.set_cons_succ]
          refine wpAny_ready (rs := [5, 13]) (by kernel_rfl) (by simp) ?_
          refine AllReady.cons (o := ⟨some 18, _, _, _, _, _⟩) rfl (fun K hK => ?_) (AllReady.cons (o := ⟨some 26, _, _, _, _, _⟩) rfl (fun K hK => ?_) AllReady.nil)
          · have c1 := (hBS.cell (p := ⟨ba, oa + i * 2, none⟩) hbw).trans hc1
            have c2 := (hBS.cell (p := ⟨ba, oa + i * 2 + 1, none⟩) hbw).trans hc2
            go_simp
            refine hK _ _ ?_
            clear hK K c1 c2
            try simp only [Act.put, List.setIfInBounds_toArray, List.set_cons_zero, List.set_cons_succ]
            refine wpAny_ready (rs := [6, 13]) (by kernel_rfl) (by simp) ?_
            refine AllReady.cons (o := ⟨some 19, _, _, _, _, _⟩) rfl (fun K hK => ?_) (AllReady.cons (o := ⟨some 26, _, _, _, _, _⟩) rfl (fun K hK => ?_) AllReady.nil)
            · go_simp
              refine (CA.out wS hBS).mono ?_
              rintro e w62 ⟨rfl, hb'⟩
              refine hK _ _ ?_
              clear hK K
              try simp only [Act.put, List.setIfInBounds_toArray, List.set_cons_zero, List.set_cons_succ]
              replace hBS := hBS.trans (hb'.mono hBS.size)
              clear hb'
              refine wpAny_ready (rs := [13]) (by kernel_rfl) (by simp) ?_
              refine AllReady.cons (o := ⟨some 26, _, _, _, _, _⟩) rfl (fun K hK => ?_) AllReady.nil
              have c1 := (hBS.cell (p := ⟨ba, oa + i * 2, none⟩) hbw).trans hc1
              have c2 := (hBS.cell (p := ⟨ba, oa + i * 2 + 1, none⟩) hbw).trans hc2
              go_simp
              refine hK _ _ ?_
              clear hK K c1 c2
              try simp only [Act.put, List.setIfInBounds_toArray, List.set_cons_zero, List.set_cons_succ]
              refine wpAny_ready (rs := [14]) (by kernel_rfl) (by simp) ?_
              refine AllReady.cons (o := ⟨some 27, _, _, _, _, _⟩) rfl (fun K hK => ?_) AllReady.nil
              go_simp
              refine (CB.out w62 hBS).mono ?_
              rintro e w64 ⟨rfl, hb'⟩
              refine hK _ _ ?_
              clear hK K
              try simp only [Act.put, List.setIfInBounds_toArray, List.set_cons_zero, List.set_cons_succ]
              replace hBS := hBS.trans (hb'.mono hBS.size)
              clear hb'
              refine wpAny_take (i := 15) (oi := ⟨some 28, _, _, _, _, _⟩) (v := ?_) rfl (by kernel_rfl) (by kernel_rfl) (by kernel_rfl) (fun _ _ _ h => h) (Or.inl ⟨by rfl, by intro w; go_simp; try rfl⟩) ?_
              try simp only [Act.put, List.setIfInBounds_toArray, List.set_cons_zero, List.set_cons_succ]
              refine wpAny_done (by kernel_rfl) ?_ _
              have HB9 : Kp _ := ⟨hBS⟩
              clear hBS
              go_wp2_with fail
              go_meet
              case rel => exact ⟨rfl, HB9⟩
            · have c1 := (hBS.cell (p := ⟨ba, oa + i * 2, none⟩) hbw).trans hc1
              have c2 := (hBS.cell (p := ⟨ba, oa + i * 2 + 1, none⟩) hbw).trans hc2
              go_simp
              refine hK _ _ ?_
              clear hK K c1 c2
              try simp only [Act.put, List.setIfInBounds_toArray, List.set_cons_zero, List.set_cons_succ]
              refine wpAny_ready (rs := [6]) (by kernel_rfl) (by simp) ?_
              refine AllReady.cons (o := ⟨some 19, _, _, _, _, _⟩) rfl (fun K hK => ?_) AllReady.nil
              go_simp
              refine (CA.out wS hBS).mono ?_
              rintro e w66 ⟨rfl, hb'⟩
              refine hK _ _ ?_
              clear hK K
              try simp only [Act.put, List.setIfInBounds_toArray, List.set_cons_zero, List.set_cons_succ]
              replace hBS := hBS.trans (hb'.mono hBS.size)
              clear hb'
              refine wpAny_ready (rs := [14]) (by kernel_rfl) (by simp) ?_
              refine AllReady.cons (o := ⟨some 27, _, _, _, _, _⟩) rfl (fun K hK => ?_) AllReady.nil
              go_simp
              refine (CB.out w66 hBS).mono ?_
              rintro e w67 ⟨rfl, hb'⟩
              refine hK _ _ ?_
              clear hK K
              try simp only [Act.put, List.setIfInBounds_toArray, List.set_cons_zero, List.set_cons_succ]
              replace hBS := hBS.trans (hb'.mono hBS.size)
              clear hb'
              refine wpAny_take (i := 15) (oi := ⟨some 28, _, _, _, _, _⟩) (v := ?_) rfl (by kernel_rfl) (by kernel_rfl) (by kernel_rfl) (fun _ _ _ h => h) (Or.inl ⟨by rfl, by intro w; go_simp; try rfl⟩) ?_
              try simp only [Act.put, List.setIfInBounds_toArray, List.set_cons_zero, List.set_cons_succ]
              refine wpAny_done (by kernel_rfl) ?_ _
              have HB9 : Kp _ := ⟨hBS⟩
              clear hBS
              go_wp2_with fail
              go_meet
              case rel => exact ⟨rfl, HB9⟩
          · have c1 := (hBS.cell (p := ⟨ba, oa + i * 2, none⟩) hbw).trans hc1
            have c2 := (hBS.cell (p := ⟨ba, oa + i * 2 + 1, none⟩) hbw).trans hc2
            go_simp
            refine hK _ _ ?_
            clear hK K c1 c2
            try simp only [Act.put, List.setIfInBounds_toArray, List.set_cons_zero, List.set_cons_succ]
            refine wpAny_ready (rs := [5]) (by kernel_rfl) (by simp) ?_
            refine AllReady.cons (o := ⟨some 18, _, _, _, _, _⟩) rfl (fun K hK => ?_) AllReady.nil
            have c1 := (hBS.cell (p := ⟨ba, oa + i * 2, none⟩) hbw).trans hc1
            have c2 := (hBS.cell (p := ⟨ba, oa + i * 2 + 1, none⟩) hbw).trans hc2
            go_simp
            refine hK _ _ ?_
            clear hK K c1 c2
            try simp only [Act.put, List.setIfInBounds_toArray, List.set_cons_zero, List.set_cons_succ]
            refine wpAny_ready (rs := [6]) (by kernel_rfl) (by simp) ?_
            refine AllReady.cons (o := ⟨some 19, _, _, _, _, _⟩) rfl (fun K hK => ?_) AllReady.nil
            go_simp
            refine (CA.out wS hBS).mono ?_
            rintro e w70 ⟨rfl, hb'⟩
            refine hK _ _ ?_
            clear hK K
            try simp only [Act.put, List.setIfInBounds_toArray, List.set_cons_zero, List.set_cons_succ]
            replace hBS := hBS.trans (hb'.mono hBS.size)
            clear hb'
            refine wpAny_ready (rs := [14]) (by kernel_rfl) (by simp) ?_
            refine AllReady.cons (o := ⟨some 27, _, _, _, _, _⟩) rfl (fun K hK => ?_) AllReady.nil
            go_simp
            refine (CB.out w70 hBS).mono ?_
            rintro e w71 ⟨rfl, hb'⟩
            refine hK _ _ ?_
            clear hK K
            try simp only [Act.put, List.setIfInBounds_toArray, List.set_cons_zero, List.set_cons_succ]
            replace hBS := hBS.trans (hb'.mono hBS.size)
            clear hb'
            refine wpAny_take (i := 15) (oi := ⟨some 28, _, _, _, _, _⟩) (v := ?_) rfl (by kernel_rfl) (by kernel_rfl) (by kernel_rfl) (fun _ _ _ h => h) (Or.inl ⟨by rfl, by intro w; go_simp; try rfl⟩) ?_
            try simp only [Act.put, List.setIfInBounds_toArray, List.set_cons_zero, List.set_cons_succ]
            refine wpAny_done (by kernel_rfl) ?_ _
            have HB9 : Kp _ := ⟨hBS⟩
            clear hBS
            go_wp2_with fail
            go_meet
            case rel => exact ⟨rfl, HB9⟩
        case rest =>
          obtain ⟨rfl, HBx⟩ := hcut
          have HB9 : Kp (Below w.heap.size w wc) := ⟨HBr.out.trans (HBx.out.mono hwr)⟩
          obtain ⟨L, hown, hL⟩ := HO.out
          have HO9 := Kp.mk (And.intro (own2_below hown HBx.out) (hL.below (HBx.out.mono hwr)))
          have HNz : Kp _ := ⟨HNy.out⟩
          have HP9 : Kp ((refP its bs (i + 1)).length ≤ i + 1) := ⟨by rw [HNy.out]; have := HPl.out; omega⟩
          clear hown hL HO HBr HBx hc1 hc2 HBs CA CB hle hleI HPl HNy
          go_wp2
          go_roundg g2
          case measure => omega
          case rel => exact ⟨i + 1, by omega, by go_num, ⟨L, by rw [HNz.out]; exact HO9.out.1, by rw [HNz.out]; exact HO9.out.2⟩, HP9, HB9⟩
theorem refsame_any (A : Option Addr) (m c : Nat) (its : List Th) (B : Option Addr) (p d : Nat) (bs : List Th) (w : World) (hI : Its w w.heap.size A m c its) (hJ : Its w w.heap.size B p d bs) (hm : m ≤ 64) (hp : p ≤ 64) :
    Calls Try.prog 23 #[.slice A m c, .slice B p d] w fun e w' => e = .returned (.bool (sameL its bs)) ∧ Below w.heap.size w w' := by
  have HI : Kp _ := ⟨hI⟩
  have HJ : Kp _ := ⟨hJ⟩
  obtain ⟨p1, hp1⟩ : ∃ p, p = (minusL its bs).length := ⟨_, rfl⟩
  obtain ⟨p2, hp2⟩ : ∃ p, p = (minusL bs its).length := ⟨_, rfl⟩
  have HP1 : Kp (p1 = (minusL its bs).length) := ⟨hp1⟩
  have HP2 : Kp (p2 = (minusL bs its).length) := ⟨hp2⟩
  have HS : Kp (sameL its bs = ((p1 == 0) && (p2 == 0))) := ⟨by rw [← same_none, hp1, hp2]⟩
  have h1 : p1 ≤ 64 := by have h := (minus_lengths its bs).1; rw [← hp1, hI.len] at h; omega
  have h2 : p2 ≤ 64 := by have h := (minus_lengths its bs).2; rw [← hp2, hJ.len] at h; omega
  clear hI hJ hp1 hp2
  rw [HS.out]
  clear HS
  go_enter Try.func23, Try.ntmps23
  go_wp2_with fail
  refine (refminus_any A m c its B p d bs w HI.out HJ.out hm hp).mono ?_
  rw [← HP1.out]
  rintro e w1 ⟨A1, c1, rfl, _, hb1⟩
  by_cases e1 : p1 = 0
  · subst e1
    go_wp2_with fail
    refine (refminus_any B p d bs A m c its w1 (HJ.out.next hb1 (Nat.le_refl _)) (HI.out.next hb1 (Nat.le_refl _)) hp hm).mono ?_
    rw [← HP2.out]
    rintro e w2 ⟨A2, c2, rfl, _, hb2⟩
    have hB2 := hb1.trans (hb2.mono hb1.size)
    clear hb2 hb1
    by_cases e2 : p2 = 0
    · subst e2
      go_wp2
      go_ret
      exact ⟨rfl, hB2⟩
    · have e2' : 0 < p2 := by omega
      have e2i : ((p2 : Int) == 0) = false := by simp [e2]
      have HE : Kp ((p2 == 0) = false) := ⟨by simp [e2]⟩
      clear e2
      go_wp2
      go_ret
      exact ⟨by simp [HE.out], hB2⟩
  · have e1' : 0 < p1 := by omega
    have e1i : ((p1 : Int) == 0) = false := by simp [e1]
    have HE : Kp ((p1 == 0) = false) := ⟨by simp [e1]⟩
    clear e1
    go_wp2
    go_ret
    exact ⟨by simp [HE.out], hb1⟩
end Go.Proofs.Ythpfiieaanioeaa
