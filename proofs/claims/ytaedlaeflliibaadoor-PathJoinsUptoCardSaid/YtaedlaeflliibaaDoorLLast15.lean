/- The law PathLast. -/
import Derived.Test.YtaedlaeflliibaaDoorLParses15
namespace Go.Proofs.YtaedlaeflliibaaDoor
open Go.RowKit Go.Shelf Go.Deep

section
variable {ops : Array Oper} {S : World → Prop} {op : Oper} {a : Act} {g : Nat}
theorem yieldsIf_ldP (hw : Region.wanted op (yielded ops a.tmps) = true) (x : Operand) (ho : op.op = .load 25 x) (hx : a.eval x = .pointer (some ⟨g, 0, none⟩)) (b : Bool) (A : Option Addr) (n c : Nat) (hS : ∀ W, S W → Blk W g 25 [.bool b, .slice A n c]) :
    YieldsIf Tryd.prog ops S op (.agg #[.bool b, .slice A n c]) a :=
  .inl ⟨hw, fun w h => by
    have hr := run_load_rw (P := Tryd.prog) rwPt (hS w h) (off := 0) (Nat.le_refl 2)
    unfold execOp
    simp only [ho, hx, Sem.run_bind, hr, Result.andThen_ok, Sem.run_pure]
    rfl⟩
theorem yieldsIf_build1 {t : TypeId} (hw : Region.wanted op (yielded ops a.tmps) = true) (i : Nat) (x : Operand) (ho : op.op = .build t #[(i, x)]) {v : Value} (hx : a.eval x = v) {cs : List Value} (hb : (Tryd.prog).built t [(i, v)] = some cs.toArray) : YieldsIf Tryd.prog ops S op (.agg cs.toArray) a :=
  .inl ⟨hw, fun w _ => by
    have hr := run_build (P := Tryd.prog) w t #[(i, v)] cs.toArray (by simpa using hb)
    unfold execOp
    simp only [ho, Sem.run_bind, List.map_toArray, List.map_cons, List.map_nil, hx, hr, Result.andThen_ok, Sem.run_pure]⟩
end
theorem built_pt1 (A : Option Addr) (n c : Nat) : (Tryd.prog).built 25 [(1, .slice A n c)] = some #[.bool false, .slice A n c] := by kernel_rfl
section
set_option maxRecDepth 100000
set_option maxHeartbeats 4000000
theorem law_pathLast (s : ByteArray) (w : World) (hs : s.data.toList.length ≤ 140737488351232) :
    Calls Tryd.prog 6 #[.string s] w fun e w' => e = .returned (.bool true) ∧ Below w.heap.size w w' := by
  obtain ⟨l, rfl, hl⟩ := str_of s
  rw [hl] at hs
  clear hl
  have hsz : (ByteArray.mk l.toArray).size = l.length := by simp [ByteArray.size]
  by_cases hbig : 200 < l.length
  · have hbd : (200 : Int) < (l.length : Int) := by omega
    go_enter Tryd.func6, Tryd.ntmps6
    have HW : Kp (Below w.heap.size w w) := ⟨Below.refl _ _⟩
    go_wp2_with fail
    refine (known15_any _).mono ?_
    rintro e w1 ⟨rfl, hb'⟩
    replace HW : Kp _ := ⟨HW.out.trans (hb'.mono HW.out.size)⟩
    clear hb'
    go_wp2
    go_ret
    exact ⟨rfl, HW.out⟩
  have hbd : ¬ (200 : Int) < (l.length : Int) := by omega
  have HPa : Kp (∀ W, _) := ⟨fun W => parse_any l W hs⟩
  have HNm : Kp (∀ x ∈ namS l, _) := ⟨fun x hx => nam_mem hx⟩
  cases ho : okS l with
  | false =>
    have HE : Kp (errS l = 11) := ⟨errS_no ho⟩
    go_enter Tryd.func6, Tryd.ntmps6
    have HW : Kp (Below w.heap.size w w) := ⟨Below.refl _ _⟩
    go_wp2_with fail
    refine (HPa.out _).mono ?_
    rintro e w1 ⟨A1, n1, c1, rfl, _, hb'⟩
    replace HW : Kp _ := ⟨HW.out.trans (hb'.mono HW.out.size)⟩
    rw [HE.out]
    clear hb'
    go_upto_region 4 with fail
    have hbx : Below w1.heap.size w1 (w1.alloc (.cells #[.bool (absS l), .slice A1 n1 c1] 25)) := (Below.refl _ _).alloc (Nat.le_refl _) _
    replace HW : Kp _ := ⟨HW.out.trans (hbx.mono HW.out.size)⟩
    clear hbx
    go_wp2_with fail
    refine (known15_any _).mono ?_
    rintro e w2 ⟨rfl, hb'⟩
    replace HW : Kp _ := ⟨HW.out.trans (hb'.mono HW.out.size)⟩
    clear hb'
    go_wp2
    go_ret
    exact ⟨rfl, HW.out⟩
  | true =>
    have HE : Kp (errS l = 0) := ⟨errS_ok ho⟩
    have hln := nam_long ho
    have hl2 := okS_len ho
    obtain ⟨b, hb⟩ : ∃ b, b = absS l := ⟨_, rfl⟩
    obtain ⟨ns, hns⟩ : ∃ ns, ns = namS l := ⟨_, rfl⟩
    rw [HE.out, ← hb, ← hns] at HPa
    rw [← hns] at HNm hln
    have HLn : Kp (ns.length ≤ 201) := ⟨by have := longN_count ns; omega⟩
    clear hb hns ho hln hl2 hbig hs
    go_enter Tryd.func6, Tryd.ntmps6
    have HW : Kp (Below w.heap.size w w) := ⟨Below.refl _ _⟩
    go_wp2_with fail
    refine (HPa.out _).mono ?_
    rintro e w1 ⟨A1, n1, c1, rfl, hs1, hb'⟩
    replace HW : Kp _ := ⟨HW.out.trans (hb'.mono HW.out.size)⟩
    have S1 : Kp _ := ⟨hs1⟩
    clear hs1
    clear hb'
    go_upto_region 4 with fail
    have hbx : Below w1.heap.size w1 (w1.alloc (.cells #[.bool b, .slice A1 n1 c1] 25)) := (Below.refl _ _).alloc (Nat.le_refl _) _
    have KP : Kp _ := ⟨Blk.new w1 25 [.bool b, .slice A1 n1 c1]⟩
    obtain ⟨w2, hw2⟩ : ∃ x, x = w1.alloc (.cells #[.bool b, .slice A1 n1 c1] 25) := ⟨_, rfl⟩
    rw [← hw2] at hbx KP ⊢
    replace S1 : Kp _ := ⟨S1.out.next hbx (Nat.le_refl _)⟩
    replace HW : Kp _ := ⟨HW.out.trans (hbx.mono HW.out.size)⟩
    obtain ⟨GP, hG⟩ : ∃ g, g = w1.heap.size := ⟨_, rfl⟩
    rw [← hG] at KP ⊢
    clear hG hbx hw2
    go_wp2
    have hn63 : n1 ≤ 201 := by have := HLn.out; have := S1.out.len; omega
    go_loopg [5] n1 (fun gk v5 wr => wr = w2 ∧ ∃ k : Nat, k + gk = n1 ∧ v5 = .int .i64 (k : Int))
    case atStart => exact ⟨rfl, 0, by omega, rfl⟩
    case round =>
      obtain ⟨rfl, k, hkn, rfl⟩ := hrel
      have p1 : wr.cell? ⟨GP, 1, none⟩ = some (.slice A1 n1 c1) := KP.out.cell? 1
      have p0 : wr.cell? ⟨GP, 0, none⟩ = some (.bool b) := KP.out.cell? 0
      cases gk with
      | succ g2 =>
        have hgo : (k : Int) < (n1 : Int) := by omega
        have hin : k < n1 := by omega
        obtain ⟨b1, o1, rfl, hl1, hc1⟩ := S1.out.at hin
        have hkl : k < ns.length := by have := S1.out.len; omega
        obtain ⟨x, hx⟩ : ∃ x, x = ns[k] := ⟨_, rfl⟩
        have hxm := HNm.out x (by rw [hx]; exact List.getElem_mem hkl)
        rw [← hx] at hc1
        have heq := eqs_str x [46, 46]
        have hx200 : x.length ≤ 200 := hxm.2.2.2
        clear hx
        by_cases hd : x = [46, 46]
        · subst hd
          clear hxm
          go_wp2
          go_roundg g2
          case measure => omega
          case rel => exact ⟨rfl, k + 1, by omega, by go_num⟩
        · have hok : okNm x = true := by
            rcases hxm.2.1 with h | h
            · exact absurd h hd
            · exact h
          have HRn : Kp _ := ⟨refnamed_any x wr (by omega)⟩
          rw [hok] at HRn
          have i3 : (x == [46, 46]) = false := by simpa using hd
          rw [i3] at heq
          clear hxm hok hd
          go_wp2_with (go_at_call 22; refine HRn.out.mono ?_; rintro e w9 ⟨rfl, hw9⟩; rw [hw9]; clear hw9 w9)
          go_roundg g2
          case measure => omega
          case rel => exact ⟨rfl, k + 1, by omega, by go_num⟩
      | zero =>
        have hend : ¬ ((k : Int) < (n1 : Int)) := by omega
        have HLa : Kp _ := ⟨lastPt_any b A1 n1 c1 ns wr _ S1.out (Nat.le_refl _) (by omega)⟩
        cases hok : okL ns with
        | false =>
          obtain ⟨q1, q2, q3, q4⟩ := last_no hok b
          rw [q1, q2, q3, q4] at HLa
          go_wp2_with fail
          refine (HLa.out).mono ?_
          rintro e w21 ⟨A7, n7, c7, rfl, _, hb'⟩
          replace KP : Kp _ := ⟨KP.out.below hb' KP.out.lt⟩
          replace S1 : Kp _ := ⟨S1.out.next hb' (Nat.le_refl _)⟩
          replace HW : Kp _ := ⟨HW.out.trans (hb'.mono HW.out.size)⟩
          clear hb'
          go_upto_region 12 with fail
          have hbx : Below w21.heap.size w21 (w21.alloc (.cells #[.bool false, .slice A7 n7 c7] 25)) := (Below.refl _ _).alloc (Nat.le_refl _) _
          obtain ⟨wz, hwz⟩ : ∃ x, x = w21.alloc (.cells #[.bool false, .slice A7 n7 c7] 25) := ⟨_, rfl⟩
          rw [← hwz] at hbx ⊢
          replace KP : Kp _ := ⟨KP.out.below hbx KP.out.lt⟩
          replace S1 : Kp _ := ⟨S1.out.next hbx (Nat.le_refl _)⟩
          replace HW : Kp _ := ⟨HW.out.trans (hbx.mono HW.out.size)⟩
          clear hbx hwz p0 p1
          have p1 : wz.cell? ⟨GP, 1, none⟩ = some (.slice A1 n1 c1) := KP.out.cell? 1
          rcases Nat.eq_zero_or_pos n1 with h0 | h0
          · subst h0
            go_wp2_with fail
            refine (known15_any _).mono ?_
            rintro e w22 ⟨rfl, hb'⟩
            replace KP : Kp _ := ⟨KP.out.below hb' KP.out.lt⟩
            replace S1 : Kp _ := ⟨S1.out.next hb' (Nat.le_refl _)⟩
            replace HW : Kp _ := ⟨HW.out.trans (hb'.mono HW.out.size)⟩
            clear hb'
            clear p1
            go_wp2
            go_ret
            exact ⟨rfl, HW.out⟩
          · obtain ⟨kk, hkk⟩ : ∃ kk, n1 = kk + 1 := ⟨n1 - 1, by omega⟩
            have hlk : ns.length = kk + 1 := by rw [S1.out.len, hkk]
            have hx := okL_at hlk
            rw [hok] at hx
            have hxd : ns[kk] = [46, 46] := by
              have h2 : (ns[kk] == dotsL) = true := by simpa using hx.symm
              exact eq_of_beq h2
            obtain ⟨b1, o1, rfl, hl1, hc1⟩ := S1.out.at (i := kk) (by omega)
            rw [hxd] at hc1
            have hq1 : (n1 : Int) - 1 = (kk : Int) := by omega
            have hne : ¬ (n1 : Int) = 0 := by omega
            have hki : (kk : Int) < (n1 : Int) := by omega
            clear hx hxd hlk hkk h0
            go_wp2_with fail
            refine (known15_any _).mono ?_
            rintro e w22 ⟨rfl, hb'⟩
            replace KP : Kp _ := ⟨KP.out.below hb' KP.out.lt⟩
            replace S1 : Kp _ := ⟨S1.out.next hb' (Nat.le_refl _)⟩
            replace HW : Kp _ := ⟨HW.out.trans (hb'.mono HW.out.size)⟩
            clear hb'
            clear p1 hc1 hq1 hne hki
            go_wp2
            go_ret
            exact ⟨rfl, HW.out⟩
        | true =>
          have hn0 : ns ≠ [] := by intro e; rw [e] at hok; cases hok
          obtain ⟨kk, hkk⟩ : ∃ kk, ns.length = kk + 1 := ⟨ns.length - 1, by have := List.length_pos_iff.2 hn0; omega⟩
          obtain ⟨q1, q2, q3, q4⟩ := last_yes hkk hok b
          obtain ⟨x, hx⟩ : ∃ x, x = ns[kk] := ⟨_, rfl⟩
          rw [q1, q2, q3, q4, ← hx] at HLa
          have hxm := HNm.out x (by rw [hx]; exact List.getElem_mem _)
          have hxd : x ≠ dotsL := by
            have h := okL_at hkk
            rw [hok, ← hx] at h
            intro e
            rw [e] at h
            exact absurd h (by decide)
          have hxo : okNm x = true := by
            rcases hxm.2.1 with h | h
            · exact absurd h hxd
            · exact h
          have hx200 : x.length ≤ 200 := hxm.2.2.2
          have HJn : Kp (ns.take kk ++ [x] = ns) := ⟨by
            rw [hx]
            conv => rhs; rw [← List.take_append_drop kk ns, List.drop_eq_getElem_cons (by omega), List.drop_of_length_le (by omega)]⟩
          have HRn : Kp (∀ W, _) := ⟨fun W => refnamed_any x W (by omega)⟩
          rw [hxo] at HRn
          clear q1 q2 q3 q4 hx hxm hxd hxo hn0
          have HKk : Kp (ns.length = kk + 1) := ⟨hkk⟩
          clear hkk hok
          go_wp2_with fail
          refine (HLa.out).mono ?_
          rintro e w21 ⟨A7, n7, c7, rfl, hs7, hb'⟩
          replace KP : Kp _ := ⟨KP.out.below hb' KP.out.lt⟩
          replace S1 : Kp _ := ⟨S1.out.next hb' (Nat.le_refl _)⟩
          replace HW : Kp _ := ⟨HW.out.trans (hb'.mono HW.out.size)⟩
          have S7 : Kp _ := ⟨hs7⟩
          clear hs7
          clear hb'
          go_upto_region 12 with fail
          have hbx : Below w21.heap.size w21 (w21.alloc (.cells #[.bool b, .slice A7 n7 c7] 25)) := (Below.refl _ _).alloc (Nat.le_refl _) _
          have KQ : Kp _ := ⟨Blk.new w21 25 [.bool b, .slice A7 n7 c7]⟩
          obtain ⟨w22, hw22⟩ : ∃ x, x = w21.alloc (.cells #[.bool b, .slice A7 n7 c7] 25) := ⟨_, rfl⟩
          rw [← hw22] at hbx KQ ⊢
          replace KP : Kp _ := ⟨KP.out.below hbx KP.out.lt⟩
          replace S1 : Kp _ := ⟨S1.out.next hbx (Nat.le_refl _)⟩
          replace S7 : Kp _ := ⟨S7.out.next hbx (Nat.le_refl _)⟩
          replace HW : Kp _ := ⟨HW.out.trans (hbx.mono HW.out.size)⟩
          obtain ⟨GQ, hG⟩ : ∃ g, g = w21.heap.size := ⟨_, rfl⟩
          rw [← hG] at KQ ⊢
          clear hG hbx hw22
          clear p0 p1
          go_upto_region 14 with fail
          refine wp_region_held_drew (S := fun WW => Below w22.heap.size w22 WW) (by kernel_rfl) ((Below.refl _ _).drew) (fun hHeld => ?_)
          generalize w22.drew = wS at *
          refine wpAnyH_take (i := 0) (oi := ⟨some 73, _, _, _, _, _⟩) (v := ?_) rfl (by kernel_rfl) (by kernel_rfl) (by kernel_rfl) (fun _ _ _ h => h) (Or.inl ⟨by rfl, by intro w hSw; go_simp; try rfl⟩) (by assumption) ?_
          try simp only [Act.put, List.setIfInBounds_toArray, List.set_cons_zero, List.set_cons_succ]
          refine wpAnyH_ready (rs := [1]) (by kernel_rfl) (by simp) ?_
          refine AllReadyH.cons (o := ⟨some 74, _, _, _, _, _⟩) rfl (fun K hK => ?_) AllReadyH.nil
          go_simp
          refine (HRn.out _).mono ?_
          rintro e w51 ⟨rfl, hw9⟩
          refine hK.out _ _ (by rw [hw9]; exact hHeld) (fun hHeld2 => ?_)
          clear hw9
          clear hK K hHeld
          have hHeld := hHeld2
          clear hHeld2
          try simp only [Act.put, List.setIfInBounds_toArray, List.set_cons_zero, List.set_cons_succ]
          refine wpAnyH_take (i := 2) (oi := ⟨some 75, _, _, _, _, _⟩) (v := ?_) rfl (by kernel_rfl) (by kernel_rfl) (by kernel_rfl) (fun _ _ _ h => h) (Or.inl ⟨by rfl, by intro w hSw; go_simp; try rfl⟩) (by assumption) ?_
          try simp only [Act.put, List.setIfInBounds_toArray, List.set_cons_zero, List.set_cons_succ]
          refine wpAnyH_take (i := 3) (oi := ⟨some 76, _, _, _, _, _⟩) (v := _) rfl (by kernel_rfl) (by kernel_rfl) (by kernel_rfl) (fun _ _ _ h => h) (yieldsIf_ldP rfl _ rfl rfl b A7 n7 c7 (fun W h => KQ.out.below h KQ.out.lt)) (by assumption) ?_
          try simp only [Act.put, List.setIfInBounds_toArray, List.set_cons_zero, List.set_cons_succ]
          refine wpAnyH_take (i := 4) (oi := ⟨some 77, _, _, _, _, _⟩) (v := ?_) rfl (by kernel_rfl) (by kernel_rfl) (by kernel_rfl) (fun _ _ _ h => h) (Or.inl ⟨by rfl, by intro w hSw; go_simp; try rfl⟩) (by assumption) ?_
          try simp only [Act.put, List.setIfInBounds_toArray, List.set_cons_zero, List.set_cons_succ]
          refine wpAnyH_take (i := 8) (oi := ⟨some 81, _, _, _, _, _⟩) (v := _) rfl (by kernel_rfl) (by kernel_rfl) (by kernel_rfl) (fun _ _ _ h => h) (yieldsIf_ldP rfl _ rfl rfl b A1 n1 c1 (fun W h => KP.out.below h KP.out.lt)) (by assumption) ?_
          try simp only [Act.put, List.setIfInBounds_toArray, List.set_cons_zero, List.set_cons_succ]
          refine wpAnyH_ready (rs := [5]) (by kernel_rfl) (by simp) ?_
          refine AllReadyH.cons (o := ⟨some 78, _, _, _, _, _⟩) rfl (fun K hK => ?_) AllReadyH.nil
          go_simp
          have hb' : Below w51.heap.size w51 (w51.alloc (.cells #[.string ⟨x.toArray⟩] 9)) := (Below.refl _ _).alloc (Nat.le_refl _) _
          have SN : Kp _ := ⟨ss_row w51 9 [x] (by simp [maxLen]) (by intro y hy; rw [List.mem_singleton.1 hy]; omega)⟩
          refine hK.out _ _ (hHeld.trans (hb'.mono hHeld.size)) (fun hHeld2 => ?_)
          have HSZ : Kp (w51.heap.size + 1 ≤ (w51.alloc (.cells #[.string ⟨x.toArray⟩] 9)).heap.size) := ⟨by simp⟩
          obtain ⟨g8, hg8⟩ : ∃ g, g = w51.heap.size := ⟨_, rfl⟩
          obtain ⟨w52, hN8⟩ : ∃ x8, x8 = w51.alloc (.cells #[.string ⟨x.toArray⟩] 9) := ⟨_, rfl⟩
          replace SN : Kp (Ss w52 w52.heap.size (some ⟨g8, 0, none⟩) 1 1 [x]) := ⟨by rw [hN8, hg8]; exact SN.out.more HSZ.out⟩
          rw [← hN8] at hHeld2 ⊢
          rw [← hg8]
          clear hb' HSZ hg8 hN8
          clear hK K hHeld
          have hHeld := hHeld2
          clear hHeld2
          try simp only [Act.put, List.setIfInBounds_toArray, List.set_cons_zero, List.set_cons_succ]
          refine wpAnyH_take (i := 6) (oi := ⟨some 79, _, _, _, _, _⟩) (v := _) rfl (by kernel_rfl) (by kernel_rfl) (by kernel_rfl) (fun _ _ _ h => h) (yieldsIf_build1 rfl 1 _ rfl rfl (cs := [.bool false, .slice (some ⟨g8, 0, none⟩) 1 1]) (built_pt1 (some ⟨g8, 0, none⟩) 1 1)) (by assumption) ?_
          try simp only [Act.put, List.setIfInBounds_toArray, List.set_cons_zero, List.set_cons_succ]
          refine wpAnyH_ready (rs := [7]) (by kernel_rfl) (by simp) ?_
          refine AllReadyH.cons (o := ⟨some 80, _, _, _, _, _⟩) rfl (fun K hK => ?_) AllReadyH.nil
          go_simp
          refine (joinPt_any b false A7 (some ⟨g8, 0, none⟩) n7 c7 1 1 (ns.take kk) [x] w52 _ _ (S7.out.next hHeld (Nat.le_refl _)) SN.out (Nat.le_refl _) (Nat.le_refl _) (by have h1 := S7.out.len; have := HLn.out; simp at h1; omega)).mono ?_
          rintro e w53 ⟨A9, n9, c9, rfl, hs9, hb'⟩
          rw [show joinL false (ns.take kk) [x] = ns from HJn.out] at hs9
          rw [Bool.false_or]
          have S9 : Kp _ := ⟨hs9⟩
          refine hK.out _ _ (hHeld.trans (hb'.mono hHeld.size)) (fun hHeld2 => ?_)
          clear hs9 hb'
          clear hK K hHeld
          have hHeld := hHeld2
          clear hHeld2
          try simp only [Act.put, List.setIfInBounds_toArray, List.set_cons_zero, List.set_cons_succ]
          refine wpAnyH_ready (rs := [9]) (by kernel_rfl) (by simp) ?_
          refine AllReadyH.cons (o := ⟨some 82, _, _, _, _, _⟩) rfl (fun K hK => ?_) AllReadyH.nil
          go_simp
          refine (samePt_any b b A9 A1 n9 c9 n1 c1 ns ns w53 _ _ S9.out (S1.out.next hHeld (Nat.le_refl _)) (Nat.le_refl _) (Nat.le_refl _)).mono ?_
          rintro e w54 ⟨rfl, hb'⟩
          rw [same_self]
          refine hK.out _ _ (hHeld.trans (hb'.mono hHeld.size)) (fun hHeld2 => ?_)
          clear hb'
          clear hK K hHeld
          have hHeld := hHeld2
          clear hHeld2
          try simp only [Act.put, List.setIfInBounds_toArray, List.set_cons_zero, List.set_cons_succ]
          refine wpAnyH_take (i := 10) (oi := ⟨some 83, _, _, _, _, _⟩) (v := ?_) rfl (by kernel_rfl) (by kernel_rfl) (by kernel_rfl) (fun _ _ _ h => h) (Or.inl ⟨by rfl, by intro w hSw; go_simp; try rfl⟩) (by assumption) ?_
          try simp only [Act.put, List.setIfInBounds_toArray, List.set_cons_zero, List.set_cons_succ]
          refine wpAnyH_take (i := 11) (oi := ⟨some 84, _, _, _, _, _⟩) (v := ?_) rfl (by kernel_rfl) (by kernel_rfl) (by kernel_rfl) (fun _ _ _ h => h) (Or.inl ⟨by rfl, by intro w hSw; go_simp; try rfl⟩) (by assumption) ?_
          try simp only [Act.put, List.setIfInBounds_toArray, List.set_cons_zero, List.set_cons_succ]
          refine wpAnyH_ready (rs := [12]) (by kernel_rfl) (by simp) ?_
          refine AllReadyH.cons (o := ⟨some 85, _, _, _, _, _⟩) rfl (fun K hK => ?_) AllReadyH.nil
          go_simp
          refine (known15_any w54).mono ?_
          rintro e w55 ⟨rfl, hb'⟩
          refine hK.out _ _ (hHeld.trans (hb'.mono hHeld.size)) (fun hHeld2 => ?_)
          clear hb'
          clear hK K hHeld
          have hHeld := hHeld2
          clear hHeld2
          try simp only [Act.put, List.setIfInBounds_toArray, List.set_cons_zero, List.set_cons_succ]
          refine wpAnyH_take (i := 13) (oi := ⟨some 86, _, _, _, _, _⟩) (v := ?_) rfl (by kernel_rfl) (by kernel_rfl) (by kernel_rfl) (fun _ _ _ h => h) (Or.inl ⟨by rfl, by intro w hSw; go_simp; try rfl⟩) (by assumption) ?_
          try simp only [Act.put, List.setIfInBounds_toArray, List.set_cons_zero, List.set_cons_succ]
          refine wpAnyH_take (i := 14) (oi := ⟨some 2, _, _, _, _, _⟩) (v := ?_) rfl (by kernel_rfl) (by kernel_rfl) (by kernel_rfl) (fun _ _ _ h => h) (Or.inl ⟨by rfl, by intro w hSw; go_simp; try rfl⟩) (by assumption) ?_
          try simp only [Act.put, List.setIfInBounds_toArray, List.set_cons_zero, List.set_cons_succ]
          refine wpAnyH_done (by kernel_rfl) ?_ _
          go_wp2
          go_ret
          exact ⟨rfl, HW.out.trans (hHeld.mono HW.out.size)⟩
end
end Go.Proofs.YtaedlaeflliibaaDoor
