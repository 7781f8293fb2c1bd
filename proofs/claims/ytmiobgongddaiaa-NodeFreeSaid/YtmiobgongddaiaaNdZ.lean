/- The contracts of the document's Index, Pointers, Spans, and of SameSpans. -/
import Derived.Test.YtmiobgongddaiaaNdY
import Derived.Deep.QuietTactic
namespace Go.Proofs.Ytmiobgongddaiaa
open Go.RowKit Go.Shelf

theorem ptrL_eq2 (b : List UInt8) : ptrL b = (List.range 64).map (pvL b) := by
  rw [ptrL_eq, fl_all]
  refine List.ext_getElem (by simp) fun j h1 h2 => ?_
  simp [pvF]
theorem pv_snoc (b : List UInt8) (k : Nat) : cellsZ ((List.range (k + 1)).map (pvL b)) = cellsZ ((List.range k).map (pvL b)) ++ [.int .i64 (pvL b k)] := by
  rw [List.range_succ, List.map_append, cellsZ_append]; rfl
theorem pv_wf (b : List UInt8) (k : Nat) : ∀ z ∈ (List.range k).map (pvL b), (Lit.int .i64 z).wf = true := fun z hz => by
  obtain ⟨j, _, rfl⟩ := List.mem_map.1 hz
  have h1 := getN_lt ((b.drop (4 * j)).take 4)
  have h2 : 256 ^ ((b.drop (4 * j)).take 4).length ≤ 256 ^ 4 := Nat.pow_le_pow_right (by decide) (by simp; omega)
  unfold pvL
  exact WalkArith.wf_i64 ⟨by omega, by omega⟩
section
variable {P : Program} {w : World} {ops : Array Oper} {rest : List Oper} {o : Oper} {a : Act} {t e : TypeId}
theorem wpStill_loadR {Q : Act → Prop} {d : TypeDesc} {n : Nat} (E : Rw P t d n) (hw : Region.wanted o (yielded ops a.tmps) = true) (x : Operand) (hop : o.op = .load t x) {g off : Nat} {vs : List Value} (hx : a.eval x = .pointer (some ⟨g, off, none⟩)) (hr : w.rangeAt g off vs) (hn : vs.length = n)
    (h : wpStill P ops w Q rest (a.put o.dst (.agg vs.toArray))) : wpStill P ops w Q (o :: rest) a := by
  refine wpStill_step fun K hK => ?_
  rw [if_pos hw]
  unfold Oper.still
  simp only [execOp, hop, hx, Sem.run_bind, run_loadAt_mid w g off t vs d hr E.ty E.row (by rw [E.size, hn]), Result.andThen_ok, Sem.run_pure]
  exact ⟨rfl, hK _ h⟩
theorem wpStill_neq {Q : Act → Prop} (hG : P.eqGuardType P.depth t = false) (hw : Region.wanted o (yielded ops a.tmps) = true) (x y : Operand) {t' : TypeId} (hop : o.op = .binOp .neq t x y t') {u v : Array Value} (hx : a.eval x = .agg u) (hy : a.eval y = .agg v) {q : Bool}
    (hr : (Op.equalIn 10000 t (.agg u) (.agg v)).run P w = .ok q w)
    (h : wpStill P ops w Q rest (a.put o.dst (.bool (!q)))) : wpStill P ops w Q (o :: rest) a := by
  refine wpStill_step fun K hK => ?_
  rw [if_pos hw]
  unfold Oper.still
  simp only [execOp, hop, hx, hy, Sem.run_bind, run_eqGuard_agg (w := w) _ _ _ _ _ _ hG, Result.andThen_ok, run_neq_struct, hr, Sem.run_pure]
  exact ⟨rfl, hK _ h⟩
theorem wpList_appG {Q : Exit → Act → World → Prop} {z : Value} {bytes size : Nat} (ht : P.underlying t = some (.slice e)) (hinf : (P.info? e).map (fun i => (i.zero, i.size, i.bytes)) = some (some z, size, bytes)) (hzs : z.cells.size = size) (hpos : 0 < size) (hgd : o.guard = none) (s x : Operand)
    (ho : o.op = .call { callee := .builtin .append, args := #[s, x], argTypes := #[t, t] })
    (base : Nat) (v : Value) (n : Nat) (xs : List Value) (hs : a.eval s = v) (hown : w.ownsRow base e size v n xs)
    (g : Nat) (t' : TypeId) (ys : List Value) (hx : a.eval x = .slice (some ⟨g, 0, none⟩) 1 1) (hk : Blk w g t' ys) (hl : ys.length = size) (h1 : ∀ u ∈ ys, u.oneCell' = true)
    (h63 : n + 1 ≤ maxLen) (hbytes : (n + 1) * bytes ≤ 140737488355328) (hbase : base ≤ w.heap.size)
    (h : ∀ v' w', w'.ownsRow base e size v' (n + 1) (xs ++ ys) → w.grownBy w' v.ownBlock → wpList P ops Q rest (a.put o.dst v') w') : wpList P ops Q (o :: rest) a w := by
  obtain ⟨i, hi, hz, hsize, hby⟩ := info_parts hinf
  exact wpList_append_own_at w hgd s x t ho base e i z size bytes ht hi hz hsize hby hzs hpos v n _ hs hown ⟨g, 0, none⟩ 1 1 ys hx (by rw [hl, Nat.one_mul]) (fun j u hu => by rw [Addr.add_lit, Nat.zero_add, hk.cell? j]; exact hu) h1 h63 hbytes hbase
    (fun v' w' h2 h3 _ _ => h v' w' h2 h3)
end
theorem wpList_buildSp {w : World} {ops : Array Oper} {rest : List Oper} {o : Oper} {a : Act} {Q : Exit → Act → World → Prop} (hgd : o.guard = none) (x : Operand) (hop : o.op = .buildSlice 48 1 #[(0, x)]) (s : Sp) (hx : a.eval x = .agg (spV s).toArray)
    (h : wpList Try.prog ops Q rest (a.put o.dst (.slice (some ⟨w.heap.size, 0, none⟩) 1 1)) (w.alloc (.cells (spV s).toArray 55))) : wpList Try.prog ops Q (o :: rest) a w := by
  refine wpList_plain hgd fun K hK => ?_
  unfold Oper.wp execOp
  simp only [hop, Sem.run_bind, List.map_toArray, List.map_cons, List.map_nil, hx, run_buildSp w s, Result.andThen_ok, Sem.run_pure]
  exact hK _ _ h
theorem eqGS : (Try.prog).eqGuardType (Try.prog).depth 55 = false := by kernel_rfl
theorem run_eqSp (w : World) (s t : Sp) : (Op.equalIn 10000 55 (.agg (spV s).toArray) (.agg (spV t).toArray)).run Try.prog w = .ok (s == t) w := by
  have h := run_eqS w [(s.k : Int), (s.f : Int), (s.t : Int)] [(t.k : Int), (t.f : Int), (t.t : Int)] rfl rfl
  have e : ([(s.k : Int), (s.f : Int), (s.t : Int)] == [(t.k : Int), (t.f : Int), (t.t : Int)]) = (s == t) := by
    obtain ⟨a, b, c⟩ := s
    obtain ⟨a', b', c'⟩ := t
    rw [Bool.eq_iff_iff, beq_iff_eq, beq_iff_eq]
    simp only [List.cons.injEq, Sp.mk.injEq, and_true]
    omega
  rw [e] at h
  exact h
section
set_option maxRecDepth 100000
set_option maxHeartbeats 4000000
theorem samespans_any (A B : Option Addr) (n c m d : Nat) (xs ys : List Sp) (w : World) (L M : Nat) (ha : Sps w L A n c xs) (hb : Sps w M B m d ys) :
    Calls Try.prog 24 #[.slice A n c, .slice B m d] w fun e w' => e = .returned (.bool (xs == ys)) ∧ Below w.heap.size w w' := by
  have HA : Kp _ := ⟨ha⟩
  have HB : Kp _ := ⟨hb⟩
  have HX : Kp (xs.length = n) := ⟨ha.len⟩
  have HY : Kp (ys.length = m) := ⟨hb.len⟩
  have hn63 := ha.le
  have hm63 := hb.le
  clear ha hb
  by_cases hnm : n = m
  · subst hnm
    go_enter Try.func24, Try.ntmps24
    go_wp2
    go_loopg [5] n (fun gk v5 wr => ∃ k : Nat, k + gk = n ∧ v5 = .int .i64 (k : Int) ∧ Kp (xs.take k = ys.take k) ∧ Kp (∀ B, Below B w wr))
    case atStart => exact ⟨0, by omega, rfl, ⟨by simp⟩, ⟨fun _ => Below.refl _ _⟩⟩
    case round =>
      obtain ⟨k, hkm, rfl, HE, HS⟩ := hrel
      cases gk with
      | zero =>
        have hend : ¬ ((k : Int) < (n : Int)) := by omega
        have HV : Kp ((xs == ys) = true) := ⟨by
          have h := HE.out
          rw [List.take_of_length_le (by rw [HX.out]; omega), List.take_of_length_le (by rw [HY.out]; omega)] at h
          rw [h]; simp⟩
        go_wp2
        go_ret
        exact ⟨by rw [HV.out]; rfl, HS.out _⟩
      | succ g2 =>
        have hgo : (k : Int) < (n : Int) := by omega
        have hin : k < n := by omega
        obtain ⟨b1, o1, rfl, hl1, hc1⟩ := HA.out.at hin
        obtain ⟨b2, o2, rfl, hl2, hc2⟩ := HB.out.at hin
        have hx : k < xs.length := by rw [HX.out]; exact hin
        have hy : k < ys.length := by rw [HY.out]; exact hin
        obtain ⟨x, hxe⟩ : ∃ x, x = xs[k] := ⟨_, rfl⟩
        obtain ⟨y, hye⟩ : ∃ y, y = ys[k] := ⟨_, rfl⟩
        rw [← hxe] at hc1
        rw [← hye] at hc2
        have hk1 : wr.drew.rangeAt b1 (o1 + k * 3) (spV x) := range_below hc1 ((HS.out (b1 + 1)).drew) (Nat.lt_succ_self _)
        have hk2 : wr.drew.rangeAt b2 (o2 + k * 3) (spV y) := range_below hc2 ((HS.out (b2 + 1)).drew) (Nat.lt_succ_self _)
        have HK1 : Kp _ := ⟨hk1⟩
        have HK2 : Kp _ := ⟨hk2⟩
        have HT1 : Kp (xs.take (k + 1) = xs.take k ++ [x]) := ⟨by rw [hxe, List.take_succ_eq_append_getElem hx]⟩
        have HT2 : Kp (ys.take (k + 1) = ys.take k ++ [y]) := ⟨by rw [hye, List.take_succ_eq_append_getElem hy]⟩
        have HNe : Kp (x ≠ y → (xs == ys) = false) := ⟨fun h => by
          rw [beq_eq_false_iff_ne]
          intro e
          apply h
          rw [hxe, hye]
          simp [e]⟩
        have HS2 : Kp (∀ B, Below B w wr.drew) := ⟨fun B => (HS.out B).drew⟩
        clear hc1 hc2 hxe hye hk1 hk2 hl1 hl2
        go_upto_region 6 with fail
        refine wp_region_still_lit (by kernel_rfl) (by kernel_rfl) ?_
        change wpStill _ _ wr.drew (fun a' => Exit.then _ _ Exit.normal a' wr.drew) _ _
        generalize wr.drew = w2 at *
        repeat (first
          | refine wpStill_loadR (o := ⟨some 20, _, _, _, _, _⟩) rwSp rfl (.tmp 19) rfl rfl HK1.out rfl ?_
          | refine wpStill_loadR (o := ⟨some 24, _, _, _, _, _⟩) rwSp rfl (.tmp 23) rfl rfl HK2.out rfl ?_
          | refine wpStill_neq (o := ⟨some 25, _, _, _, _, _⟩) eqGS rfl (.tmp 20) (.tmp 24) rfl rfl rfl (run_eqSp w2 x y) ?_
          | still_step)
        refine wpStill_nil ?_
        cases hq : x == y with
        | true =>
          have hxy := eq_of_beq hq
          have HE2 : Kp (xs.take (k + 1) = ys.take (k + 1)) := ⟨by rw [HT1.out, HT2.out, HE.out, hxy]⟩
          clear hq hxy
          go_wp2
          go_roundg g2
          case measure => omega
          case rel => exact ⟨k + 1, by omega, by go_num, HE2, HS2⟩
        | false =>
          have HV : Kp ((xs == ys) = false) := ⟨HNe.out (by simpa using hq)⟩
          clear hq
          go_wp2
          go_ret
          exact ⟨by rw [HV.out]; rfl, HS2.out _⟩
  · have hne : ¬ ((n : Int) = (m : Int)) := by omega
    have HV : Kp ((xs == ys) = false) := ⟨by
      rw [beq_eq_false_iff_ne]
      intro e
      rw [e] at HX
      exact hnm (HX.out.symm.trans HY.out)⟩
    go_enter Try.func24, Try.ntmps24
    go_wp2
    go_ret
    exact ⟨by rw [HV.out]; rfl, Below.refl _ _⟩
theorem refindex_any (A : Option Addr) (n c : Nat) (l : List Int) (w : World) (ha : Zs w w.heap.size .i64 A n c l) :
    Calls Try.prog 15 #[.slice A n c] w fun e w' => ∃ A' n' c', e = .returned (.tuple #[.slice A' n' c', .int .i64 (idxE l)]) ∧ Bs w' w'.heap.size A' n' c' (idxA l) ∧ Below w.heap.size w w' := by
  have HA : Kp _ := ⟨ha⟩
  have HLn : Kp (l.length = n) := ⟨ha.len⟩
  have h63 := ha.le
  clear ha
  by_cases hn : 64 < n
  · have HE : Kp (idxE l = 2 ∧ idxA l = []) := ⟨by
      have h1 : idxB l = false := by unfold idxB; rw [decide_eq_false (by rw [HLn.out]; omega)]; rfl
      unfold idxE idxA
      rw [h1]
      exact ⟨rfl, rfl⟩⟩
    have hn' : (64 : Int) < (n : Int) := by omega
    go_enter Try.func15, Try.ntmps15
    go_wp2
    refine ret_tt rfl rfl rfl rfl ?_
    exact ⟨none, 0, 0, by rw [HE.out.1]; rfl, by rw [HE.out.2]; exact Bs.zero _ _, Below.refl _ _⟩
  · have hn' : ¬ ((64 : Int) < (n : Int)) := by omega
    have hn64 : n ≤ 64 := by omega
    have HIB : Kp (idxB l = l.all ptrB) := ⟨by unfold idxB; rw [decide_eq_true (by rw [HLn.out]; exact hn64)]; rfl⟩
    clear hn
    go_enter Try.func15, Try.ntmps15
    go_wp2
    go_loopg [4, 5] n (fun gk v4 v5 wr => ∃ (k N c4 : Nat) (A4 : Option Addr), k + gk = n ∧ v5 = .int .i64 (k : Int) ∧ v4 = .slice A4 N c4 ∧ N ≤ 4 * k ∧ Kp ((l.take k).all ptrB = true) ∧ Kp (Bs wr wr.heap.size A4 N c4 (idxL (l.take k))) ∧ Kp (Below w.heap.size w wr))
    case atStart => exact ⟨0, 0, 0, none, by omega, rfl, rfl, by omega, ⟨rfl⟩, ⟨Bs.zero _ _⟩, ⟨Below.refl _ _⟩⟩
    case round =>
      obtain ⟨k, N, c4, A4, hkn, rfl, rfl, hN, HF, HBs, HBr⟩ := hrel
      cases gk with
      | zero =>
        have hend : ¬ ((k : Int) < (n : Int)) := by omega
        obtain rfl : k = n := by omega
        have hbs := HBs.out
        have hF := HF.out
        rw [List.take_of_length_le (by rw [HLn.out]; exact Nat.le_refl _)] at hbs hF
        have HE : Kp (idxE l = 0 ∧ idxA l = idxN l) := ⟨by unfold idxE idxA; rw [HIB.out, hF]; exact ⟨rfl, rfl⟩⟩
        have HCl : Kp _ := ⟨refpad_any A4 N c4 256 _ wr hbs (by omega) (by decide)⟩
        have HPd : Kp (padL (idxL l) 256 = idxN l ∧ (idxN l).length = 256) := ⟨by
          refine ⟨?_, idxN_length l (by rw [HLn.out]; exact hn64)⟩
          unfold padL idxN
          rw [idxL_length]; rfl⟩
        clear hbs HBs hF
        go_wp2_with fail
        refine HCl.out.mono ?_
        rintro e w5 ⟨v, rfl, hown5, hb5⟩
        rw [HPd.out.1, HPd.out.2] at hown5
        obtain ⟨A5, c5, rfl, hbs5⟩ := Bs.of_own hown5
        have HBs5 : Kp _ := ⟨hbs5⟩
        have HB5 : Kp (Below w.heap.size w w5) := ⟨HBr.out.trans (hb5.mono HBr.out.size)⟩
        clear hown5 hbs5 hb5 HCl
        go_wp2
        refine ret_tt rfl rfl rfl rfl ?_
        exact ⟨A5, 256, c5, by rw [HE.out.1]; rfl, by rw [HE.out.2]; exact HBs5.out, HB5.out⟩
      | succ g2 =>
        have hgo : (k : Int) < (n : Int) := by omega
        have hk : k < n := by omega
        obtain ⟨bA, oA, rfl, hlA, hcA⟩ := HA.out.at hk
        have hkl : k < l.length := by rw [HLn.out]; exact hk
        obtain ⟨z, hz⟩ : ∃ z, z = l[k] := ⟨_, rfl⟩
        rw [← hz] at hcA
        have hzs : l[k]? = some z := by rw [List.getElem?_eq_getElem hkl, hz]
        have hcr : wr.cell? ⟨bA, oA + k, none⟩ = some (.int .i64 z) := (HBr.out.cell (p := ⟨bA, oA + k, none⟩) hlA).trans hcA
        have HT : Kp _ := ⟨all_take_step hzs⟩
        have HFl : Kp _ := ⟨fun h => all_false hzs h⟩
        have HStep : Kp _ := ⟨idxL_step hzs⟩
        clear hcA hz hkl hzs
        go_wp2_with fail
        refine (refptr_any z wr).mono ?_
        rintro e w5 ⟨rfl, rfl⟩
        cases hq : ptrB z with
        | false =>
          have HE : Kp (idxE l = 2 ∧ idxA l = []) := ⟨by
            have h1 : idxB l = false := by rw [HIB.out]; exact HFl.out hq
            unfold idxE idxA
            rw [h1]
            exact ⟨rfl, rfl⟩⟩
          go_wp2
          refine ret_tt rfl rfl rfl rfl ?_
          exact ⟨none, 0, 0, by rw [HE.out.1]; rfl, by rw [HE.out.2]; exact Bs.zero _ _, HBr.out⟩
        | true =>
          have hzb : 0 ≤ z ∧ z ≤ 4095 := by
            unfold ptrB fitB at hq
            rw [Bool.and_eq_true, decide_eq_true_eq, decide_eq_true_eq] at hq
            exact ⟨hq.1, by have := hq.2; omega⟩
          have HF9 : Kp ((l.take (k + 1)).all ptrB = true) := ⟨by rw [HT.out, HF.out]; exact hq⟩
          have HP : Kp _ := ⟨refput3_any A4 N c4 4 _ z w5 HBs.out (by omega) hzb.1 (by omega) (by decide)⟩
          rw [← HStep.out] at HP
          clear hzb hq
          go_wp2_with fail
          refine HP.out.mono ?_
          rintro e w9 ⟨v9, rfl, hown9, hb9⟩
          obtain ⟨A9, c9, rfl, hbs9⟩ := Bs.of_own hown9
          have HBs9 : Kp _ := ⟨hbs9⟩
          have HB9 : Kp (Below w.heap.size w w9) := ⟨HBr.out.trans (hb9.mono HBr.out.size)⟩
          clear hown9 hbs9 hb9 HP HBs HBr hcr
          go_wp2
          go_roundg g2
          case measure => omega
          case rel => exact ⟨k + 1, N + 4, c9, A9, by omega, by go_num, rfl, by omega, HF9, HBs9, HB9⟩
theorem refpointers_any (A : Option Addr) (n c : Nat) (b : List UInt8) (w : World) (hb : Bs w w.heap.size A n c b) (hn9 : n ≤ 4294967296) :
    Calls Try.prog 22 #[.slice A n c] w fun e w' => ∃ A m d, e = .returned (.tuple #[.slice A m d, .int .i64 (ptrE b)]) ∧ Zs w' w'.heap.size .i64 A m d (ptrA b) ∧ Below w.heap.size w w' := by
  have HB : Kp _ := ⟨hb⟩
  have HLn : Kp (b.length = n) := ⟨hb.len⟩
  clear hb
  by_cases hn : n = 256
  · subst hn
    go_enter Try.func22, Try.ntmps22
    go_wp2
    go_loopg [4, 5] 64 (fun gk v4 v5 wr => ∃ (k : Nat), k + gk = 64 ∧ v5 = .int .i64 (k : Int) ∧ Kp (wr.ownsRow w.heap.size 3 1 v4 k (cellsZ ((List.range k).map (pvL b)))) ∧ Kp (((List.range k).map (pvL b)).all ptrB = true) ∧ Kp (Below w.heap.size w wr))
    case atStart => exact ⟨0, by omega, rfl, ⟨own_nil _ _ _⟩, ⟨rfl⟩, ⟨Below.refl _ _⟩⟩
    case round =>
      obtain ⟨k, hkn, rfl, HOw, HF, HBr⟩ := hrel
      cases gk with
      | zero =>
        have hend : ¬ ((k : Int) < 64) := by omega
        obtain rfl : k = 64 := by omega
        have hF := HF.out
        rw [← ptrL_eq2] at hF
        have HE : Kp (ptrE b = 0 ∧ ptrA b = ptrL b) := ⟨by unfold ptrE ptrA ptrK; rw [decide_eq_true HLn.out, hF]; exact ⟨rfl, rfl⟩⟩
        obtain ⟨A5, c5, rfl, hzs⟩ := Zs.of_own HOw.out (pv_wf b 64)
        rw [← ptrL_eq2] at hzs
        have HZ : Kp _ := ⟨hzs⟩
        clear hF hzs HOw
        go_wp2
        refine ret_tt rfl rfl rfl rfl ?_
        exact ⟨A5, 64, c5, by rw [HE.out.1]; rfl, by rw [HE.out.2]; exact HZ.out, HBr.out⟩
      | succ g2 =>
        have hgo : (k : Int) < 64 := by omega
        have hk : k < 64 := by omega
        obtain ⟨K, hK⟩ : ∃ K, K = 4 * k := ⟨_, rfl⟩
        have r1 : (4 : Int) * (k : Int) = (K : Int) := by omega
        have HCl : Kp _ := ⟨refget3_any A 256 c K 4 w.heap.size b wr (HB.out.below HBr.out) (by decide) (by omega) (by decide)⟩
        obtain ⟨z, hz⟩ : ∃ z : Int, z = pvL b k := ⟨_, rfl⟩
        have HZe : Kp (((getN ((b.drop K).take 4) : Nat) : Int) = z) := ⟨by rw [hz, hK]; rfl⟩
        rw [HZe.out] at HCl
        have HSn : Kp (cellsZ ((List.range (k + 1)).map (pvL b)) = cellsZ ((List.range k).map (pvL b)) ++ [.int .i64 z]) := ⟨by rw [hz]; exact pv_snoc b k⟩
        have HAl : Kp (((List.range (k + 1)).map (pvL b)).all ptrB = ptrB z) := ⟨by rw [List.range_succ, List.map_append, List.all_append, HF.out, hz]; simp⟩
        have HBad : Kp (ptrB z = false → ptrK b = false) := ⟨fun h => by
          unfold ptrK
          rw [ptrL_eq2]
          cases hc : ((List.range 64).map (pvL b)).all ptrB with
          | false => simp
          | true =>
            have h2 := List.all_eq_true.1 hc (pvL b k) (List.mem_map.2 ⟨k, List.mem_range.2 hk, rfl⟩)
            rw [← hz, h] at h2
            cases h2⟩
        have hK256 : K ≤ 256 := by omega
        clear hz hK
        go_wp2_with fail
        refine HCl.out.mono ?_
        rintro e w5 ⟨rfl, rfl⟩
        go_wp2_with (at_builtin; refine wpList_app1 elI rfl _ _ rfl w.heap.size _ k _ rfl HOw.out rfl rfl (by simp only [maxLen]; omega) (by omega) HBr.out.size ?_)
        intro v6 w6 hown6 hb6 _ _
        have hown6' : w6.ownsRow w.heap.size 3 1 v6 (k + 1) (cellsZ ((List.range (k + 1)).map (pvL b))) := by rw [HSn.out]; exact hown6.out
        have HOw6 : Kp _ := ⟨hown6'⟩
        have HB6 : Kp (Below w.heap.size w w6) := ⟨HBr.out.trans hb6⟩
        obtain ⟨A6, c6, rfl, hzs6⟩ := Zs.of_own hown6' (pv_wf b (k + 1))
        obtain ⟨b7, o7, rfl, _, hc7⟩ := hzs6.at (i := k) (by omega)
        have hel : ((List.range (k + 1)).map (pvL b))[k]'(by simp) = z := by
          have h := HSn.out
          have h2 : (cellsZ ((List.range (k + 1)).map (pvL b)))[k]? = some (.int .i64 z) := by
            rw [h, List.getElem?_append_right (by simp [cellsZ])]; simp [cellsZ]
          simp [cellsZ] at h2
          simpa using h2
        rw [hel] at hc7
        clear hown6 hown6' hb6 hzs6 hel HCl HOw HBr
        go_wp2_with fail
        refine (refptr_any z w6).mono ?_
        rintro e w7 ⟨rfl, rfl⟩
        cases hq : ptrB z with
        | false =>
          have HE : Kp (ptrE b = 4 ∧ ptrA b = []) := ⟨by unfold ptrE ptrA; rw [HBad.out hq]; exact ⟨rfl, rfl⟩⟩
          go_wp2
          refine ret_tt rfl rfl rfl rfl ?_
          exact ⟨none, 0, 0, by rw [HE.out.1]; rfl, by rw [HE.out.2]; exact zs_none _ _ _, HB6.out⟩
        | true =>
          have HF2 : Kp (((List.range (k + 1)).map (pvL b)).all ptrB = true) := ⟨by rw [HAl.out]; exact hq⟩
          clear hc7
          go_wp2
          go_roundg g2
          case measure => omega
          case rel => exact ⟨k + 1, by omega, by go_num, HOw6, HF2, HB6⟩
  · have hn' : ¬ ((n : Int) = 256) := by omega
    have HE : Kp (ptrE b = 4 ∧ ptrA b = []) := ⟨by
      have h1 : ptrK b = false := by unfold ptrK; rw [decide_eq_false (by rw [HLn.out]; exact hn)]; rfl
      unfold ptrE ptrA
      rw [h1]
      exact ⟨rfl, rfl⟩⟩
    go_enter Try.func22, Try.ntmps22
    go_wp2
    refine ret_tt rfl rfl rfl rfl ?_
    exact ⟨none, 0, 0, by rw [HE.out.1]; rfl, by rw [HE.out.2]; exact zs_none _ _ _, Below.refl _ _⟩
end
end Go.Proofs.Ytmiobgongddaiaa
