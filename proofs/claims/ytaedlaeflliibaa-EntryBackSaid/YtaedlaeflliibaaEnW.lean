/- The contracts of Same, and of what the example fixes. -/
import Derived.Test.YtaedlaeflliibaaEnF
import Derived.Test.YtaedlaeflliibaaEnV
import Derived.Test.YtaedlaeflliibaaEnS
import Derived.Deep.QuietTactic
import Derived.Deep.Cut
namespace Go.Proofs.Ytaedlaeflliibaa
open Go.RowKit Go.Deep

theorem Ens.range_at {w : World} {B : Nat} {A : Option Addr} {n c : Nat} {l : List En} (h : Ens w B A n c l) {i : Nat} (hi : i < n) : ∃ b o, A = some ⟨b, o, none⟩ ∧ b < B ∧ w.rangeAt b (o + i * 2) (enOne (l[i]'(by have := h.len; omega))) := by
  obtain ⟨b, o, hA, hb, h1, h2⟩ := h.at hi
  refine ⟨b, o, hA, hb, fun j v hv => ?_⟩
  match j, hv with
  | 0, hv => obtain rfl := Option.some.inj hv; exact h1
  | 1, hv => obtain rfl := Option.some.inj hv; exact h2
section
variable {P : Program} {w : World} {ops : Array Oper} {rest : List Oper} {o : Oper} {a : Act} {t e : TypeId}
theorem wpStill_loadR {Q : Act → Prop} {d : TypeDesc} {n : Nat} (E : Rw P t d n) (hw : Region.wanted o (yielded ops a.tmps) = true) (x : Operand) (hop : o.op = .load t x) {g off : Nat} {vs : List Value} (hx : a.eval x = .pointer (some ⟨g, off, none⟩)) (hr : w.rangeAt g off vs) (hn : vs.length = n)
    (h : wpStill P ops w Q rest (a.put o.dst (.agg vs.toArray))) : wpStill P ops w Q (o :: rest) a := by
  refine wpStill_step fun K hK => ?_
  rw [if_pos hw]
  unfold Oper.still
  simp only [execOp, hop, hx, Sem.run_bind, run_loadAt_mid w g off t vs d hr E.ty E.row (by rw [E.size, hn]), Result.andThen_ok, Sem.run_pure]
  exact ⟨rfl, hK _ h⟩
theorem wpStill_neq {Q : Act → Prop} (hG : P.eqGuardType P.depth t = false) (hw : Region.wanted o (yielded ops a.tmps) = true) (x y : Operand) {t' : TypeId} (hop : o.op = .binOp .neq t x y t') {u v : Array Value} (hx : a.eval x = .agg u) (hy : a.eval y = .agg v) {q : Bool}
    (hr : (Op.equalIn 10000 t (.agg u) (.agg v)).run P w = .ok q w)
    (h : wpStill P ops w Q rest (a.put o.dst (.bool (!q)))) : wpStill P ops w Q (o :: rest) a := by
  refine wpStill_step fun K hK => ?_
  rw [if_pos hw]
  unfold Oper.still
  simp only [execOp, hop, hx, hy, Sem.run_bind, run_eqGuard_agg (w := w) _ _ _ _ _ _ hG, Result.andThen_ok, run_neq_struct, hr, Sem.run_pure]
  exact ⟨rfl, hK _ h⟩
theorem wpList_build2 {Q : Exit → Act → World → Prop} (hg : o.guard = none) (i j : Nat) (x y : Operand) (hop : o.op = .build t #[(i, x), (j, y)]) {v u : Value} (hx : a.eval x = v) (hy : a.eval y = u) {cs : List Value} (hb : P.built t [(i, v), (j, u)] = some cs.toArray)
    (h : wpList P ops Q rest (a.put o.dst (.agg cs.toArray)) w) : wpList P ops Q (o :: rest) a w := by
  refine wpList_plain hg fun K hK => ?_
  unfold Oper.wp execOp
  have hr := run_build (P := P) w t #[(i, v), (j, u)] cs.toArray (by simpa using hb)
  simp only [hop, Sem.run_bind, List.map_toArray, List.map_cons, List.map_nil, hx, hy, hr, Result.andThen_ok, Sem.run_pure]
  exact hK _ _ h
end
theorem built_en (l : List UInt8) (z : Int) : (Try.prog).built 39 [(0, .string ⟨l.toArray⟩), (1, .int .i64 z)] = some (enOne (l, z)).toArray := by kernel_rfl
section
set_option maxRecDepth 100000
set_option maxHeartbeats 4000000
theorem sameen_any (A B : Option Addr) (n c m d : Nat) (xs ys : List En) (w : World) (L M : Nat) (ha : Ens w L A n c xs) (hb : Ens w M B m d ys) :
    Calls Try.prog 18 #[.slice A n c, .slice B m d] w fun e w' => e = .returned (.bool (xs == ys)) ∧ Below w.heap.size w w' := by
  have HA : Kp _ := ⟨ha⟩
  have HB : Kp _ := ⟨hb⟩
  have HX : Kp (xs.length = n) := ⟨ha.len⟩
  have HY : Kp (ys.length = m) := ⟨hb.len⟩
  have hn63 := ha.le
  have hm63 := hb.le
  clear ha hb
  by_cases hnm : n = m
  · subst hnm
    go_enter Try.func18, Try.ntmps18
    go_wp2
    go_loopg [5] n (fun gk v5 wr => ∃ k : Nat, k + gk = n ∧ v5 = .int .i64 (k : Int) ∧ Kp (xs.take k = ys.take k) ∧ Kp (∀ B, Below B w wr))
    case atStart => exact ⟨0, by omega, rfl, ⟨by simp⟩, ⟨fun _ => Below.refl _ _⟩⟩
    case round =>
      obtain ⟨k, hkm, rfl, HE, HS⟩ := hrel
      cases gk with
      | zero =>
        have hend : ¬ ((k : Int) < (n : Int)) := by omega
        have HV : Kp ((xs == ys) = true) := ⟨by
          have h := HE.out
          rw [List.take_of_length_le (by rw [HX.out]; omega), List.take_of_length_le (by rw [HY.out]; omega)] at h
          rw [h]; simp⟩
        go_wp2
        go_ret
        exact ⟨by rw [HV.out]; rfl, HS.out _⟩
      | succ g2 =>
        have hgo : (k : Int) < (n : Int) := by omega
        have hin : k < n := by omega
        obtain ⟨b1, o1, rfl, hl1, hc1⟩ := HA.out.range_at hin
        obtain ⟨b2, o2, rfl, hl2, hc2⟩ := HB.out.range_at hin
        have hx : k < xs.length := by rw [HX.out]; exact hin
        have hy : k < ys.length := by rw [HY.out]; exact hin
        obtain ⟨x, hxe⟩ : ∃ x, x = xs[k] := ⟨_, rfl⟩
        obtain ⟨y, hye⟩ : ∃ y, y = ys[k] := ⟨_, rfl⟩
        rw [← hxe] at hc1
        rw [← hye] at hc2
        have hk1 : wr.drew.rangeAt b1 (o1 + k * 2) (enOne x) := range_below hc1 ((HS.out (b1 + 1)).drew) (Nat.lt_succ_self _)
        have hk2 : wr.drew.rangeAt b2 (o2 + k * 2) (enOne y) := range_below hc2 ((HS.out (b2 + 1)).drew) (Nat.lt_succ_self _)
        have HK1 : Kp _ := ⟨hk1⟩
        have HK2 : Kp _ := ⟨hk2⟩
        have HT1 : Kp (xs.take (k + 1) = xs.take k ++ [x]) := ⟨by rw [hxe, List.take_succ_eq_append_getElem hx]⟩
        have HT2 : Kp (ys.take (k + 1) = ys.take k ++ [y]) := ⟨by rw [hye, List.take_succ_eq_append_getElem hy]⟩
        have HNe : Kp (x ≠ y → (xs == ys) = false) := ⟨fun h => by
          rw [beq_eq_false_iff_ne]
          intro e
          apply h
          rw [hxe, hye]
          simp [e]⟩
        have HS2 : Kp (∀ B, Below B w wr.drew) := ⟨fun B => (HS.out B).drew⟩
        clear hc1 hc2 hxe hye hk1 hk2 hl1 hl2
        go_upto_region 6 with fail
        refine wp_region_still_lit (by kernel_rfl) (by kernel_rfl) ?_
        change wpStill _ _ wr.drew (fun a' => Exit.then _ _ Exit.normal a' wr.drew) _ _
        generalize wr.drew = w2 at *
        repeat (first
          | refine wpStill_loadR (o := ⟨some 20, _, _, _, _, _⟩) rwEn rfl (.tmp 19) rfl rfl HK1.out rfl ?_
          | refine wpStill_loadR (o := ⟨some 24, _, _, _, _, _⟩) rwEn rfl (.tmp 23) rfl rfl HK2.out rfl ?_
          | refine wpStill_neq (o := ⟨some 25, _, _, _, _, _⟩) eqGE rfl (.tmp 20) (.tmp 24) rfl rfl rfl (run_eqEn w2 x y) ?_
          | still_step)
        refine wpStill_nil ?_
        cases hq : x == y with
        | true =>
          have hxy := eq_of_beq hq
          have HE2 : Kp (xs.take (k + 1) = ys.take (k + 1)) := ⟨by rw [HT1.out, HT2.out, HE.out, hxy]⟩
          clear hq hxy
          go_wp2
          go_roundg g2
          case measure => omega
          case rel => exact ⟨k + 1, by omega, by go_num, HE2, HS2⟩
        | false =>
          have HV : Kp ((xs == ys) = false) := ⟨HNe.out (by simpa using hq)⟩
          clear hq
          go_wp2
          go_ret
          exact ⟨by rw [HV.out]; rfl, HS2.out _⟩
  · have hne : ¬ ((n : Int) = (m : Int)) := by omega
    have HV : Kp ((xs == ys) = false) := ⟨by
      rw [beq_eq_false_iff_ne]
      intro e
      rw [e] at HX
      exact hnm (HX.out.symm.trans HY.out)⟩
    go_enter Try.func18, Try.ntmps18
    go_wp2
    go_ret
    exact ⟨by rw [HV.out]; rfl, Below.refl _ _⟩
end
def aL : List UInt8 := [97]
def bL : List UInt8 := [98]
def cL : List UInt8 := [99]
theorem run_buildEn2 (w : World) (x y : En) : (Instr.buildSlice 22 2 #[(0, .agg (enOne x).toArray), (1, .agg (enOne y).toArray)]).run Try.prog w = .ok (.slice (some ⟨w.heap.size, 0, none⟩) 2 2) (w.alloc (.cells (enOne x ++ enOne y).toArray 39)) := by
  simp only [enOne]
  go_simp
theorem put_known : putR [(aL, 1), (cL, 2)] (bL, 3) = [(aL, 1), (bL, 3), (cL, 2)] ∧ putC [(aL, 1), (cL, 2)] (bL, 3) = 0 ∧ putC [(aL, 1), (cL, 2)] (aL, 3) = 13 ∧ okNm dotsL = false ∧ okNm [46, 46, 46] = true := by decide +kernel
theorem ok_small (l : List UInt8) (z : Int) (h : l.length ≤ 4) (h1 : 0 ≤ z) (h2 : z ≤ 100) : EnOk (l, z) := ⟨by simp only; omega, by simp only; exact WalkArith.wf_i64 ⟨by omega, by omega⟩⟩
section
variable {w : World} {ops : Array Oper} {rest : List Oper} {o : Oper} {a : Act} {Q : Exit → Act → World → Prop}
theorem wpList_buildEn2 (hgd : o.guard = none) (y z : Operand) (hop : o.op = .buildSlice 22 2 #[(0, y), (1, z)]) (x x' : En) (hx : a.eval y = .agg (enOne x).toArray) (hx' : a.eval z = .agg (enOne x').toArray)
    (h : wpList Try.prog ops Q rest (a.put o.dst (.slice (some ⟨w.heap.size, 0, none⟩) 2 2)) (w.alloc (.cells (enOne x ++ enOne x').toArray 39))) : wpList Try.prog ops Q (o :: rest) a w := by
  refine wpList_plain hgd fun K hK => ?_
  unfold Oper.wp execOp
  simp only [hop, Sem.run_bind, List.map_toArray, List.map_cons, List.map_nil, hx, hx', run_buildEn2 w x x', Result.andThen_ok, Sem.run_pure]
  exact hK _ _ h
end
theorem ens_two (w : World) (t : TypeId) (x y : En) (hx : EnOk x) (hy : EnOk y) : Ens (w.alloc (.cells (enOne x ++ enOne y).toArray t)) (w.alloc (.cells (enOne x ++ enOne y).toArray t)).heap.size (some ⟨w.heap.size, 0, none⟩) 2 2 [x, y] := by
  have hk := Blk.new w t (enOne x ++ enOne y)
  refine ⟨rfl, Nat.le_refl _, by simp [maxLen], (fun h => by cases h), fun v hv => ?_, fun _ => ⟨w.heap.size, 0, rfl, by simp, fun j hj => ?_⟩⟩
  · simp at hv
    rcases hv with rfl | rfl
    · exact hx
    · exact hy
  · rcases (by simp at hj; omega : j = 0 ∨ j = 1) with rfl | rfl
    · exact ⟨hk.cell? 0, hk.cell? 1⟩
    · exact ⟨hk.cell? 2, hk.cell? 3⟩
set_option maxRecDepth 100000 in
set_option maxHeartbeats 4000000 in
theorem known14_any (w : World) : Calls Try.prog 12 #[] w fun e w' => e = .returned (.bool true) ∧ Below w.heap.size w w' := by
  have O1 : Kp _ := ⟨ok_small aL 1 (by decide) (by decide) (by decide)⟩
  have O2 : Kp _ := ⟨ok_small cL 2 (by decide) (by decide) (by decide)⟩
  have O3 : Kp _ := ⟨ok_small bL 3 (by decide) (by decide) (by decide)⟩
  have O4 : Kp _ := ⟨ok_small aL 3 (by decide) (by decide) (by decide)⟩
  have e1 : okNm [46, 46] = false := put_known.2.2.2.1
  have e2 : okNm [46, 46, 46] = true := put_known.2.2.2.2
  have N0 : Kp (∀ (l : List UInt8) W, l.length ≤ 10 → Calls Try.prog 25 #[.string ⟨l.toArray⟩] W fun e w' => e = .returned (.bool (okNm l)) ∧ Below W.heap.size W w') := ⟨fun l W h => named_any l W (by omega)⟩
  go_enter Try.func12, Try.ntmps12
  go_wp2_with (first
    | (refine wpList_build2 (o := ⟨some 6, _, _, _, _, _⟩) rfl 0 1 _ _ rfl rfl rfl (built_en aL 1) ?_)
    | (refine wpList_build2 (o := ⟨some 7, _, _, _, _, _⟩) rfl 0 1 _ _ rfl rfl rfl (built_en cL 2) ?_)
    | (refine wpList_buildEn2 (o := ⟨some 8, _, _, _, _, _⟩) rfl _ _ rfl (aL, 1) (cL, 2) rfl rfl ?_
       have HL1 : Kp _ := ⟨ens_two w 39 (aL, 1) (cL, 2) O1.out O2.out⟩
       have HB1 : Kp (Below w.heap.size w (w.alloc (.cells (enOne (aL, 1) ++ enOne (cL, 2)).toArray 39))) := ⟨(Below.refl _ _).alloc (Nat.le_refl _) _⟩
       obtain ⟨g, hg⟩ : ∃ g, g = w.heap.size := ⟨_, rfl⟩
       simp only [← hg] at HL1 ⊢
       generalize w.alloc (.cells (enOne (aL, 1) ++ enOne (cL, 2)).toArray 39) = w1 at *)
    | (refine wpList_build2 (o := ⟨some 11, _, _, _, _, _⟩) rfl 0 1 _ _ rfl rfl rfl (built_en bL 3) ?_))
  rw [← hg]
  have HG : Kp _ := ⟨hg⟩
  clear hg
  refine (put_any_en (some ⟨g, 0, none⟩) 2 2 [(aL, 1), (cL, 2)] bL 3 w1 HL1.out (by omega) O3.out).mono ?_
  rintro e w2 ⟨A2, n2, c2, rfl, h2, hb2⟩
  rw [put_known.1] at h2
  rw [put_known.2.1]
  obtain rfl : n2 = 3 := h2.len.symm
  have H2 : Kp _ := ⟨h2⟩
  have HB2 : Kp (Below w.heap.size w w2) := ⟨HB1.out.trans (hb2.mono HB1.out.size)⟩
  have HL2 : Kp _ := ⟨HL1.out.next hb2 (Nat.le_refl _)⟩
  clear h2 hb2
  go_wp2_with (refine wpList_build2 (o := ⟨some 17, _, _, _, _, _⟩) rfl 0 1 _ _ rfl rfl rfl (built_en aL 3) ?_)
  refine (put_any_en (some ⟨g, 0, none⟩) 2 2 [(aL, 1), (cL, 2)] aL 3 w2 HL2.out (by omega) O4.out).mono ?_
  rintro e w3 ⟨A3, n3, c3, rfl, h3, hb3⟩
  rw [put_known.2.2.1]
  have HB3 : Kp (Below w.heap.size w w3) := ⟨HB2.out.trans (hb3.mono HB2.out.size)⟩
  obtain ⟨b4, o4, rfl, _, k0, _⟩ := (H2.out.below hb3).at (i := 1) (by omega)
  have k1 : w3.cell? ⟨b4, o4 + 2, none⟩ = some (.string ⟨[98].toArray⟩) := k0
  clear h3
  have HB3' := HB3.out
  clear HB3
  go_wp2_with (go_at_call 25; refine (N0.out _ _ (by decide)).mono ?_; rintro e w4 ⟨rfl, hb4⟩; replace HB3' := HB3'.trans (hb4.mono HB3'.size); clear hb4)
  go_wp2
  go_ret
  exact ⟨rfl, HB3'⟩
end Go.Proofs.Ytaedlaeflliibaa
