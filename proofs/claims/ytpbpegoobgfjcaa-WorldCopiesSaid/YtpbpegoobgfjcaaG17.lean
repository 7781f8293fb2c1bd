/- The contract of the document's New of a world of four blocks.
   The contract of the document's New of a world of four blocks.
   The contract of sacristanref06's SameTrace, of two that read alike.
   Worlds, bytes that are held, and worlds as the document keeps them, side by side; what is done with one of each.
   A block that holds no byte: bytes lie apart from it, so that a store into it leaves the Worlds, and what is held, as they were.
   Worlds, bytes that are held, worlds as the document keeps them, and the variables that hold those: what a statement's walk carries.
   World.Copy over what a statement's walk carries. -/
import Derived.Test.YtpbpegoobgfjcaaG16
import Derived.Test.YtpbpegoobgfjcaaG07
import Derived.Test.YtpbpegoobgfjcaaG08
import Derived.StillTailTactics
import Derived.Test.YtpbpegoobgfjcaaG09
namespace Go.Proofs.Ytpbpegoobgfjcaa
open Go.RowKit

section
variable {P : Program} {w : World} {ops : Array Oper} {o : Oper} {a : Act} {Q : Exit → Act → World → Prop} {t e : TypeId} {z : Value} {bytes : Nat}
/-- make of n, all noughts, in a region whose order is open -/
theorem step_mkF {K : Act → World → Prop} {C : Prop} (E : El P t e z bytes) (hg : o.guard = none) (l c : Operand) (hop : o.op = Op.makeSlice t l c) (kl kc : IntKind) (L D : Int) (n : Nat) (hl : a.eval l = .int kl L) (hc : a.eval c = .int kc D) (hL : L = (n : Int)) (hC : D = (n : Int)) (hb : bytes * n ≤ 281474976710656) (b3 : n ≤ maxLen)
    (h : ∀ w', w'.ownsRow w.heap.size e 1 (.slice (some ⟨w.heap.size, 0, none⟩) n n) n (List.replicate n z) → Below w.heap.size w w' → K (a.put o.dst (.slice (some ⟨w.heap.size, 0, none⟩) n n)) w') :
    if Region.wanted o (yielded ops a.tmps) = true then Oper.wp P o a w K Q else C := by
  have hw : Region.wanted o (yielded ops a.tmps) = true := by simp [Region.wanted, hg]
  rw [if_pos hw]
  obtain ⟨i, hi, hz0, hz1, hz2⟩ := info_parts E.info
  obtain ⟨w', hrun, r1, r2⟩ := run_make_full (P := P) w w.heap.size t e i z 1 E.ty hi hz0 hz1 kl kc n (by rw [hz2]; exact hb) b3 (Nat.le_refl _)
  subst hL hC
  unfold Oper.wp
  simp only [execOp, hop, hl, hc, Sem.run_bind, hrun, Result.andThen_ok, Sem.run_pure]
  refine h w' ?_ ((Below.refl _ _).grown r2 (Nat.le_refl _) (by simp))
  have e1 : (madeCells z.cells (n * 1)).toList = List.replicate n z := by rw [E.one, Nat.mul_one, toList_madeCells_one]
  rwa [e1] at r1
end
def a0 (eA : Option Addr) (v : Option Addr × Nat × Nat) : Ta := ⟨v.1, v.2.1, v.2.2, eA, 2, none, 0, 0, none, 0, 0, 0⟩
theorem T_built (A : Option Addr) : (Try.prog).built 42 [(0, .int .i64 4), (2, .slice A 2 2)] = some (tvL (a0 A (none, 0, 0)) (newW 4)).toArray := by kernel_rfl
end Go.Proofs.Ytpbpegoobgfjcaa

namespace Go.Proofs.Ytpbpegoobgfjcaa
open Go.RowKit

section
variable {P : Program} {w : World} {ops : Array Oper} {rest : List Oper} {o : Oper} {a : Act} {Q : Exit → Act → World → Prop} {t : TypeId}
theorem wpList_buildTwo (hg : o.guard = none) (i j : Nat) (x y : Operand) (hop : o.op = .build t #[(i, x), (j, y)]) {v u : Value} (hx : a.eval x = v) (hy : a.eval y = u) {cs : List Value} (hb : P.built t [(i, v), (j, u)] = some cs.toArray)
    (h : wpList P ops Q rest (a.put o.dst (.agg cs.toArray)) w) : wpList P ops Q (o :: rest) a w := by
  refine wpList_plain hg fun K hK => ?_
  unfold Oper.wp execOp
  have hr := run_build (P := P) w t #[(i, v), (j, u)] cs.toArray (by simpa using hb)
  simp only [hop, Sem.run_bind, List.map_toArray, List.map_cons, List.map_nil, hx, hy, hr, Result.andThen_ok]
  exact hK _ _ h
end
/-- what a row's own block and the blocks ahead of it are -/
def NewM (g0 : Nat) (A : Option Addr) (c k : Nat) : Nat → Prop := fun b => b < g0 + 3 ∨ (Value.slice A k c).ownBlock = some b
structure NewT (w0 wr : World) (A : Option Addr) (c k : Nat) (vs : List Value) : Prop where
  res : Blk wr w0.heap.size 42 zeroT'
  seals : Blk wr (w0.heap.size + 1) 22 [.slice none 0 0, .slice none 0 0]
  blk : Blk wr (w0.heap.size + 2) 42 (tvL (a0 (some ⟨w0.heap.size + 1, 0, none⟩) (A, k, c)) (newW 4))
  own : wr.ownsRow (w0.heap.size + 3) 22 1 (.slice A k c) k vs
  each : ∀ j, j < k → ∃ v, vs[j]? = some v ∧ BsV wr (NewM w0.heap.size A c k) v z272
  below : Below w0.heap.size w0 wr
theorem NewT.size {w0 wr : World} {A : Option Addr} {c k : Nat} {vs : List Value} (h : NewT w0 wr A c k vs) : w0.heap.size + 3 ≤ wr.heap.size := h.blk.lt
theorem NewT.drew {w0 wr : World} {A : Option Addr} {c k : Nat} {vs : List Value} (h : NewT w0 wr A c k vs) : NewT w0 wr.drew A c k vs :=
  ⟨h.res.drew, h.seals.drew, h.blk.drew, h.own.drew, fun j hj => by
    obtain ⟨v, e, A', n', c', e2, hb⟩ := h.each j hj
    exact ⟨v, e, A', n', c', e2, hb.chg (Chg.drew0 (fun _ => False) wr) (fun _ h => h.elim) (fun _ h => .inl h)⟩, h.below.drew⟩
theorem NewT.step {w0 wS u w' : World} {A : Option Addr} {c k : Nat} {vs : List Value} (h : NewT w0 wS A c k vs) (hu : Below wS.heap.size wS u) {Af : Option Addr} {cf : Nat} (hf : BsM u (fun b => b < wS.heap.size) Af 272 cf z272) {v' : Value}
    (hown : w'.ownsRow (w0.heap.size + 3) 22 1 v' (k + 1) (vs ++ [.slice Af 272 cf])) (hb : Below (w0.heap.size + 3) u w')
    (hk : ∀ g, (Value.slice A k c).ownBlock ≠ some g → g < u.heap.size → w'.heap[g]? = u.heap[g]?) (hloc : v'.ownBlock = (Value.slice A k c).ownBlock ∨ ∃ g, v'.ownBlock = some g ∧ u.heap.size ≤ g) :
    ∃ A' c', v' = .slice A' (k + 1) c' ∧ Blk w' (w0.heap.size + 2) 42 (tvL (a0 (some ⟨w0.heap.size + 1, 0, none⟩) (A, k, c)) (newW 4)) ∧
      NewT w0 (w'.setCell ⟨w0.heap.size + 2, 1, none⟩ (.slice A' (k + 1) c')) A' c' (k + 1) (vs ++ [.slice Af 272 cf]) := by
  have hsz := h.size
  have hus := hu.size
  obtain ⟨A', c', rfl, hrow⟩ := RwM.of_own (M := fun b => b < w0.heap.size + 3) hown (fun _ h => h)
  have HB : Below (w0.heap.size + 3) wS w' := (hu.mono hsz).trans hb
  have hbk : Blk w' (w0.heap.size + 2) 42 (tvL (a0 (some ⟨w0.heap.size + 1, 0, none⟩) (A, k, c)) (newW 4)) := h.blk.below HB (by omega)
  have ho : Only (w0.heap.size + 2) w' (w'.setCell ⟨w0.heap.size + 2, 1, none⟩ (.slice A' (k + 1) c')) := Only.setCell w' ⟨w0.heap.size + 2, 1, none⟩ (.slice A' (k + 1) c')
  have hlen : vs.length = k := by have := h.own.1; omega
  have hne : ∀ g, (Value.slice A' (k + 1) c').ownBlock = some g → g ≠ w0.heap.size + 2 := fun g hg e => by
    rcases hown.2 with ⟨e1, _⟩ | ⟨g', cap, cur, e1, hg', _⟩
    · rw [e1] at hg; cases hg
    · rw [e1] at hg
      have := Option.some.inj hg
      simp at this
      omega
  have hsub : Chg (NewM w0.heap.size A c k) u (w'.setCell ⟨w0.heap.size + 2, 1, none⟩ (.slice A' (k + 1) c')) := by
    refine ⟨ho.os.trans hb.os, ho.tape.trans hb.tape, ho.output.trans hb.output, by rw [ho.size]; exact hb.size, fun b hb' hn => ?_⟩
    rw [ho.block b (fun e => hn (.inl (by omega))), hk b (fun e => hn (.inr e)) hb']
  have hM : ∀ b, NewM w0.heap.size A' c' (k + 1) b → NewM w0.heap.size A c k b ∨ u.heap.size ≤ b := fun b hb' => by
    rcases hb' with h1 | h1
    · exact .inl (.inl h1)
    · rcases hloc with e | ⟨g, e, hg⟩
      · exact .inl (.inr (e ▸ h1))
      · rw [e] at h1
        have := Option.some.inj h1
        exact .inr (by omega)
  have hfM : BsM u (NewM w0.heap.size A c k) Af 272 cf z272 := hf.weak (fun b hb' => by
    rcases hb' with h1 | h1
    · show b < wS.heap.size
      omega
    · rcases h.own.2 with ⟨e1, _⟩ | ⟨g', cap, cur, e1, _, hh, _⟩
      · rw [e1] at h1; cases h1
      · rw [e1] at h1
        have := Option.some.inj h1
        have h9 := (Array.getElem?_eq_some_iff.1 hh).1
        simp at this
        show b < wS.heap.size
        omega)
  refine ⟨A', c', rfl, hbk, ⟨(h.res.below HB (by omega)).only ho (by omega), (h.seals.below HB (by omega)).only ho (by omega), hbk.set 1 _, ?_, fun j hj => ?_, ?_⟩⟩
  · exact hown.kept (row := some (w0.heap.size + 2)) ⟨ho.os, ho.tape, ho.output, by rw [ho.size]; exact Nat.le_refl _, fun j _ hj => ho.block j (fun e => hj (by rw [e]))⟩ (.inr (fun e => hne _ e rfl))
  · by_cases hjk : j < k
    · obtain ⟨v, e, A2, n2, c2, e2, hb2⟩ := h.each j hjk
      refine ⟨v, by rw [List.getElem?_append_left (by omega)]; exact e, A2, n2, c2, e2, (hb2.below hu).chg hsub (fun _ h => h) hM⟩
    · obtain rfl : j = k := by omega
      exact ⟨_, by rw [List.getElem?_append_right (by omega), hlen, Nat.sub_self]; rfl, Af, 272, cf, rfl, hfM.chg hsub (fun _ h => h) hM⟩
  · exact (h.below.trans (HB.mono (by omega))).trans (ho.below (by omega))
theorem new_row {w wr : World} {B : Nat} (ho : wr.ownsRow w.heap.size 5 1 (.slice (some ⟨w.heap.size, 0, none⟩) 272 272) 272 (List.replicate 272 (.int .u8 0))) (hB : B ≤ w.heap.size) : BsM wr (fun b => b < B) (some ⟨w.heap.size, 0, none⟩) 272 272 z272 := by
  have e : List.replicate 272 (Value.int .u8 0) = cells8 z272 := by unfold cells8 z272; rw [List.map_replicate]; rfl
  rw [e] at ho
  obtain ⟨A, c, e1, h⟩ := BsM.of_own (M := fun b => b < B) ho (fun k hk => Nat.lt_of_lt_of_le hk hB) (by omega)
  injection e1 with e2 e3 e4
  rw [← e2, ← e4] at h
  exact h
theorem NewT.done {w0 wr : World} {A : Option Addr} {c : Nat} {vs : List Value} (h : NewT w0 wr A c 8 vs) {M : Nat → Prop} (hM : ∀ b, M b → b < w0.heap.size + 1) : TvM wr M (a0 (some ⟨w0.heap.size + 1, 0, none⟩) (A, 8, c)) (newW 4) := by
  have hw : ∀ b, M b → NewM w0.heap.size A c 8 b := fun b hb => .inl (by have := hM b hb; omega)
  refine ⟨⟨vs, ?_, rfl, fun i hi s hs => ?_⟩, ⟨.slice none 0 0, .slice none 0 0, ?_, ⟨none, 0, 0, rfl, BsM.zero _ _⟩, ⟨none, 0, 0, rfl, BsM.zero _ _⟩⟩, ⟨[], [], RwM.zero _ _ _, ⟨rfl, fun j hj => absurd hj (by simp)⟩, fun z _ => rfl⟩, ⟨[], RwM.zero _ _ _, TrL.nil _ _⟩, fun h => (by cases h), by simp [a0], by simp [newW], by simp [newW]⟩
  · obtain ⟨A', c', e, hr⟩ := RwM.of_own (M := M) h.own (fun b hb => by have := hM b hb; omega)
    injection e with e1 e2 e3
    rw [← e1, ← e3] at hr
    exact hr
  · have hi' : i < 4 := hi
    obtain ⟨v, e, A2, n2, c2, e2, hb2⟩ := h.each (2 * i + s) (by omega)
    exact ⟨v, e, ⟨A2, n2, c2, e2, hb2.weak hw⟩, by show z272.length = 272; simp only [z272, List.length_replicate]⟩
  · exact RwM.of_blk (rest := []) h.seals rfl (fun h9 => by have := hM _ h9; omega) (Nat.le_refl _) (by simp [a0, maxLen])

set_option maxRecDepth 100000 in
set_option maxHeartbeats 8000000 in
theorem rnew_any (w : World) :
    Calls Try.prog 22 #[.int .i64 4] w fun e w' => ∃ a', e = .returned (.agg (tvL a' (newW 4)).toArray) ∧ Below w.heap.size w w' ∧ a'.ln = 0 ∧ ∀ M : Nat → Prop, (∀ k, M k → k < w.heap.size) → TvM w' M a' (newW 4) := by
  have HZ : Kp (zeroT'.length = 10) := ⟨rfl⟩
  have HBu : Kp _ := ⟨T_built (some ⟨w.heap.size + 1, 0, none⟩)⟩
  have HLn : Kp _ := ⟨tvL_length (a0 (some ⟨w.heap.size + 1, 0, none⟩) (none, 0, 0)) (newW 4)⟩
  have HOn : Kp _ := ⟨tvL_one (a0 (some ⟨w.heap.size + 1, 0, none⟩) (none, 0, 0)) (newW 4)⟩
  go_enter Try.func22, Try.ntmps22
  go_wp2_with (with_reducible refine wpList_alloc (o := ⟨some 2, _, _, _, _, _⟩) tyT rfl rfl ?_)
  intro w1 hk1 hb1 hs1
  have HR1 : Kp _ := ⟨hk1⟩
  have HS1 : Kp _ := ⟨hs1⟩
  have hB1 := hb1
  clear hk1 hb1 hs1
  go_wp2_with (first
    | (refine wpList_buildTwo (o := ⟨some 9, _, _, _, _, _⟩) rfl 0 2 (.tmp 7) (.tmp 8) rfl rfl (by rw [HS1.out]; exact HBu.out) ?_)
    | (with_reducible refine wpList_alloc (o := ⟨some 3, _, _, _, _, _⟩) tyT rfl rfl ?_))
  intro w2 hk2 hb2 hs2
  have hq : Blk (w1.alloc (.cells #[.slice none 0 0, .slice none 0 0] 22)) w1.heap.size 22 [.slice none 0 0, .slice none 0 0] := Blk.new w1 22 [.slice none 0 0, .slice none 0 0]
  have hr : Blk (w1.alloc (.cells #[.slice none 0 0, .slice none 0 0] 22)) w.heap.size 42 zeroT' := HR1.out.below ((Below.refl _ _).alloc (Nat.le_refl _) _) HR1.out.lt
  have hb : Below w.heap.size w (w1.alloc (.cells #[.slice none 0 0, .slice none 0 0] 22)) := hB1.alloc hB1.size _
  simp only [HS1.out] at hk2 hb2 hs2 hq hr hb ⊢
  have HK2 : Kp _ := ⟨hk2⟩
  have HQ2 : Kp _ := ⟨hq.below hb2 (by omega)⟩
  have HR2 : Kp _ := ⟨hr.below hb2 (by omega)⟩
  have hB2 := hb.trans (hb2.mono (by omega))
  clear hk2 hb2 hs2 hq hr hb hB1 HR1
  go_wp2_with (with_reducible refine wpList_storeAll (o := ⟨none, _, _, _, _, _⟩) (vs := tvL (a0 (some ⟨w.heap.size + 1, 0, none⟩) (none, 0, 0)) (newW 4)) rwT rfl (.tmp 3) (.tmp 9) rfl rfl HK2.out HZ.out HLn.out HOn.out rfl ?_)
  intro w3 hk3 ho3
  have h0 : NewT w w3 none 0 0 [] := ⟨HR2.out.only ho3 (by omega), HQ2.out.only ho3 (by omega), hk3, World.ownsRow_nil _ _ _ _, fun j hj => absurd hj (by omega), hB2.trans (ho3.below (by omega))⟩
  have H0 : Kp _ := ⟨h0⟩
  clear hk3 ho3 hB2 HK2 HQ2 HR2 HS1 h0 HZ HBu HLn HOn
  go_wp2
  go_loopg [4] 8 (fun gk v4 wr => ∃ k : Nat, k + gk = 8 ∧ v4 = .int .i64 k ∧ Kp (∃ A c vs, NewT w wr A c k vs))
  case atStart => exact ⟨0, by omega, rfl, ⟨_, _, _, H0.out⟩⟩
  case round =>
    clear H0
    obtain ⟨k, hk, rfl, ⟨A, c, vs, hn⟩⟩ := hrel
    have HN : Kp _ := ⟨hn⟩
    have c0 : wr.cell? ⟨w.heap.size + 2, 0, none⟩ = some (.int .i64 4) := by rw [hn.blk.cell? 0]; rfl
    clear hn
    cases gk with
    | zero =>
      obtain rfl : k = 8 := by omega
      have HLn : Kp _ := ⟨tvL_length (a0 (some ⟨w.heap.size + 1, 0, none⟩) (A, 8, c)) (newW 4)⟩
      have HOn : Kp _ := ⟨tvL_one (a0 (some ⟨w.heap.size + 1, 0, none⟩) (A, 8, c)) (newW 4)⟩
      have HZ : Kp (zeroT'.length = 10) := ⟨rfl⟩
      have HK : Kp _ := ⟨HN.out.blk⟩
      have HR : Kp _ := ⟨HN.out.res⟩
      go_wp2_with (first
        | (with_reducible refine wpList_loadAll (o := ⟨some 23, _, _, _, _, _⟩) rwT rfl (.tmp 3) rfl rfl HK.out HLn.out ?_)
        | (with_reducible refine wpList_storeAll (o := ⟨none, _, _, _, _, _⟩) (vs := tvL (a0 (some ⟨w.heap.size + 1, 0, none⟩) (A, 8, c)) (newW 4)) rwT rfl (.tmp 2) (.tmp 23) rfl rfl HR.out HZ.out HLn.out HOn.out rfl ?_))
      intro w8 hk8 ho8
      have HK8 : Kp _ := ⟨hk8⟩
      have HO8 : Kp _ := ⟨ho8⟩
      clear hk8 ho8 c0
      go_wp2
      refine ret_arr rfl rwT rfl HK8.out (tvL_length _ _) rfl ?_
      refine ⟨a0 (some ⟨w.heap.size + 1, 0, none⟩) (A, 8, c), rfl, HN.out.below.trans (HO8.out.below (Nat.le_refl _)), rfl, fun M hM => ?_⟩
      have h1 := HN.out.done (M := fun b => M b ∨ b = w.heap.size) (fun b hb => hb.elim (fun h9 => Nat.lt_succ_of_lt (hM b h9)) (fun h9 => by omega))
      exact h1.chg (S := fun b => b = w.heap.size) (Chg.of_only HO8.out rfl) (fun b hb => .inr hb) (fun b hb => .inl (.inl hb))
    | succ g2 =>
      have hlt : (k : Int) < 8 := by omega
      have hk7 : k < 8 := by omega
      go_wp2_with fail
      have hN0 := HN.out.drew
      clear HN c0
      refine wp_region_any (by kernel_rfl) ?_
      change wpAny _ _ _ _ _ _ _ wr.drew
      generalize wr.drew = wS at *
      have HN : Kp _ := ⟨hN0⟩
      have hb0 : Below wS.heap.size wS wS := Below.refl _ _
      have HX : Kp (∀ W, Below wS.heap.size wS W → W.cell? ⟨w.heap.size + 2, 1, none⟩ = some (.slice A k c)) := ⟨fun W hW => by rw [(hN0.blk.below hW hN0.blk.lt).cell? 1]; rfl⟩
      obtain ⟨B0, hB0⟩ : ∃ B, B = wS.heap.size := ⟨_, rfl⟩
      have HB0 : Kp _ := ⟨hB0⟩
      clear hB0
      have HMs : Kp (maxLen = 9223372036854775807) := ⟨rfl⟩
      clear hN0
      refine wpAny_take (i := 0) (oi := ⟨some 17, _, _, _, _, _⟩) (v := ?_) rfl (by kernel_rfl) (by kernel_rfl) (by kernel_rfl) (fun _ _ _ h => h) (Or.inl ⟨by rfl, by intro w; go_simp; try rfl⟩) ?_
      try simp only [Act.put, List.setIfInBounds_toArray, List.set_cons_zero, List.set_cons_succ]
      refine wpAny_ready (rs := [1, 2]) (by kernel_rfl) (by simp) ?_
      refine AllReady.cons (o := ⟨some 18, _, _, _, _, _⟩) rfl (fun K hK => ?_) (AllReady.cons (o := ⟨some 19, _, _, _, _, _⟩) rfl (fun K hK => ?_) AllReady.nil)
      · have c9 := HX.out wS hb0
        go_simp
        refine hK _ _ ?_
        clear hK K c9
        try simp only [Act.put, List.setIfInBounds_toArray, List.set_cons_zero, List.set_cons_succ]
        refine wpAny_ready (rs := [2]) (by kernel_rfl) (by simp) ?_
        refine AllReady.cons (o := ⟨some 19, _, _, _, _, _⟩) rfl (fun K hK => ?_) AllReady.nil
        refine step_mkF el8 rfl (.const (.int .i64 272)) (.const (.int .i64 272)) rfl .i64 .i64 272 272 272 rfl rfl rfl rfl (by decide) (by simp [maxLen]) ?_
        intro w62 ho hb'
        have HF : Kp _ := ⟨new_row (B := B0) ho (by rw [HB0.out]; exact hb0.size)⟩
        replace hb0 := hb0.trans (hb'.mono hb0.size)
        clear ho hb'
        obtain ⟨g5, hg5⟩ : ∃ g, g = wS.heap.size := ⟨_, rfl⟩
        rw [← hg5] at HF ⊢
        clear hg5
        refine hK _ _ ?_
        clear hK K
        try simp only [Act.put, List.setIfInBounds_toArray, List.set_cons_zero, List.set_cons_succ]
        refine wpAny_ready (rs := [3]) (by kernel_rfl) (by simp) ?_
        refine AllReady.cons (o := ⟨some 20, _, _, _, _, _⟩) rfl (fun K hK => ?_) AllReady.nil
        have HU : Kp _ := ⟨hb0⟩
        go_simp
        refine hK _ _ ?_
        clear hK K
        try simp only [Act.put, List.setIfInBounds_toArray, List.set_cons_zero, List.set_cons_succ]
        replace hb0 := hb0.alloc hb0.size (.cells #[.slice (some ⟨g5, 0, none⟩) 272 272] 22)
        generalize hu : w62.alloc (.cells #[.slice (some ⟨g5, 0, none⟩) 272 272] 22) = w63 at *
        replace hu : Kp _ := ⟨hu.symm⟩
        refine wpAny_ready (rs := [4]) (by kernel_rfl) (by simp) ?_
        refine AllReady.cons (o := ⟨some 21, _, _, _, _, _⟩) rfl (fun K hK => ?_) AllReady.nil
        refine step_app1 _ hu.out elS rfl (.tmp 18) (.tmp 20) rfl (w.heap.size + 3) _ k vs rfl (ownS_below HN.out.own HU.out) rfl rfl (by rw [HMs.out]; omega) (by omega) (Nat.le_trans HN.out.size HU.out.size) ?_
        intro v3 w3 hown3 hb3 hk3 hloc3 _
        obtain ⟨A3, c3, rfl, hbk3, hn3⟩ := HN.out.step HU.out (by have q := HF.out; rw [HB0.out] at q; exact q) hown3 hb3 hk3 hloc3
        have HC : Kp _ := ⟨hn3⟩
        have c9 : w3.cell? ⟨w.heap.size + 2, 1, none⟩ = some (.slice A k c) := by rw [hbk3.cell? 1]; rfl
        have f9 := hbk3.frozen 1
        clear hown3 hb3 hk3 hloc3 hbk3 hn3
        refine hK _ _ ?_
        clear hK K
        try simp only [Act.put, List.setIfInBounds_toArray, List.set_cons_zero, List.set_cons_succ]
        refine wpAny_take (i := 5) (oi := ⟨some 22, _, _, _, _, _⟩) (v := ?_) rfl (by kernel_rfl) (by kernel_rfl) (by kernel_rfl) (fun _ _ _ h => h) (Or.inl ⟨by rfl, by intro w; go_simp; try rfl⟩) ?_
        try simp only [Act.put, List.setIfInBounds_toArray, List.set_cons_zero, List.set_cons_succ]
        refine wpAny_ready (rs := [6]) (by kernel_rfl) (by simp) ?_
        refine AllReady.cons (o := ⟨none, _, _, _, _, _⟩) rfl (fun K hK => ?_) AllReady.nil
        go_simp
        refine hK _ _ ?_
        clear hK K c9 f9
        try simp only [Act.put]
        refine wpAny_done (by kernel_rfl) ?_ _
        go_wp2
        go_roundg g2
        case measure => omega
        case rel => exact ⟨k + 1, by omega, by go_num, ⟨_, _, _, HC.out⟩⟩
      · refine step_mkF el8 rfl (.const (.int .i64 272)) (.const (.int .i64 272)) rfl .i64 .i64 272 272 272 rfl rfl rfl rfl (by decide) (by simp [maxLen]) ?_
        intro w66 ho hb'
        have HF : Kp _ := ⟨new_row (B := B0) ho (by rw [HB0.out]; exact hb0.size)⟩
        replace hb0 := hb0.trans (hb'.mono hb0.size)
        clear ho hb'
        obtain ⟨g5, hg5⟩ : ∃ g, g = wS.heap.size := ⟨_, rfl⟩
        rw [← hg5] at HF ⊢
        clear hg5
        refine hK _ _ ?_
        clear hK K
        try simp only [Act.put, List.setIfInBounds_toArray, List.set_cons_zero, List.set_cons_succ]
        refine wpAny_ready (rs := [1, 3]) (by kernel_rfl) (by simp) ?_
        refine AllReady.cons (o := ⟨some 18, _, _, _, _, _⟩) rfl (fun K hK => ?_) (AllReady.cons (o := ⟨some 20, _, _, _, _, _⟩) rfl (fun K hK => ?_) AllReady.nil)
        · have c9 := HX.out w66 hb0
          go_simp
          refine hK _ _ ?_
          clear hK K c9
          try simp only [Act.put, List.setIfInBounds_toArray, List.set_cons_zero, List.set_cons_succ]
          refine wpAny_ready (rs := [3]) (by kernel_rfl) (by simp) ?_
          refine AllReady.cons (o := ⟨some 20, _, _, _, _, _⟩) rfl (fun K hK => ?_) AllReady.nil
          have HU : Kp _ := ⟨hb0⟩
          go_simp
          refine hK _ _ ?_
          clear hK K
          try simp only [Act.put, List.setIfInBounds_toArray, List.set_cons_zero, List.set_cons_succ]
          replace hb0 := hb0.alloc hb0.size (.cells #[.slice (some ⟨g5, 0, none⟩) 272 272] 22)
          generalize hu : w66.alloc (.cells #[.slice (some ⟨g5, 0, none⟩) 272 272] 22) = w68 at *
          replace hu : Kp _ := ⟨hu.symm⟩
          refine wpAny_ready (rs := [4]) (by kernel_rfl) (by simp) ?_
          refine AllReady.cons (o := ⟨some 21, _, _, _, _, _⟩) rfl (fun K hK => ?_) AllReady.nil
          refine step_app1 _ hu.out elS rfl (.tmp 18) (.tmp 20) rfl (w.heap.size + 3) _ k vs rfl (ownS_below HN.out.own HU.out) rfl rfl (by rw [HMs.out]; omega) (by omega) (Nat.le_trans HN.out.size HU.out.size) ?_
          intro v3 w3 hown3 hb3 hk3 hloc3 _
          obtain ⟨A3, c3, rfl, hbk3, hn3⟩ := HN.out.step HU.out (by have q := HF.out; rw [HB0.out] at q; exact q) hown3 hb3 hk3 hloc3
          have HC : Kp _ := ⟨hn3⟩
          have c9 : w3.cell? ⟨w.heap.size + 2, 1, none⟩ = some (.slice A k c) := by rw [hbk3.cell? 1]; rfl
          have f9 := hbk3.frozen 1
          clear hown3 hb3 hk3 hloc3 hbk3 hn3
          refine hK _ _ ?_
          clear hK K
          try simp only [Act.put, List.setIfInBounds_toArray, List.set_cons_zero, List.set_cons_succ]
          refine wpAny_take (i := 5) (oi := ⟨some 22, _, _, _, _, _⟩) (v := ?_) rfl (by kernel_rfl) (by kernel_rfl) (by kernel_rfl) (fun _ _ _ h => h) (Or.inl ⟨by rfl, by intro w; go_simp; try rfl⟩) ?_
          try simp only [Act.put, List.setIfInBounds_toArray, List.set_cons_zero, List.set_cons_succ]
          refine wpAny_ready (rs := [6]) (by kernel_rfl) (by simp) ?_
          refine AllReady.cons (o := ⟨none, _, _, _, _, _⟩) rfl (fun K hK => ?_) AllReady.nil
          go_simp
          refine hK _ _ ?_
          clear hK K c9 f9
          try simp only [Act.put]
          refine wpAny_done (by kernel_rfl) ?_ _
          go_wp2
          go_roundg g2
          case measure => omega
          case rel => exact ⟨k + 1, by omega, by go_num, ⟨_, _, _, HC.out⟩⟩
        · have HU : Kp _ := ⟨hb0⟩
          go_simp
          refine hK _ _ ?_
          clear hK K
          try simp only [Act.put, List.setIfInBounds_toArray, List.set_cons_zero, List.set_cons_succ]
          replace hb0 := hb0.alloc hb0.size (.cells #[.slice (some ⟨g5, 0, none⟩) 272 272] 22)
          generalize hu : w66.alloc (.cells #[.slice (some ⟨g5, 0, none⟩) 272 272] 22) = w71 at *
          replace hu : Kp _ := ⟨hu.symm⟩
          refine wpAny_ready (rs := [1]) (by kernel_rfl) (by simp) ?_
          refine AllReady.cons (o := ⟨some 18, _, _, _, _, _⟩) rfl (fun K hK => ?_) AllReady.nil
          have c9 := HX.out w71 hb0
          go_simp
          refine hK _ _ ?_
          clear hK K c9
          try simp only [Act.put, List.setIfInBounds_toArray, List.set_cons_zero, List.set_cons_succ]
          refine wpAny_ready (rs := [4]) (by kernel_rfl) (by simp) ?_
          refine AllReady.cons (o := ⟨some 21, _, _, _, _, _⟩) rfl (fun K hK => ?_) AllReady.nil
          refine step_app1 _ hu.out elS rfl (.tmp 18) (.tmp 20) rfl (w.heap.size + 3) _ k vs rfl (ownS_below HN.out.own HU.out) rfl rfl (by rw [HMs.out]; omega) (by omega) (Nat.le_trans HN.out.size HU.out.size) ?_
          intro v3 w3 hown3 hb3 hk3 hloc3 _
          obtain ⟨A3, c3, rfl, hbk3, hn3⟩ := HN.out.step HU.out (by have q := HF.out; rw [HB0.out] at q; exact q) hown3 hb3 hk3 hloc3
          have HC : Kp _ := ⟨hn3⟩
          have c9 : w3.cell? ⟨w.heap.size + 2, 1, none⟩ = some (.slice A k c) := by rw [hbk3.cell? 1]; rfl
          have f9 := hbk3.frozen 1
          clear hown3 hb3 hk3 hloc3 hbk3 hn3
          refine hK _ _ ?_
          clear hK K
          try simp only [Act.put, List.setIfInBounds_toArray, List.set_cons_zero, List.set_cons_succ]
          refine wpAny_take (i := 5) (oi := ⟨some 22, _, _, _, _, _⟩) (v := ?_) rfl (by kernel_rfl) (by kernel_rfl) (by kernel_rfl) (fun _ _ _ h => h) (Or.inl ⟨by rfl, by intro w; go_simp; try rfl⟩) ?_
          try simp only [Act.put, List.setIfInBounds_toArray, List.set_cons_zero, List.set_cons_succ]
          refine wpAny_ready (rs := [6]) (by kernel_rfl) (by simp) ?_
          refine AllReady.cons (o := ⟨none, _, _, _, _, _⟩) rfl (fun K hK => ?_) AllReady.nil
          go_simp
          refine hK _ _ ?_
          clear hK K c9 f9
          try simp only [Act.put]
          refine wpAny_done (by kernel_rfl) ?_ _
          go_wp2
          go_roundg g2
          case measure => omega
          case rel => exact ⟨k + 1, by omega, by go_num, ⟨_, _, _, HC.out⟩⟩
end Go.Proofs.Ytpbpegoobgfjcaa

namespace Go.Proofs.Ytpbpegoobgfjcaa
open Go.RowKit

set_option maxRecDepth 100000 in
set_option maxHeartbeats 4000000 in
theorem sametrace_any (A : Option Addr) (n c : Nat) (B : Option Addr) (d : Nat) (tr : List Tr) (w : World) (ha : Ts w A n c tr) (hb : Ts w B n d tr) :
    Calls Try.prog 26 #[.slice A n c, .slice B n d] w fun e w' => e = .returned (.bool true) ∧ Below w.heap.size w w' := by
  have hn63 := ha.le
  have HA : Kp _ := ⟨ha⟩
  have HB : Kp _ := ⟨hb⟩
  clear ha hb
  go_enter Try.func26, Try.ntmps26
  go_wp2
  go_loopg [5] n (fun gk v5 wr => ∃ i : Nat, i + gk = n ∧ v5 = .int .i64 i ∧ Below w.heap.size w wr)
  case atStart => exact ⟨0, by omega, rfl, Below.refl _ _⟩
  case round =>
    obtain ⟨i, hi, rfl, hB⟩ := hrel
    cases gk with
    | zero =>
      have hlt : ¬ ((i : Int) < (n : Int)) := by omega
      go_wp2
      go_ret
      exact ⟨rfl, hB⟩
    | succ g2 =>
      have hlt : (i : Int) < (n : Int) := by omega
      have hin : i < n := by omega
      obtain ⟨ba, oa, A1, n1, c1, hAe, h1⟩ := (HA.out.below hB).at hin
      obtain ⟨bb, ob, A2, n2, c2, hBe, h2⟩ := (HB.out.below hB).at hin
      have hit : i < tr.length := by rw [HA.out.len]; exact hin
      obtain ⟨x, hx⟩ : ∃ x, x = tr[i]'hit := ⟨_, rfl⟩
      rw [← hx] at h1 h2
      have e1 := (h1.bytes.drew).text Try.underlying22 Try.underlying5 Try.underlying9
      have e2 := (h2.bytes.drew).text Try.underlying22 Try.underlying5 Try.underlying9
      have p0 := h1.kind
      have p1 := h1.pl
      have p2 := h1.slot
      have p3 := h1.sli
      have q0 := h2.kind
      have q1 := h2.pl
      have q2 := h2.slot
      have q3 := h2.sli
      subst hAe hBe
      clear h1 h2 hx
      go_wp2_with fail
      go_still (by kernel_rfl)
      change Exit.then _ _ _ _ wr.drew
      clear e1 e2 p0 p1 p2 p3 q0 q1 q2 q3
      have hBd := hB.drew
      clear hB
      go_wp2
      go_roundg g2
      case measure => omega
      case rel => exact ⟨i + 1, by omega, by go_num, hBd⟩
end Go.Proofs.Ytpbpegoobgfjcaa

namespace Go.Proofs.Ytpbpegoobgfjcaa
open Go.RowKit

structure Bo (w0 w : World) (k : Nat) (ws : List (Nat × Wd)) (hs : List Held) (l : List (Ta × Wd)) : Prop where
  is : ∃ M Os, Each w M Os ws ∧ (∀ k, M k → k < w.heap.size) ∧ (∀ k, M k → w0.heap.size ≤ k) ∧ (∀ h ∈ hs, BsM w M h.1 h.2.1 h.2.2.1 h.2.2.2) ∧ ∀ x ∈ l, TvM w M x.1 x.2
  below : Below w0.heap.size w0 w
  small : ∀ x ∈ ws, Sm k x.2
section
variable {w0 w w' : World} {k b : Nat} {t : Wd} {a : Ta} {ws : List (Nat × Wd)} {hs : List Held} {l : List (Ta × Wd)} {M : Nat → Prop}
theorem Bo.snap (h : Bo w0 w k ws hs l) : ∃ M, StS w0 w k ws hs [(w, M)] ∧ (∀ k, M k → k < w.heap.size) ∧ ∀ x ∈ l, TvM w M x.1 x.2 := by
  obtain ⟨M, Os, h1, h2, h3, h4, h5⟩ := h.is
  refine ⟨M, ⟨⟨M, Os, h1, h2, h3, h4, fun s hs => ?_⟩, h.below, h.small⟩, h2, h5⟩
  obtain rfl := List.mem_singleton.1 hs
  exact ⟨Chg.refl _ _, fun _ h => .inl h⟩
theorem Bo.st (h : Bo w0 w k ws hs l) : StS w0 w k ws hs [] := by
  obtain ⟨M, h1, _⟩ := h.snap
  exact h1.unsee (by simp)
/-- what the World's side does leaves the document's as it was -/
theorem Bo.next {k' : Nat} {ws' : List (Nat × Wd)} {hs' : List Held} {sn : List (World × (Nat → Prop))} (hT : ∀ x ∈ l, TvM w M x.1 x.2) (hs9 : (w, M) ∈ sn) (h : StS w0 w' k' ws' hs' sn) : Bo w0 w' k' ws' hs' l := by
  obtain ⟨M', Os, h1, h2, h3, h4, h5⟩ := h.is
  have h6 := h5 _ hs9
  exact ⟨⟨M', Os, h1, h2, h3, h4, fun x hx => (hT x hx).chg h6.chg (fun _ h => h) h6.new⟩, h.below, h.small⟩
theorem Bo.of_st (h : StS w0 w k ws hs []) : Bo w0 w k ws hs [] := by
  obtain ⟨M, Os, h1, h2, h3, h4, _⟩ := h.is
  exact ⟨⟨M, Os, h1, h2, h3, h4, fun x hx => by cases hx⟩, h.below, h.small⟩
/-- what the document's side makes, new: told at every M -/
theorem Bo.grow (h : Bo w0 w k ws hs l) (hb : Below w.heap.size w w') {hs2 : List Held} {l2 : List (Ta × Wd)}
    (hn : ∀ M, (∀ k, M k → k < w.heap.size) → (∀ h ∈ hs, BsM w M h.1 h.2.1 h.2.2.1 h.2.2.2) → (∀ x ∈ l, TvM w M x.1 x.2) → (∀ h ∈ hs2, BsM w' M h.1 h.2.1 h.2.2.1 h.2.2.2) ∧ ∀ x ∈ l2, TvM w' M x.1 x.2) : Bo w0 w' k ws hs2 l2 := by
  obtain ⟨M, Os, h1, h2, h3, h4, h5⟩ := h.is
  have hlt : ∀ k, M k → k < w'.heap.size := fun k hk => Nat.lt_of_lt_of_le (h2 k hk) hb.size
  obtain ⟨n1, n2⟩ := hn M h2 h4 h5
  exact ⟨⟨M, Os, h1.chg (S := fun _ => False) (Chg.of_below _ hb) (fun _ h => h.elim) (fun _ h => .inl h) (fun _ h => h) hlt (fun _ _ _ h => h.elim), hlt, h3, n1, n2⟩, h.below.trans (hb.mono h.below.size), h.small⟩
theorem Bo.stay (h : Bo w0 w k ws hs l) (hb : Below w.heap.size w w') : Bo w0 w' k ws hs l :=
  h.grow hb fun _ _ h4 h5 => ⟨fun x hx => (h4 x hx).below hb, fun x hx => (h5 x hx).below hb⟩
theorem Bo.drew (h : Bo w0 w k ws hs l) : Bo w0 w.drew k ws hs l := h.stay (Below.refl _ _).drew
theorem Bo.more (h : Bo w0 w k ws hs l) {k' : Nat} (hk : k ≤ k') : Bo w0 w k' ws hs l :=
  ⟨h.is, h.below, fun x hx => ⟨Nat.le_trans (h.small x hx).tr hk, Nat.le_trans (h.small x hx).reads hk, Nat.le_trans (h.small x hx).nl hk⟩⟩
theorem Bo.forget (h : Bo w0 w k ws hs l) {hs2 : List Held} {l2 : List (Ta × Wd)} (h1 : ∀ x ∈ hs2, x ∈ hs) (h2 : ∀ x ∈ l2, x ∈ l) : Bo w0 w k ws hs2 l2 := by
  obtain ⟨M, Os, g1, g2, g3, g4, g5⟩ := h.is
  exact ⟨⟨M, Os, g1, g2, g3, fun x hx => g4 x (h1 x hx), fun x hx => g5 x (h2 x hx)⟩, h.below, h.small⟩
/-- the document's world tells of the lies from its reads on alone -/
theorem TvM.cut (h : TvM w M a t) (f : Int → Option (List UInt8)) (n : Nat) (hf : ∀ z : Int, (t.reads : Int) ≤ z → f z = t.lies z) : TvM w M a { t with lies := f, nl := n } := by
  obtain ⟨hs, L, h1⟩ := h.lies
  exact ⟨h.slots, h.seals, ⟨hs, L, h1.row, h1.lie, fun z hz => (h1.last z hz).trans (hf z hz).symm⟩, h.trace, h.pow, h.pmax, h.big, h.num⟩
theorem Bo.cut (h : Bo w0 w k ws hs ((a, t) :: l)) (f : Int → Option (List UInt8)) (n : Nat) (hf : ∀ z : Int, (t.reads : Int) ≤ z → f z = t.lies z) : Bo w0 w k ws hs ((a, { t with lies := f, nl := n }) :: (a, t) :: l) := by
  obtain ⟨M, Os, g1, g2, g3, g4, g5⟩ := h.is
  refine ⟨⟨M, Os, g1, g2, g3, g4, fun x hx => ?_⟩, h.below, h.small⟩
  rcases List.mem_cons.1 hx with rfl | hx
  · exact (g5 (a, t) (by simp)).cut f n hf
  · exact g5 x hx
/-- did, of the World ahead -/
theorem bdid_any (h : Bo w0 w k ((b, t) :: ws) hs l) (hk : k ≤ 1000000) (d : Dd) (hd : DdOk d) (A : Option Addr) (n c : Nat) (hm : (A, n, c, d.bs) ∈ hs) :
    Calls Try.prog 23 #[.pointer (some ⟨b, 0, none⟩), .agg #[.int .i64 d.kind, .int .i64 d.pl, .int .i64 d.sl, .int .i64 d.num, .slice A n c]] w fun e w' => ∃ A' n' c', e = .returned (.tuple #[.slice A' n' c', .bool (didB t d)]) ∧ Bo w0 w' (k + 1) ((b, didW t d) :: ws) ((A', n', c', didL t d) :: hs) l := by
  obtain ⟨M, h1, _, h2⟩ := h.snap
  refine (did_any h1 hk d hd A n c hm).mono ?_
  rintro e w1 ⟨A', n', c', rfl, h3⟩
  exact ⟨A', n', c', rfl, Bo.next h2 (by simp) h3⟩
/-- Step, of the document's world ahead -/
theorem bstep_any (h : Bo w0 w k ws hs ((a, t) :: l)) (hle : t.tr.length ≤ 1000000 ∧ t.reads ≤ 1000000) (hln : a.ln ≤ 1000000) (d : Dd) (hd : DdOk d) (A : Option Addr) (n c : Nat) (hm : (A, n, c, d.bs) ∈ hs) :
    Calls Try.prog 24 #[.agg (tvL a t).toArray, .agg (ddC d A n c).toArray] w fun e w' => ∃ a' A' n' c', e = .returned (.tuple #[.agg (tvL a' (didW t d)).toArray, .slice A' n' c', .bool (didB t d)]) ∧ a'.ln ≤ a.ln + 1 ∧ Bo w0 w' k ws ((A', n', c', didL t d) :: hs) ((a', didW t d) :: l) := by
  obtain ⟨M, Os, g1, g2, g3, g4, g5⟩ := h.is
  refine (rstep_any (g5 (a, t) (by simp)) g2 hle hln d hd A n c (g4 _ hm)).mono ?_
  rintro e w1 ⟨a', A', n', c', rfl, hb, hl, h1, h2⟩
  have hlt : ∀ k, M k → k < w1.heap.size := fun k hk => Nat.lt_of_lt_of_le (g2 k hk) hb.size
  refine ⟨a', A', n', c', rfl, hl, ⟨⟨M, Os, g1.chg (S := fun _ => False) (Chg.of_below _ hb) (fun _ h => h.elim) (fun _ h => .inl h) (fun _ h => h) hlt (fun _ _ _ h => h.elim), hlt, g3, fun x hx => ?_, fun x hx => ?_⟩, h.below.trans (hb.mono h.below.size), h.small⟩⟩
  · rcases List.mem_cons.1 hx with rfl | hx
    · exact h2
    · exact (g4 x hx).below hb
  · rcases List.mem_cons.1 hx with rfl | hx
    · exact h1
    · exact (g5 x (by simp [hx])).below hb
/-- New of the document's world, beside all else -/
theorem bnew_any (h : Bo w0 w k ws hs l) :
    Calls Try.prog 22 #[.int .i64 4] w fun e w' => ∃ a', e = .returned (.agg (tvL a' (newW 4)).toArray) ∧ a'.ln = 0 ∧ Bo w0 w' k ws hs ((a', newW 4) :: l) := by
  refine (rnew_any w).mono ?_
  rintro e w1 ⟨a', rfl, hb, hl, hT⟩
  refine ⟨a', rfl, hl, h.grow hb fun M g2 g4 g5 => ⟨fun x hx => (g4 x hx).below hb, fun x hx => ?_⟩⟩
  rcases List.mem_cons.1 hx with rfl | hx
  · exact hT M g2
  · exact (g5 x hx).below hb
end
end Go.Proofs.Ytpbpegoobgfjcaa

namespace Go.Proofs.Ytpbpegoobgfjcaa
open Go.RowKit

/-- no cell of the block is a byte -/
structure NoB (w : World) (g : Nat) : Prop where
  no : ∀ o (b : UInt8), w.cell? ⟨g, o, none⟩ ≠ some (.int .u8 (b.toNat : Int))
abbrev Mg (M : Nat → Prop) (g : Nat) : Nat → Prop := fun k => M k ∨ k = g
theorem NoB.of {w : World} {g : Nat} {e : TypeId} {cs : List Value} (h : Blk w g e cs) (hc : ∀ u ∈ cs, ∀ z, u ≠ .int .u8 z) : NoB w g :=
  ⟨fun o b e1 => by
    rw [h.cell? o] at e1
    exact hc _ (List.mem_of_getElem? e1) _ rfl⟩
theorem tvL_noB (a : Ta) (t : Wd) : ∀ u ∈ tvL a t, ∀ z, u ≠ .int .u8 z := by
  intro u hu z
  simp only [tvL, List.mem_cons, List.not_mem_nil, or_false] at hu
  rcases hu with rfl | rfl | rfl | rfl | rfl | rfl | rfl | rfl | rfl | rfl <;> simp
theorem NoB.tv {w : World} {g : Nat} {e : TypeId} {a : Ta} {t : Wd} (h : Blk w g e (tvL a t)) : NoB w g := NoB.of h (tvL_noB a t)
section
variable {M O : Nat → Prop} {w w' : World} {g : Nat} {A : Option Addr} {n c b : Nat} {l : List UInt8} {v : Value}
theorem BsM.wide (h : BsM w M A n c l) (hg : NoB w g) : BsM w (Mg M g) A n c l := by
  refine ⟨h.bs, fun ad hA h0 hm => ?_, h.fit⟩
  rcases hm with h1 | h1
  · exact h.apart ad hA h0 h1
  · obtain ⟨b, o, hA', _, hc⟩ := h.bs.cells h0
    rw [hA'] at hA
    obtain rfl := Option.some.inj hA
    have hl : 0 < l.length := by have := h.bs.len; omega
    have h2 := hc 0 hl
    simp only at h1
    rw [h1] at h2
    exact hg.no _ _ h2
theorem BsV.wide (h : BsV w M v l) (hg : NoB w g) : BsV w (Mg M g) v l := by
  obtain ⟨A, n, c, e, h1⟩ := h
  exact ⟨A, n, c, e, h1.wide hg⟩
theorem TrL.wide {L : List Hd4} {tr : List Tr} (h : TrL w M L tr) (hg : NoB w g) : TrL w (Mg M g) L tr :=
  ⟨h.len, fun j hj => by
    have h1 := h.each j hj
    exact ⟨h1.ok, h1.kind, h1.pl, h1.slot, h1.bytes.wide hg⟩⟩
theorem LieAt.wide {x : Option Value} {y : Option (List UInt8)} (h : LieAt w M x y) (hg : NoB w g) : LieAt w (Mg M g) x y := by
  cases x <;> cases y
  · trivial
  · exact h.elim
  · exact h.elim
  · exact BsV.wide h hg
theorem Parts.wide {ad : Ad} {t : Wd} {p : Int × Int → Option Nat} {L : List Hd4} (h : Parts w O M b ad t p L) (hg : NoB w g) (hlt : g < w.heap.size) : Parts w O (Mg M g) b ad t p L := by
  refine ⟨fun k hk => .inl (h.sub k hk), fun k hk => hk.elim (h.lt k) (fun e => e ▸ hlt), h.ob, h.blk, h.slots, ?_, h.seal0.wide hg, h.seal1.wide hg, ⟨h.trace.own, h.trace.mine, h.trace.heads.wide hg⟩, h.big, h.pow, h.num, h.read, h.two⟩
  rcases h.lies with h1 | ⟨g', m, f, h1, h2, h3, h4, h5⟩
  · exact .inl h1
  · exact .inr ⟨g', m, f, h1, h2, h3, h4, fun z hz => (h5 z hz).wide hg⟩
/-- a store into a block that holds no byte leaves the Worlds as they were -/
theorem Each.only (hlt : ∀ k, M k → k < w.heap.size) (hg : NoB w g) (hgl : g < w.heap.size) (hn : ¬ M g) (ho : Only g w w') :
    ∀ {Os : List (Nat → Prop)} {ws : List (Nat × Wd)}, Each w M Os ws → Each w' M Os ws
  | [], [], _ => trivial
  | O :: Os, x :: xs, h => by
    obtain ⟨⟨ad, p, L, hP⟩, h2, h3⟩ := h
    refine ⟨⟨ad, p, L, ?_⟩, h2, Each.only hlt hg hgl hn ho h3⟩
    have h4 := (hP.wide hg hgl).chg (S := fun k => k = g) (w' := w') (M' := Mg M g) (Chg.of_only ho rfl) (fun k hk h9 => hn (hk ▸ hP.sub k h9)) (fun k hk => .inr hk) (fun k hk => .inl hk) (fun k hk => hk) (fun k hk => by rw [ho.size]; exact hk.elim (hlt k) (fun e => e ▸ hgl))
    exact ⟨hP.sub, fun k hk => by rw [ho.size]; exact hlt k hk, h4.ob, h4.blk, h4.slots, by
        rcases h4.lies with h1 | ⟨g', m, f, h1, h2, h3, h4, h5⟩
        · exact .inl h1
        · exact .inr ⟨g', m, f, h1, h2, h3, h4, fun z hz => by
            have h6 := h5 z hz
            revert h6
            cases f z <;> cases x.2.lies z
            · exact id
            · exact id
            · exact id
            · rintro ⟨A, n, c, e, h7⟩
              exact ⟨A, n, c, e, h7.weak (fun k hk => .inl hk)⟩⟩,
      (by obtain ⟨A, n, c, e, h7⟩ := h4.seal0; exact ⟨A, n, c, e, h7.weak (fun k hk => .inl hk)⟩), (by obtain ⟨A, n, c, e, h7⟩ := h4.seal1; exact ⟨A, n, c, e, h7.weak (fun k hk => .inl hk)⟩),
      ⟨h4.trace.own, h4.trace.mine, ⟨h4.trace.heads.len, fun j hj => by
        have h1 := h4.trace.heads.each j hj
        exact ⟨h1.ok, h1.kind, h1.pl, h1.slot, h1.bytes.weak (fun k hk => .inl hk)⟩⟩⟩, h4.big, h4.pow, h4.num, h4.read, h4.two⟩
  | [], _ :: _, h => h.elim
  | _ :: _, [], h => h.elim
end
end Go.Proofs.Ytpbpegoobgfjcaa

namespace Go.Proofs.Ytpbpegoobgfjcaa
open Go.RowKit

abbrev Vs := List (Nat × List Value)
def Mk (M : Nat → Prop) (ks : Vs) : Nat → Prop := fun k => M k ∨ ∃ x ∈ ks, x.1 = k
theorem BsM.wides {M : Nat → Prop} {ks : Vs} {w : World} {A : Option Addr} {n c : Nat} {l : List UInt8} (h : BsM w M A n c l) (hg : ∀ x ∈ ks, NoB w x.1) : BsM w (Mk M ks) A n c l := by
  refine ⟨h.bs, fun ad hA h0 hm => ?_, h.fit⟩
  rcases hm with h1 | ⟨x, hx, h1⟩
  · exact h.apart ad hA h0 h1
  · exact (h.wide (hg x hx)).apart ad hA h0 (.inr h1.symm)
/-- one variable: not a block of the Worlds, with no byte in it -/
structure Var (w : World) (M : Nat → Prop) (x : Nat × List Value) : Prop where
  blk : Blk w x.1 42 x.2
  out : ¬ M x.1
  no : ∀ u ∈ x.2, ∀ z, u ≠ .int .u8 z
structure Bk (w0 w : World) (k : Nat) (ws : List (Nat × Wd)) (hs : List Held) (l : List (Ta × Wd)) (ks : Vs) : Prop where
  is : ∃ M Os, Each w M Os ws ∧ (∀ k, M k → k < w.heap.size) ∧ (∀ k, M k → w0.heap.size ≤ k) ∧ (∀ h ∈ hs, BsM w M h.1 h.2.1 h.2.2.1 h.2.2.2) ∧ (∀ x ∈ l, TvM w (Mk M ks) x.1 x.2) ∧ ∀ x ∈ ks, Var w M x
  below : Below w0.heap.size w0 w
  small : ∀ x ∈ ws, Sm k x.2
  high : ∀ x ∈ ks, w0.heap.size ≤ x.1
section
variable {w0 w w' : World} {k b : Nat} {t : Wd} {a : Ta} {ws : List (Nat × Wd)} {hs : List Held} {l : List (Ta × Wd)} {M : Nat → Prop} {ks : Vs}
theorem Bk.of_st (h : StS w0 w k ws hs []) : Bk w0 w k ws hs [] [] := by
  obtain ⟨M, Os, h1, h2, h3, h4, _⟩ := h.is
  exact ⟨⟨M, Os, h1, h2, h3, h4, fun x hx => (by cases hx), fun x hx => (by cases hx)⟩, h.below, h.small, fun x hx => (by cases hx)⟩
/-- for a World's method: with a snapshot -/
theorem Bk.snap (h : Bk w0 w k ws hs l ks) : ∃ M, StS w0 w k ws hs [(w, M)] ∧ (∀ k, M k → k < w.heap.size) ∧ (∀ x ∈ l, TvM w (Mk M ks) x.1 x.2) ∧ ∀ x ∈ ks, Var w M x := by
  obtain ⟨M, Os, h1, h2, h3, h4, h5, h6⟩ := h.is
  refine ⟨M, ⟨⟨M, Os, h1, h2, h3, h4, fun s hs => ?_⟩, h.below, h.small⟩, h2, h5, h6⟩
  obtain rfl := List.mem_singleton.1 hs
  exact ⟨Chg.refl _ _, fun _ h => .inl h⟩
theorem Bk.next {k' : Nat} {ws' : List (Nat × Wd)} {hs' : List Held} {sn : List (World × (Nat → Prop))} (hT : ∀ x ∈ l, TvM w (Mk M ks) x.1 x.2) (hV : ∀ x ∈ ks, Var w M x) (hi : ∀ x ∈ ks, w0.heap.size ≤ x.1) (hs9 : (w, M) ∈ sn) (h : StS w0 w' k' ws' hs' sn) : Bk w0 w' k' ws' hs' l ks := by
  obtain ⟨M', Os, h1, h2, h3, h4, h5⟩ := h.is
  have h6 := h5 _ hs9
  refine ⟨⟨M', Os, h1, h2, h3, h4, fun x hx => (hT x hx).chg h6.chg (fun _ h => .inl h) (fun j hj => ?_), fun x hx => ⟨(hV x hx).blk.chg h6.chg (hV x hx).out, fun h9 => ?_, (hV x hx).no⟩⟩, h.below, h.small, hi⟩
  · rcases hj with h9 | h9
    · exact (h6.new j h9).imp .inl id
    · exact .inl (.inr h9)
  · rcases h6.new _ h9 with h8 | h8
    · exact (hV x hx).out h8
    · have := (hV x hx).blk.lt
      exact absurd this (Nat.not_lt.2 h8)
/-- what is made new, told at every M -/
theorem Bk.grow (h : Bk w0 w k ws hs l ks) (hb : Below w.heap.size w w') {hs2 : List Held} {l2 : List (Ta × Wd)}
    (hn : ∀ M, (∀ k, M k → k < w.heap.size) → (∀ h ∈ hs, BsM w M h.1 h.2.1 h.2.2.1 h.2.2.2) → (∀ x ∈ l, TvM w M x.1 x.2) → (∀ h ∈ hs2, BsM w' M h.1 h.2.1 h.2.2.1 h.2.2.2) ∧ ∀ x ∈ l2, TvM w' M x.1 x.2) : Bk w0 w' k ws hs2 l2 ks := by
  obtain ⟨M, Os, h1, h2, h3, h4, h5, h6⟩ := h.is
  have hlt : ∀ k, M k → k < w'.heap.size := fun k hk => Nat.lt_of_lt_of_le (h2 k hk) hb.size
  obtain ⟨n1, n2⟩ := hn (Mk M ks) (fun k hk => by
    rcases hk with h9 | ⟨x, hx, rfl⟩
    · exact h2 k h9
    · exact (h6 x hx).blk.lt) (fun x hx => (h4 x hx).wides (fun y hy => NoB.of (h6 y hy).blk (h6 y hy).no)) h5
  exact ⟨⟨M, Os, h1.chg (S := fun _ => False) (Chg.of_below _ hb) (fun _ h => h.elim) (fun _ h => .inl h) (fun _ h => h) hlt (fun _ _ _ h => h.elim), hlt, h3, fun x hx => (n1 x hx).weak (fun _ h => .inl h), n2, fun x hx => ⟨(h6 x hx).blk.below hb (h6 x hx).blk.lt, (h6 x hx).out, (h6 x hx).no⟩⟩, h.below.trans (hb.mono h.below.size), h.small, h.high⟩
theorem Bk.stay (h : Bk w0 w k ws hs l ks) (hb : Below w.heap.size w w') : Bk w0 w' k ws hs l ks :=
  h.grow hb fun _ _ h4 h5 => ⟨fun x hx => (h4 x hx).below hb, fun x hx => (h5 x hx).below hb⟩
theorem Bk.drew (h : Bk w0 w k ws hs l ks) : Bk w0 w.drew k ws hs l ks := h.stay (Below.refl _ _).drew
/-- a variable is made -/
theorem Bk.var (h : Bk w0 w k ws hs l ks) (hb : Below w.heap.size w w') {cs : List Value} (hk : Blk w' w.heap.size 42 cs) (hc : ∀ u ∈ cs, ∀ z, u ≠ .int .u8 z) : Bk w0 w' k ws hs l ((w.heap.size, cs) :: ks) := by
  obtain ⟨M, Os, h1, h2, h3, h4, h5, h6⟩ := h.is
  have hlt : ∀ k, M k → k < w'.heap.size := fun k hk => Nat.lt_of_lt_of_le (h2 k hk) hb.size
  refine ⟨⟨M, Os, h1.chg (S := fun _ => False) (Chg.of_below _ hb) (fun _ h => h.elim) (fun _ h => .inl h) (fun _ h => h) hlt (fun _ _ _ h => h.elim), hlt, h3, fun x hx => (h4 x hx).below hb, fun x hx => (h5 x hx).chg (S := fun _ => False) (Chg.of_below _ hb) (fun _ h => h.elim) (fun j hj => ?_), fun x hx => ?_⟩, h.below.trans (hb.mono h.below.size), h.small, fun x hx => ?_⟩
  · rcases hj with h9 | ⟨x, hx, rfl⟩
    · exact .inl (.inl h9)
    · rcases List.mem_cons.1 hx with rfl | hx
      · exact .inr (Nat.le_refl _)
      · exact .inl (.inr ⟨x, hx, rfl⟩)
  · rcases List.mem_cons.1 hx with rfl | hx
    · exact ⟨hk, fun h9 => absurd (h2 _ h9) (Nat.lt_irrefl _), hc⟩
    · exact ⟨(h6 x hx).blk.below hb (h6 x hx).blk.lt, (h6 x hx).out, (h6 x hx).no⟩
  · rcases List.mem_cons.1 hx with rfl | hx
    · exact h.below.size
    · exact h.high x hx
/-- a variable is set -/
theorem Bk.put {g : Nat} {cs cs' : List Value} (h : Bk w0 w k ws hs l ks) (hm : (g, cs) ∈ ks) (ho : Only g w w') (hk : Blk w' g 42 cs') (hc : ∀ u ∈ cs', ∀ z, u ≠ .int .u8 z) {ks' : Vs} (hks : ∀ x ∈ ks', x = (g, cs') ∨ (x ∈ ks ∧ x.1 ≠ g)) : Bk w0 w' k ws hs l ks' := by
  obtain ⟨M, Os, h1, h2, h3, h4, h5, h6⟩ := h.is
  have hv := h6 _ hm
  have hnb : NoB w g := NoB.of hv.blk hv.no
  have hC : Chg (fun j => j = g) w w' := Chg.of_only ho rfl
  have hkeys : ∀ x ∈ ks', ∃ y ∈ ks, y.1 = x.1 := fun x hx => (hks x hx).elim (fun e => ⟨_, hm, by rw [e]⟩) (fun e => ⟨x, e.1, rfl⟩)
  refine ⟨⟨M, Os, h1.only h2 hnb hv.blk.lt hv.out ho, fun j hj => by rw [ho.size]; exact h2 j hj, h3, fun x hx => (((h4 x hx).wide hnb).chg hC (fun _ h => .inr h) (fun _ h => .inl (.inl h))), fun x hx => (h5 x hx).chg hC (fun j hj => .inr ⟨_, hm, hj.symm⟩) (fun j hj => ?_), fun x hx => ?_⟩, h.below.trans (ho.below (h.high _ hm)), h.small, fun x hx => ?_⟩
  · rcases hj with h9 | ⟨x, hx, rfl⟩
    · exact .inl (.inl h9)
    · exact .inl (.inr (hkeys x hx))
  · rcases hks x hx with rfl | ⟨h7, h8⟩
    · exact ⟨hk, hv.out, hc⟩
    · exact ⟨(h6 x h7).blk.only ho h8, (h6 x h7).out, (h6 x h7).no⟩
  · obtain ⟨y, hy, e⟩ := hkeys x hx
    rw [← e]
    exact h.high y hy
theorem Bk.at {g : Nat} {cs : List Value} (h : Bk w0 w k ws hs l ks) (hm : (g, cs) ∈ ks) : Blk w g 42 cs := by
  obtain ⟨M, Os, _, _, _, _, _, h6⟩ := h.is
  exact (h6 _ hm).blk
theorem Bk.st (h : Bk w0 w k ws hs l ks) : StS w0 w k ws hs [] := by
  obtain ⟨M, h1, _⟩ := h.snap
  exact h1.unsee (by simp)
theorem Bk.cut (h : Bk w0 w k ws hs ((a, t) :: l) ks) (f : Int → Option (List UInt8)) (n : Nat) (hf : ∀ z : Int, (t.reads : Int) ≤ z → f z = t.lies z) : Bk w0 w k ws hs ((a, { t with lies := f, nl := n }) :: (a, t) :: l) ks := by
  obtain ⟨M, Os, g1, g2, g3, g4, g5, g6⟩ := h.is
  refine ⟨⟨M, Os, g1, g2, g3, g4, fun x hx => ?_, g6⟩, h.below, h.small, h.high⟩
  rcases List.mem_cons.1 hx with rfl | hx
  · exact (g5 (a, t) (by simp)).cut f n hf
  · exact g5 x hx
/-- did, of the World ahead -/
theorem kdid_any (h : Bk w0 w k ((b, t) :: ws) hs l ks) (hk : k ≤ 1000000) (d : Dd) (hd : DdOk d) (A : Option Addr) (n c : Nat) (hm : (A, n, c, d.bs) ∈ hs) :
    Calls Try.prog 23 #[.pointer (some ⟨b, 0, none⟩), .agg #[.int .i64 d.kind, .int .i64 d.pl, .int .i64 d.sl, .int .i64 d.num, .slice A n c]] w fun e w' => ∃ A' n' c', e = .returned (.tuple #[.slice A' n' c', .bool (didB t d)]) ∧ Bk w0 w' (k + 1) ((b, didW t d) :: ws) ((A', n', c', didL t d) :: hs) l ks := by
  obtain ⟨M, h1, _, h2, h3⟩ := h.snap
  refine (did_any h1 hk d hd A n c hm).mono ?_
  rintro e w1 ⟨A', n', c', rfl, h4⟩
  exact ⟨A', n', c', rfl, Bk.next h2 h3 h.high (by simp) h4⟩
/-- Step, of the document's world ahead -/
theorem kstep_any (h : Bk w0 w k ws hs ((a, t) :: l) ks) (hle : t.tr.length ≤ 1000000 ∧ t.reads ≤ 1000000) (hln : a.ln ≤ 1000000) (d : Dd) (hd : DdOk d) (A : Option Addr) (n c : Nat) (hm : (A, n, c, d.bs) ∈ hs) :
    Calls Try.prog 24 #[.agg (tvL a t).toArray, .agg (ddC d A n c).toArray] w fun e w' => ∃ a' A' n' c', e = .returned (.tuple #[.agg (tvL a' (didW t d)).toArray, .slice A' n' c', .bool (didB t d)]) ∧ a'.ln ≤ a.ln + 1 ∧ Bk w0 w' k ws ((A', n', c', didL t d) :: hs) ((a', didW t d) :: (a, t) :: l) ks := by
  obtain ⟨M, Os, g1, g2, g3, g4, g5, g6⟩ := h.is
  have hnb : ∀ y ∈ ks, NoB w y.1 := fun y hy => NoB.of (g6 y hy).blk (g6 y hy).no
  have hMk : ∀ j, Mk M ks j → j < w.heap.size := fun j hj => by
    rcases hj with h9 | ⟨x, hx, rfl⟩
    · exact g2 j h9
    · exact (g6 x hx).blk.lt
  refine (rstep_any (g5 (a, t) (by simp)) hMk hle hln d hd A n c ((g4 _ hm).wides hnb)).mono ?_
  rintro e w1 ⟨a', A', n', c', rfl, hb, hl, h1, h2⟩
  have hlt : ∀ k, M k → k < w1.heap.size := fun k hk => Nat.lt_of_lt_of_le (g2 k hk) hb.size
  refine ⟨a', A', n', c', rfl, hl, ⟨⟨M, Os, g1.chg (S := fun _ => False) (Chg.of_below _ hb) (fun _ h => h.elim) (fun _ h => .inl h) (fun _ h => h) hlt (fun _ _ _ h => h.elim), hlt, g3, fun x hx => ?_, fun x hx => ?_, fun x hx => ⟨(g6 x hx).blk.below hb (g6 x hx).blk.lt, (g6 x hx).out, (g6 x hx).no⟩⟩, h.below.trans (hb.mono h.below.size), h.small, h.high⟩⟩
  · rcases List.mem_cons.1 hx with rfl | hx
    · exact h2.weak (fun _ h => .inl h)
    · exact (g4 x hx).below hb
  · rcases List.mem_cons.1 hx with rfl | hx
    · exact h1
    · exact (g5 x hx).below hb
/-- New of the document's world, beside all else -/
theorem knew_any (h : Bk w0 w k ws hs l ks) :
    Calls Try.prog 22 #[.int .i64 4] w fun e w' => ∃ a', e = .returned (.agg (tvL a' (newW 4)).toArray) ∧ a'.ln = 0 ∧ Bk w0 w' k ws hs ((a', newW 4) :: l) ks := by
  refine (rnew_any w).mono ?_
  rintro e w1 ⟨a', rfl, hb, hl, hT⟩
  refine ⟨a', rfl, hl, h.grow hb fun M g2 g4 g5 => ⟨fun x hx => (g4 x hx).below hb, fun x hx => ?_⟩⟩
  rcases List.mem_cons.1 hx with rfl | hx
  · exact hT M g2
  · exact (g5 x hx).below hb
end
end Go.Proofs.Ytpbpegoobgfjcaa

namespace Go.Proofs.Ytpbpegoobgfjcaa
open Go.RowKit
section
variable {w0 w w' : World} {k b : Nat} {t : Wd} {a : Ta} {ws : List (Nat × Wd)} {hs : List Held} {l : List (Ta × Wd)} {M : Nat → Prop} {ks : Vs} {sn : List (World × (Nat → Prop))}
theorem st_copy (h : StS w0 w k ((b, t) :: ws) hs sn) (hk : k ≤ 1000000) :
    Calls Try.prog 25 #[.pointer (some ⟨b, 0, none⟩)] w fun e w' => ∃ c, e = .returned (.pointer (some ⟨c, 0, none⟩)) ∧ StS w0 w' k ((c, cutW t) :: (b, t) :: ws) hs sn := by
  have hsm := h.first
  obtain ⟨M, Os, h1, h2, h3, h4, h5⟩ := h.is
  match Os, h1 with
  | O0 :: Os, h1 =>
    obtain ⟨⟨ad, p, L, hP⟩, hd, hE⟩ := id h1
    refine (copy_any hP (Nat.le_trans hsm.tr hk) (Nat.le_trans hsm.nl hk)).mono ?_
    rintro e w' ⟨c, rfl, hb, O, ad', p', L', hP', hO⟩
    have hlt : ∀ k, Or2 M O k → k < w'.heap.size := hP'.lt
    have hM : ∀ k, Or2 M O k → M k ∨ w.heap.size ≤ k := fun k hk => hk.imp id (hO k)
    refine ⟨c, rfl, ⟨Or2 M O, O :: O0 :: Os, ⟨⟨ad', p', L', hP'⟩, fun Q hQ k hk hq => ?_, ?_⟩, hlt, fun k hk => (hM k hk).elim (h3 k) (fun h9 => Nat.le_trans h.below.size h9), fun x hx => ?_, fun s hs => (h5 s hs).next (Chg.of_below (fun _ => False) hb) (fun _ h => h.elim) hM⟩, h.below.trans (hb.mono h.below.size), fun x hx => ?_⟩
    · have := h1.lt Q hQ k hq
      have := hO k hk
      omega
    · exact h1.chg (S := fun _ => False) (Chg.of_below _ hb) (fun _ h => h.elim) hM (fun _ h => .inl h) hlt (fun _ _ _ h => h.elim)
    · exact (h4 x hx).chg (S := fun _ => False) (Chg.of_below _ hb) (fun _ h => h.elim) hM
    · rcases List.mem_cons.1 hx with rfl | hx
      · exact ⟨hsm.tr, hsm.reads, hsm.nl⟩
      · exact h.small x hx
theorem kcopy_any (h : Bk w0 w k ((b, t) :: ws) hs l ks) (hk : k ≤ 1000000) :
    Calls Try.prog 25 #[.pointer (some ⟨b, 0, none⟩)] w fun e w' => ∃ c, e = .returned (.pointer (some ⟨c, 0, none⟩)) ∧ Bk w0 w' k ((c, cutW t) :: (b, t) :: ws) hs l ks := by
  obtain ⟨M, h1, _, h2, h3⟩ := h.snap
  refine (st_copy h1 hk).mono ?_
  rintro e w1 ⟨c, rfl, h4⟩
  exact ⟨c, rfl, Bk.next h2 h3 h.high (by simp) h4⟩
theorem Each.at : ∀ {Os : List (Nat → Prop)} {ws : List (Nat × Wd)}, Each w M Os ws → ∀ x ∈ ws, ∃ O, WIs w O M x.1 x.2
  | [], [], _, x, hx => by cases hx
  | O :: Os, y :: ys, h, x, hx => by
    obtain ⟨h1, _, h3⟩ := h
    rcases List.mem_cons.1 hx with rfl | hx
    · exact ⟨O, h1⟩
    · exact Each.at h3 x hx
  | [], _ :: _, h, _, _ => h.elim
  | _ :: _, [], h, _, _ => h.elim
theorem StS.parts (h : StS w0 w k ws hs sn) (hm : (b, t) ∈ ws) : ∃ O M ad p L, Parts w O M b ad t p L := by
  obtain ⟨M, Os, h1, _⟩ := h.is
  obtain ⟨O, ad, p, L, hP⟩ := h1.at _ hm
  exact ⟨O, M, ad, p, L, hP⟩
theorem xtrace_any (h : StS w0 w k ws hs sn) (hm : (b, t) ∈ ws) (hk : k ≤ 1000000) :
    Calls Try.prog 27 #[.pointer (some ⟨b, 0, none⟩)] w fun e w' => ∃ A n c, e = .returned (.slice A n c) ∧ Below w.heap.size w w' ∧ Ts w' A n c t.tr := by
  obtain ⟨O, M, ad, p, L, hP⟩ := h.parts hm
  refine (trace_any hP (Nat.le_trans (h.small _ hm).tr hk)).mono ?_
  rintro e w' ⟨A, n, c, rfl, hb, hT⟩
  exact ⟨A, n, c, rfl, hb, hT.seen (Chg.refl _ _)⟩
theorem xcounter_any (h : StS w0 w k ws hs sn) (hm : (b, t) ∈ ws) :
    Calls Try.prog 19 #[.pointer (some ⟨b, 0, none⟩)] w fun e w' => e = .returned (.int .u64 (ctrW t : Int)) ∧ w' = w := by
  obtain ⟨O, M, ad, p, L, hP⟩ := h.parts hm
  exact counter_any hP
theorem xdead_any (h : StS w0 w k ws hs sn) (hm : (b, t) ∈ ws) :
    Calls Try.prog 17 #[.pointer (some ⟨b, 0, none⟩)] w fun e w' => e = .returned (.bool t.lost) ∧ w' = w := by
  obtain ⟨O, M, ad, p, L, hP⟩ := h.parts hm
  exact dead_any b ad t w hP.blk
end
end Go.Proofs.Ytpbpegoobgfjcaa
