/- The words of a row of bits: package bits' words, an iterator. -/
import Derived.Test.YtgkeckfiacdpkaaDoorBtH
import Derived.Test.YtgkeckfiacdpkaaDoorBtR
import Derived.OwnWalkIn
import Derived.TacticsInMore
import Derived.LoopNIn
import Derived.LoopIn
import Derived.Laws.Tables
import Derived.Deep.CutRange
namespace Go.Proofs.YtgkeckfiacdpkaaDoor
open Go.RowKit

/-- the first x bits of a word -/
def bel (x : Nat) : Nat := 2 ^ min x 64 - 1
theorem bel_lt (x : Nat) : bel x < 18446744073709551616 := by
  have h : 2 ^ min x 64 ≤ 2 ^ 64 := Nat.pow_le_pow_right (by decide) (Nat.min_le_right _ _)
  have := Nat.two_pow_pos (min x 64)
  unfold bel
  omega
theorem below_any (z : Int) (w : World) : Calls Tryd.prog 39 #[.int .i64 z] w fun e w' => e = .returned (.int .u64 (bel z.toNat : Int)) ∧ w' = w := by
  by_cases h0 : z ≤ 0
  · rw [show bel z.toNat = 0 by unfold bel; rw [show z.toNat = 0 by omega]; rfl]
    exact below_neg z w h0
  · by_cases h1 : z < 64
    · obtain ⟨k, rfl⟩ : ∃ k : Nat, z = k := ⟨z.toNat, by omega⟩
      rw [show bel (k : Int).toNat = 2 ^ k - 1 by unfold bel; rw [show min (k : Int).toNat 64 = k by omega]]
      exact below_mid k w (by omega)
    · rw [show bel z.toNat = 2 ^ 64 - 1 by unfold bel; rw [show min z.toNat 64 = 64 by omega]]
      exact below_big z w (by omega)
/-- which bits of word k are asked for -/
def askN (F T k : Nat) : Nat := bel (T - 64 * k) &&& (18446744073709551615 - bel (F - 64 * k))
theorem askN_lt (F T k : Nat) : askN F T k < 18446744073709551616 := Nat.lt_of_le_of_lt Nat.and_le_left (bel_lt _)
theorem not_bit (x j : Nat) (hx : x < 18446744073709551616) (hj : j < 64) : (18446744073709551615 - x).testBit j = !x.testBit j := by
  rw [show 18446744073709551615 - x = 2 ^ 64 - (x + 1) by omega, Nat.testBit_two_pow_sub_succ hx, decide_eq_true hj]; simp
theorem bel_bit (x j : Nat) (hj : j < 64) : (bel x).testBit j = decide (j < x) := by
  unfold bel
  rw [Nat.testBit_two_pow_sub_one]
  exact decide_eq_decide.2 (by omega)
theorem askN_bit (F T k j : Nat) (hj : j < 64) : (askN F T k).testBit j = (decide (F ≤ 64 * k + j) && decide (64 * k + j < T)) := by
  unfold askN
  rw [Nat.testBit_and, not_bit _ _ (bel_lt _) hj, bel_bit _ _ hj, bel_bit _ _ hj]
  by_cases h1 : F ≤ 64 * k + j
  · rw [decide_eq_true h1, decide_eq_false (show ¬ j < F - 64 * k by omega), show decide (j < T - 64 * k) = decide (64 * k + j < T) from decide_eq_decide.2 (by omega)]; simp
  · rw [decide_eq_false h1, decide_eq_true (show j < F - 64 * k by omega)]; simp
/-- word k of a row -/
def wdN (b : List UInt8) (k : Nat) : Nat := ldN ((b.drop (8 * k)).take 8)
theorem wdN_lt (b : List UInt8) (k : Nat) : wdN b k < 18446744073709551616 := by
  have h := ldN_lt ((b.drop (8 * k)).take 8)
  have h2 : 256 ^ ((b.drop (8 * k)).take 8).length ≤ 256 ^ 8 := Nat.pow_le_pow_right (by decide) (by simp; omega)
  unfold wdN
  omega
theorem wdN_bit (b : List UInt8) (k j : Nat) (hj : j < 64) : (wdN b k).testBit j = gb b (64 * k + j) := by
  unfold wdN
  rw [ldN_bit, gb_take _ _ _ (by omega), gb_drop, show 8 * (8 * k) + j = 64 * k + j by omega]
def encW (b : List UInt8) (F T k : Nat) : Array Value := #[.agg #[.int .i64 ((64 * k : Nat) : Int), .int .u64 (askN F T k : Int), .int .u64 (wdN b k : Int)]]
/-- the row's end, as it is asked -/
def hiN (n : Nat) (t : Int) : Nat := min t.toNat (8 * n)
section
variable {P : Program} {w : World} {ops : Array Oper} {rest : List Oper} {o : Oper} {a : Act} {Q : Act → Prop} {t e : TypeId} {z : Value} {bytes : Nat}
/-- x[i:] of bytes, where the order is drawn -/
theorem wpStill_cut_l (E : El P t e z bytes) (hg : o.guard = none) (x lo : Operand) (hop : o.op = Op.slice t x (some lo) none none)
    {L : Nat} {A : Option Addr} {n c : Nat} {l : List UInt8} (hx : a.eval x = .slice A n c) (hb : Bs w L A n c l) (k : IntKind) (I : Int) (i : Nat) (hlo : a.eval lo = .int k I) (hI : I = i) (hi : i ≤ n)
    (h : ∀ A' m d, Bs w L A' m d (l.drop i) → wpStill P ops w Q rest (a.put o.dst (.slice A' m d))) : wpStill P ops w Q (o :: rest) a := by
  subst hI
  refine wpStill_step fun K hK => ?_
  have hw : Region.wanted o (yielded ops a.tmps) = true := by simp [Region.wanted, hg]
  rw [if_pos hw]
  have hrun := run_slice_l (P := P) (w := w) t A n c E.ty' k (i : Int) (by omega) (by omega)
  rw [E.sizeOf] at hrun
  have h2 := hb.cut (i := i) (k := n) hi (Nat.le_refl _)
  rw [List.take_of_length_le (by rw [hb.len]; exact Nat.le_refl _)] at h2
  unfold Oper.still
  simp [execOp, hop, hx, hlo, run_sliceAt_slice (P := P) (w := w) t _ _ _ _ E.ty', hrun, Result.andThen, sliced, Oper.stillUpon]
  exact hK _ (h _ _ _ h2)
/-- a struct of three parts, where the order is drawn -/
theorem wpStill_build3 (hg : o.guard = none) (x0 x1 x2 : Operand) (hop : o.op = .build t #[(0, x0), (1, x1), (2, x2)]) {v0 v1 v2 : Value} (h0 : a.eval x0 = v0) (h1 : a.eval x1 = v1) (h2 : a.eval x2 = v2) {cs : Array Value} (hb : P.built t [(0, v0), (1, v1), (2, v2)] = some cs)
    (h : wpStill P ops w Q rest (a.put o.dst (.agg cs))) : wpStill P ops w Q (o :: rest) a := by
  refine wpStill_step fun K hK => ?_
  have hw : Region.wanted o (yielded ops a.tmps) = true := by simp [Region.wanted, hg]
  rw [if_pos hw]
  unfold Oper.still execOp
  have hr := run_build (P := P) w t #[(0, v0), (1, v1), (2, v2)] cs hb
  simp only [hop, Sem.run_bind, List.map_toArray, List.map_cons, List.map_nil, h0, h1, h2, hr, Result.andThen_ok, Sem.run_pure, Oper.stillUpon]
  exact ⟨trivial, hK _ h⟩
end
section
set_option maxRecDepth 100000
set_option maxHeartbeats 2000000
theorem words_any (A : Option Addr) (n c : Nat) (f t : Int) (w : World) :
    Calls Tryd.prog 33 #[.slice A n c, .int .i64 f, .int .i64 t] w fun e w' => ∃ B : Nat, B = w.heap.size ∧ e = .returned (.func (.func 37) #[] #[.pointer (some ⟨B, 0, none⟩), .pointer (some ⟨B + 1, 0, none⟩), .pointer (some ⟨B + 2, 0, none⟩)]) ∧
      Blk w' B 22 [.slice A n c] ∧ Blk w' (B + 1) 3 [.int .i64 f] ∧ Blk w' (B + 2) 3 [.int .i64 t] ∧ Below w.heap.size w w' ∧ w'.heap.size = w.heap.size + 3 := by
  go_enter Tryd.func33, Tryd.ntmps33
  go_wp2
  go_ret
  refine ⟨_, rfl, rfl, ?_, ?_, ?_, ?_, by simp⟩
  · exact ((Blk.new w _ [.slice A n c]).alloc _).alloc _
  · have h := (Blk.new (w.alloc (.cells #[.slice A n c] 22)) 3 [.int .i64 f]).alloc (.cells #[.int .i64 t] 3)
    rwa [World.size_alloc] at h
  · have h := Blk.new ((w.alloc (.cells #[.slice A n c] 22)).alloc (.cells #[.int .i64 f] 3)) 3 [.int .i64 t]
    rwa [World.size_alloc, World.size_alloc] at h
  · exact (((Below.refl _ w).alloc (Nat.le_refl _) _).alloc (by simp) _).alloc (by simp; omega) _
attribute [local go_sem] Oper.semAt_some
theorem words1_in (l n₀ : Nat) (A : Option Addr) (n c : Nat) (b : List UInt8) (f t : Int) (Bb Bf Bt : Nat) (J Jx : List Nat → World → Prop) (W w0 : World) (hw0 : Below n₀ w0 W) (hW : n₀ ≤ W.heap.size)
    (hJ : OwnFrom W.heap.size J)
    (hY : ∀ pre x X, J pre X → pre.length < 2 * n + 2 → 64 * x < hiN n t → YieldAt Fence.wide 6 Tryd.prog l (encW b f.toNat (hiN n t) x) X fun e X' => (e = .returned (.bool true) ∧ J (pre ++ [x]) X' ∧ KpG n₀ [22] X X' ∧ KeepsFrom W.heap.size X X') ∨ (e = .returned (.bool false) ∧ Jx (pre ++ [x]) X' ∧ KeepsFrom W.heap.size X X'))
    (hb : Bs w0 n₀ A n c b) (hn : n ≤ 4294967296) (hf : f ≤ 9223372036854775807) (ht : t ≤ 9223372036854775807)
    (hBb : Blk W Bb 22 [.slice A n c]) (hBf : W.cell? ⟨Bf, 0, none⟩ = some (.int .i64 f)) (hBt : W.cell? ⟨Bt, 0, none⟩ = some (.int .i64 t)) (h0 : J [] W) :
    CallsIn Fence.wide 7 Tryd.prog 37 #[.func (.yield l) #[] #[], .pointer (some ⟨Bb, 0, none⟩), .pointer (some ⟨Bf, 0, none⟩), .pointer (some ⟨Bt, 0, none⟩)] W fun e W' => (∃ v, e = .returned v) ∧
      ((∃ ys, ys = ksL f.toNat (hiN n t) ∧ J ys W') ∨ (∃ pre, pre <+: ksL f.toNat (hiN n t) ∧ Jx pre W')) := by
  have HJ : Kp _ := ⟨hJ⟩
  have HY : Kp _ := ⟨hY⟩
  have HB : Kp _ := ⟨hb⟩
  have HW0 : Kp _ := ⟨hw0⟩
  have H0 : Kp _ := ⟨h0⟩
  have HBb : Kp _ := ⟨hBb⟩
  obtain ⟨F, hF⟩ : ∃ F, F = f.toNat := ⟨_, rfl⟩
  have hcF : (f < 0 ∧ (F : Int) = 0) ∨ (0 ≤ f ∧ (F : Int) = f) := by omega
  obtain ⟨T, hT⟩ : ∃ T, T = hiN n t := ⟨_, rfl⟩
  obtain ⟨T', hT'⟩ : ∃ T' : Int, T' = if t ≤ 0 then t else min t (8 * n) := ⟨_, rfl⟩
  have hcT : (t ≤ 0 ∧ T' = t) ∨ (0 < t ∧ t < 8 * n ∧ T' = t) ∨ (0 < t ∧ 8 * n ≤ t ∧ T' = 8 * n) := by rw [hT']; split <;> omega
  have hTT : T = T'.toNat := by rw [hT, hT']; unfold hiN; split <;> omega
  have hT8 : T ≤ 8 * n := by rw [hT]; unfold hiN; omega
  have HC : Kp _ := ⟨fun w => clip_any A n c f t (F : Int) T' w hn ht hcF hcT⟩
  have hF63 : F ≤ 9223372036854775807 := by omega
  rw [← hF, ← hT] at HY ⊢
  clear hJ hY hb hw0 h0 hBb hF hT hT' hcF hcT
  by_cases hFT : F < T
  · obtain rfl : T' = (T : Int) := by omega
    have hlt0 : (F : Int) < (T : Int) := by omega
    have hd0 : decide (T ≤ F) = false := decide_eq_false (by omega)
    obtain ⟨K0, hK0⟩ : ∃ K0, K0 = F / 64 := ⟨_, rfl⟩
    obtain ⟨N, hN⟩ : ∃ N, N = (T - 1) / 64 + 1 - F / 64 := ⟨_, rfl⟩
    have hKs : ksL F T = List.range' K0 N := by unfold ksL; rw [if_pos hFT, hK0, hN]
    have hq0 : (F : Int) / 64 = (K0 : Int) := by omega
    have hq1 : ((T : Int) - 1) / 64 = (K0 : Int) + (N : Int) - 1 := by omega
    have hNb : N < 2 * n + 2 := by omega
    have hKT : 64 * (K0 + N - 1) < T := by omega
    rw [hKs]
    refine callsIn_of_wp Tryd.func37 rfl trivial ?_ rfl
    simp only [Tryd.ntmps37, List.size_toArray, List.length_cons, List.length_nil, Nat.reduceAdd, Nat.reduceSub, Array.replicate_succ, Array.replicate_zero, List.push_toArray, List.append_toArray, List.nil_append, List.cons_append]
    refine wpIn_wide.2 ?_
    have cb : W.cell? ⟨Bb, 0, none⟩ = some (.slice A n c) := HBb.out.cell? 0
    clear hKs hK0 hN hTT
    go_wp2_with (go_at_call 38; refine (HC.out _).mono ?_; rintro e w9 ⟨rfl, rfl⟩)
    clear cb hBf hBt
    go_loopg [7] N (fun gk v7 wr => ∃ (k j : Nat), j + gk = N ∧ Kp (k = K0 + j) ∧ v7 = .int .i64 (k : Int) ∧ Kp (J (List.range' K0 j) wr) ∧ Kp (KpG n₀ [22] w9 wr))
    case atStart => exact ⟨K0, 0, by omega, ⟨rfl⟩, rfl, H0, ⟨KpG.refl _⟩⟩
    case round =>
      obtain ⟨k, j, hjN, HKj, rfl, HJr, HE⟩ := hrel
      have hkj := HKj.out
      cases gk with
      | zero =>
        have hend : ¬ ((k : Int) ≤ (K0 : Int) + (N : Int) - 1) := by omega
        have HKe : Kp (j = N) := ⟨by omega⟩
        clear hkj
        go_wp2
        go_end0
        rw [HKe.out] at HJr
        exact ⟨⟨_, rfl⟩, .inl HJr.out⟩
      | succ g2 =>
        have hgo : (k : Int) ≤ (K0 : Int) + (N : Int) - 1 := by omega
        obtain ⟨K64, hK64⟩ : ∃ x, x = 64 * k := ⟨_, rfl⟩
        obtain ⟨k8, hk8⟩ : ∃ x, x = 8 * k := ⟨_, rfl⟩
        have r1 : (k : Int) * 64 = (K64 : Int) := by omega
        have r2 : IntKind.i64.wrap (K64 : Int) = (K64 : Int) := by rw [IntKind.wrap_i64]; omega
        have r3 : Int.tdiv (K64 : Int) 8 = (k8 : Int) := by rw [Int.tdiv_eq_ediv_of_nonneg (by omega)]; omega
        have r4 : IntKind.i64.wrap (k8 : Int) = (k8 : Int) := by rw [IntKind.wrap_i64]; omega
        obtain ⟨z1, hz1⟩ : ∃ x : Int, x = (T : Int) - (K64 : Int) := ⟨_, rfl⟩
        obtain ⟨z2, hz2⟩ : ∃ x : Int, x = (F : Int) - (K64 : Int) := ⟨_, rfl⟩
        have r5 : IntKind.i64.wrap ((T : Int) - (K64 : Int)) = z1 := by rw [IntKind.wrap_i64]; omega
        have r6 : IntKind.i64.wrap ((F : Int) - (K64 : Int)) = z2 := by rw [IntKind.wrap_i64]; omega
        have HZ : Kp (bel z1.toNat = bel (T - 64 * k) ∧ bel z2.toNat = bel (F - 64 * k)) := ⟨by rw [show z1.toNat = T - 64 * k by omega], by rw [show z2.toNat = F - 64 * k by omega]⟩
        have r7 : bits .andNot .u64 (bel z1.toNat : Int) (bel z2.toNat : Int) = (askN F T k : Int) := by
          rw [HZ.out.1, HZ.out.2, u64_andNot_nat _ _ (bel_lt _) (bel_lt _)]; rfl
        have HKk : Kp (K64 = 64 * k ∧ k8 = 8 * k) := ⟨hK64, hk8⟩
        have hk8n : k8 ≤ n := by omega
        have cb : wr.cell? ⟨Bb, 0, none⟩ = some (.slice A n c) := (HE.out.blk HBb.out (by simp)).cell? 0
        have HBr : Kp (Bs wr.drew n₀ A n c b) := ⟨(HB.out.below (HW0.out.trans HE.out.below)).drew⟩
        have HJd : Kp (J (List.range' K0 j) wr.drew) := ⟨HJ.out _ _ _ none HJr.out ⟨rfl, rfl, rfl, Nat.le_refl _, fun _ _ _ => rfl⟩ (fun r e => by cases e)⟩
        obtain ⟨fn, tmps, assign, body, hy, hR⟩ := HY.out (List.range' K0 j) k wr.drew HJd.out (by simp; omega) (by omega)
        dsimp only [encW] at hy
        rw [← hK64] at hy
        have HWd : Kp (ldN ((((b.take n).drop k8)).take 8) = wdN b k) := ⟨by
          have e : b.take n = b := List.take_of_length_le (by rw [HB.out.len]; exact Nat.le_refl _)
          unfold wdN; rw [hk8, e]⟩
        have HCut : Kp _ := ⟨HBr.out.cut (i := k8) (k := n) hk8n (Nat.le_refl _)⟩
        have HNx : Kp (List.range' K0 j ++ [k] = List.range' K0 (j + 1)) := ⟨by rw [List.range'_concat, hkj]; simp⟩
        have HPx : Kp (List.range' K0 (j + 1) <+: List.range' K0 N) := ⟨List.range' (K0 + (j + 1)) (N - (j + 1)), by rw [List.range'_append_1, show j + 1 + (N - (j + 1)) = N by omega]⟩
        have HRd : Kp _ := ⟨hR⟩
        have hreg : j + g2 + 1 = N := by omega
        clear hR hK64 hk8 hz1 hz2 HJr hkj
        go_upto_region 6 with fail
        refine (wpIn_wide (n := 7)).1 ?_
        refine wpIn_region_tail 18 (by kernel_rfl) (by kernel_rfl) (fun o _ => letsOp_wide) ?_
        simp only [List.take_succ_cons, List.take_zero, List.drop_succ_cons, List.drop_zero]
        repeat (first | still_step | still_call (below_any _ _))
        still_call (load_any _ _ _ _ _ _ HCut.out)
        rw [HWd.out]
        refine wpStill_build3 (o := ⟨some 47, _, _, _, _, _⟩) rfl (.tmp 31) (.tmp 40) (.tmp 46) rfl rfl rfl rfl (cs := #[.int .i64 (K64 : Int), .int .u64 (askN F T k : Int), .int .u64 (wdN b k : Int)]) (by kernel_rfl) ?_
        refine wpStill_nil ?_
        clear r1 r2 r3 r4 r5 r6 r7 cb HCut HWd
        generalize (if c = k8 then A else Option.map (fun x => x.add k8) A) = A9
        gi_wp2
        refine HRd.out.mono ?_
        rintro e W3 (⟨rfl, hJ3, hk3, _⟩ | ⟨rfl, hJx3, _⟩)
        · have HJ3 : Kp _ := ⟨hJ3⟩
          have HE3 : Kp _ := ⟨HE.out.trans ((KpG.of_below ((Below.refl _ wr).drew) (Nat.le_trans hW HE.out.below.size)).trans hk3)⟩
          rw [HNx.out] at HJ3
          clear hJ3 hk3 HRd
          gi_wp2
          go_wp2
          go_roundg g2
          case measure => omega
          case rel => exact ⟨k + 1, j + 1, by omega, ⟨by rw [HKj.out]; rfl⟩, by go_num, HJ3, HE3⟩
        · rw [HNx.out] at hJx3
          have HJx : Kp _ := ⟨hJx3⟩
          clear hJx3 HRd
          gi_wp2
          go_wp2
          refine bodyPost_ret (results_none rfl _ _ _) rfl ?_
          exact ⟨⟨_, rfl⟩, .inr ⟨_, HPx.out, HJx.out⟩⟩
  · have hT0 : T' ≤ (F : Int) := by omega
    refine callsIn_of_wp Tryd.func37 rfl trivial ?_ rfl
    simp only [Tryd.ntmps37, List.size_toArray, List.length_cons, List.length_nil, Nat.reduceAdd, Nat.reduceSub, Array.replicate_succ, Array.replicate_zero, List.push_toArray, List.append_toArray, List.nil_append, List.cons_append]
    refine wpIn_wide.2 ?_
    have cb : W.cell? ⟨Bb, 0, none⟩ = some (.slice A n c) := HBb.out.cell? 0
    have HKs : Kp (ksL F T = []) := ⟨by unfold ksL; rw [if_neg hFT]; rfl⟩
    clear hTT
    go_wp2_with (go_at_call 38; refine (HC.out _).mono ?_; rintro e w9 ⟨rfl, rfl⟩)
    refine bodyPost_ret (results_none rfl _ _ _) rfl ?_
    exact ⟨⟨_, rfl⟩, .inl ⟨[], HKs.out.symm, H0.out⟩⟩
/-- a word that is there -/
abbrev Wk (T : Nat) := {k : Nat // 64 * k < T}
theorem words_stops (n₀ : Nat) (A : Option Addr) (n c : Nat) (b : List UInt8) (f t : Int) (Bb Bf Bt : Nat) (w : World) (hn0 : n₀ ≤ w.heap.size) (hb : Bs w n₀ A n c b) (hn : n ≤ 4294967296) (hf : f ≤ 9223372036854775807) (ht : t ≤ 9223372036854775807)
    (hBb : Blk w Bb 22 [.slice A n c]) (hBf : Blk w Bf 3 [.int .i64 f]) (hBt : Blk w Bt 3 [.int .i64 t]) (F T : Nat) (hF : f.toNat = F) (hT : hiN n t = T) :
    SeqO Tryd.prog 37 #[.pointer (some ⟨Bb, 0, none⟩), .pointer (some ⟨Bf, 0, none⟩), .pointer (some ⟨Bt, 0, none⟩)] (fun k : Wk T => encW b F T k.1) n₀ [22] (fun ys => ys.map (·.1) = ksL F T) (fun pre => pre.map (·.1) <+: ksL F T) (2 * n + 2) w := by
  subst hF hT
  intro l J Jx W hW hJ _ hY h0
  refine (words1_in l n₀ A n c b f t Bb Bf Bt (fun pre X => ∃ la : List (Wk (hiN n t)), la.map (·.1) = pre ∧ J la X) (fun pre X => ∃ la : List (Wk (hiN n t)), la.map (·.1) = pre ∧ Jx la X) W w (hW.mono hn0) (Nat.le_trans hn0 hW.size)
    (fun s X Y row h hg hr => by
      obtain ⟨la, h1, h2⟩ := h
      exact ⟨la, h1, hJ la X Y row h2 hg hr⟩) ?_ hb hn hf ht (hBb.below hW hBb.lt) ((hBf.below hW hBf.lt).cell? 0) ((hBt.below hW hBt.lt).cell? 0) ⟨[], rfl, h0⟩).mono ?_
  · rintro pre x X ⟨la, rfl, hj⟩ hlen hx
    obtain ⟨fn, tmps, assign, body, h1, h2⟩ := hY la ⟨x, hx⟩ X hj (by simpa using hlen)
    refine ⟨fn, tmps, assign, body, h1, h2.mono ?_⟩
    rintro e X' (⟨h3, h4, h5⟩ | ⟨h3, h4, h5⟩)
    · exact .inl ⟨h3, ⟨_, by simp, h4⟩, h5⟩
    · exact .inr ⟨h3, ⟨_, by simp, h4⟩, h5⟩
  · rintro e W' ⟨hv, ⟨ys, h1, la, rfl, h2⟩ | ⟨pre, h1, la, rfl, h2⟩⟩
    · exact ⟨hv, .inl ⟨la, h1, h2⟩⟩
    · exact ⟨hv, .inr ⟨la, h1, h2⟩⟩
end
end Go.Proofs.YtgkeckfiacdpkaaDoor
