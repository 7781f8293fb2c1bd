/- The contract of read. -/
import Derived.Test.YtaedlaeflliibaaEnE
import Derived.Test.YtaedlaeflliibaaCuts14
import Derived.StillTailTactics
namespace Go.Proofs.Ytaedlaeflliibaa
open Go.RowKit Go.Deep

theorem ret_two {P : Program} {a : Act} {w : World} {t : TypeId} {fn : Func} {R : Ending → World → Prop} {p q : Tmp} {d : TypeDesc} {n : Nat} (hr : fn.results = #[.cell p t, .tmp q]) (E : Rw P t d n) {g : Nat} {t' : TypeId} {cs : List Value} {v2 : Value} (hx : a.tmps.getD p undef = .pointer (some ⟨g, 0, none⟩)) (hq : a.tmps.getD q undef = v2) (hb : Blk w g t' cs) (hn : cs.length = n) (hd : a.defers = [])
    (h : R (.returned (.tuple #[.agg cs.toArray, v2])) w) : bodyPost P fn R .ret a w := by
  have hl := run_load_rw (w := w) E hb (off := 0) (by omega)
  simp only [Instr.loadAt, Instr.sureAddr, Sem.run_bind, Sem.run_pure, Result.andThen_ok] at hl
  have e : (cs.drop 0).take n = cs := by rw [List.drop_zero, List.take_of_length_le (by omega)]
  rw [e] at hl
  have hx' : a.tmps[p]?.getD undef = .pointer (some ⟨g, 0, none⟩) := by simpa using hx
  have hq' : a.tmps[q]?.getD undef = v2 := by simpa using hq
  exact bodyPost_ret (v := .tuple #[.agg cs.toArray, v2]) (by simp only [results, hr]; simp [hx', hq', asAddr, hl]) hd h
/-- what 32 bytes tell -/
def rd1 (b : List UInt8) : En := (((b.drop 1).take 27).take (min (getN (b.take 1)) 27), ((getN ((b.drop 28).take 4) : Nat) : Int))
theorem Bs.upto {w : World} {B : Nat} {A : Option Addr} {n c : Nat} {l : List UInt8} (h : Bs w B A n c l) {k : Nat} (hk : k ≤ n) : Bs w B A k c (l.take k) := by
  have hl := h.len
  refine ⟨by simp; omega, by have := h.cap; omega, h.max, h.nil, fun h0 => ?_⟩
  obtain ⟨b, o, hA, hb, hc⟩ := h.cells (by omega)
  refine ⟨b, o, hA, hb, fun j hj => ?_⟩
  have hj2 : j < l.length := by simp at hj; omega
  rw [List.getElem_take]
  exact hc j hj2
/-- what bytes tell, if they are 32 -/
def rdE (b : List UInt8) : En := if b.length = 32 then rd1 b else ([], 0)
def wL : List Int := [1, 27, 4]
theorem cutE_32 (b : List UInt8) : (cutE b wL = 0 ↔ b.length = 32) ∧ (b.length = 32 → cutF b wL = [b.take 1, (b.drop 1).take 27, (b.drop 28).take 4]) := by
  have ho : off wL wL.length = 32 := by decide
  have h : cutE b wL = 0 ↔ b.length = 32 := by
    unfold cutE
    rw [ho]
    constructor
    · intro h
      split at h
      · cases h
      · split at h
        · cases h
        · omega
    · intro h
      rw [if_neg (by omega), if_neg (by omega)]
  refine ⟨h, fun hb => ?_⟩
  rw [cutF_ok (h.2 hb)]
  simp [wL, fieldsL]
theorem zs_three (w : World) (t : TypeId) : Zs (w.alloc (.cells #[.int .i64 1, .int .i64 27, .int .i64 4] t)) (w.alloc (.cells #[.int .i64 1, .int .i64 27, .int .i64 4] t)).heap.size .i64 (some ⟨w.heap.size, 0, none⟩) 3 3 wL := by
  have hk := Blk.new w t [.int .i64 1, .int .i64 27, .int .i64 4]
  refine ⟨rfl, Nat.le_refl _, by simp [maxLen], (fun h => by cases h), fun z hz => ?_, fun _ => ⟨w.heap.size, 0, rfl, by simp, fun j hj => ?_⟩⟩
  · simp only [wL, List.mem_cons, List.not_mem_nil, or_false] at hz
    rcases hz with rfl | rfl | rfl <;> decide
  · rcases (by simp [wL] at hj; omega : j = 0 ∨ j = 1 ∨ j = 2) with rfl | rfl | rfl
    · exact hk.cell? 0
    · exact hk.cell? 1
    · exact hk.cell? 2
section
variable {P : Program} {w : World} {ops : Array Oper} {rest : List Oper} {o : Oper} {a : Act} {Q : Act → Prop} {t e : TypeId} {z : Value} {bytes : Nat}
theorem wpList_build0 {Q : Exit → Act → World → Prop} (hg : o.guard = none) (hop : o.op = .build t #[]) {cs : List Value} (hb : P.built t [] = some cs.toArray)
    (h : wpList P ops Q rest (a.put o.dst (.agg cs.toArray)) w) : wpList P ops Q (o :: rest) a w := by
  refine wpList_plain hg fun K hK => ?_
  unfold Oper.wp execOp
  have hr := run_build (P := P) w t #[] cs.toArray (by simpa using hb)
  simp only [hop, Sem.run_bind, List.map_toArray, List.map_nil, hr, Result.andThen_ok]
  exact hK _ _ h
/-- x[:k] of bytes, where the order is drawn -/
theorem wpStill_cut_h (E : El P t e z bytes) (hg : o.guard = none) (x hi : Operand) (hop : o.op = Op.slice t x none (some hi) none)
    {L : Nat} {A : Option Addr} {n c : Nat} {l : List UInt8} (hx : a.eval x = .slice A n c) (hb : Bs w L A n c l) (kk : IntKind) (I : Int) (k : Nat) (hhi : a.eval hi = .int kk I) (hI : I = k) (hk : k ≤ n)
    (h : ∀ A', Bs w L A' k c (l.take k) → wpStill P ops w Q rest (a.put o.dst (.slice A' k c))) : wpStill P ops w Q (o :: rest) a := by
  subst hI
  refine wpStill_step fun K hK => ?_
  have hw : Region.wanted o (yielded ops a.tmps) = true := by simp [Region.wanted, hg]
  rw [if_pos hw]
  have hrun := run_slice_h (P := P) (w := w) t A n c E.ty' kk (k : Int) (by omega) (by have := hb.cap; omega)
  rw [E.sizeOf] at hrun
  have h2 := hb.cut (i := 0) (k := k) (Nat.zero_le _) hk
  unfold Oper.still
  simp [execOp, hop, hx, hhi, run_sliceAt_slice (P := P) (w := w) t _ _ _ _ E.ty', hrun, Result.andThen, sliced, Oper.stillUpon]
  exact hK _ (h _ h2)
theorem wpStill_build2 (hg : o.guard = none) (i j : Nat) (x y : Operand) (hop : o.op = .build t #[(i, x), (j, y)]) {v u : Value} (hx : a.eval x = v) (hy : a.eval y = u) {cs : List Value} (hb : P.built t [(i, v), (j, u)] = some cs.toArray)
    (h : wpStill P ops w Q rest (a.put o.dst (.agg cs.toArray))) : wpStill P ops w Q (o :: rest) a := by
  refine wpStill_step fun K hK => ?_
  have hw : Region.wanted o (yielded ops a.tmps) = true := by simp [Region.wanted, hg]
  rw [if_pos hw]
  unfold Oper.still execOp
  have hr := run_build (P := P) w t #[(i, v), (j, u)] cs.toArray (by simpa using hb)
  simp only [hop, Sem.run_bind, List.map_toArray, List.map_cons, List.map_nil, hx, hy, hr, Result.andThen_ok, Sem.run_pure]
  exact ⟨rfl, hK _ h⟩
end
set_option maxRecDepth 100000 in
set_option maxHeartbeats 4000000 in
theorem read_any (A : Option Addr) (m d : Nat) (b : List UInt8) (w : World) (hb : Bs w w.heap.size A m d b) (hm : m ≤ 4294967296) :
    Calls Try.prog 34 #[.slice A m d] w fun e w' => (∃ er : Int, e = .returned (.tuple #[.agg (enOne (rdE b)).toArray, .int .i64 er]) ∧ (er = 0 ↔ m = 32)) ∧ Below w.heap.size w w' := by
  have HBb : Kp _ := ⟨hb⟩
  have HL : Kp _ := ⟨hb.len⟩
  have HE : Kp _ := ⟨cutE_32 b⟩
  clear hb
  go_enter Try.func34, Try.ntmps34
  go_wp2_with (with_reducible refine wpList_alloc (o := ⟨some 2, _, _, _, _, _⟩) tyEn rfl rfl ?_)
  intro w1 hk1 hb1 hs1
  obtain ⟨g, hg⟩ : ∃ g, g = w.heap.size := ⟨_, rfl⟩
  rw [← hg] at hk1 ⊢
  have HK1 : Kp _ := ⟨hk1⟩
  have HB1 : Kp _ := ⟨hb1⟩
  have HBb1 : Kp _ := ⟨HBb.out.next hb1 (Nat.le_refl _)⟩
  have HG : Kp (w.heap.size ≤ g) := ⟨by omega⟩
  clear hk1 hb1 HBb hg hs1
  go_wp2_with fail
  have hb2 : Below w1.heap.size w1 (w1.alloc (.cells #[.int .i64 1, .int .i64 27, .int .i64 4] 3)) := (Below.refl _ _).alloc (Nat.le_refl _) _
  refine (cut_any A _ m d 3 3 b wL _ (HBb1.out.next hb2 (Nat.le_refl _)) (zs_three w1 3) hm (by omega)).mono ?_
  rintro e w3 ⟨A3, n3, c3, rfl, h3, hb3⟩
  have hb13 := hb2.trans (hb3.mono hb2.size)
  have HK3 : Kp _ := ⟨HK1.out.below hb13 HK1.out.lt⟩
  have HB3 : Kp (Below w.heap.size w w3) := ⟨HB1.out.trans (hb13.mono HB1.out.size)⟩
  have H3 : Kp _ := ⟨h3⟩
  clear h3 hb3 hb13 hb2 HK1 HB1 HBb1
  by_cases hm32 : m = 32
  · subst hm32
    have hlen := HL.out
    have hce := HE.out.1.2 hlen
    have hcf := HE.out.2 hlen
    rw [hce]
    rw [hcf] at H3
    obtain rfl : n3 = 3 := H3.out.len.symm
    obtain ⟨bb, oo, A0, n0, c0, rfl, _, k0, s0⟩ := H3.out.at (i := 0) (by omega)
    obtain ⟨b', o', A1, n1, c1, e1, _, k1, s1⟩ := H3.out.at (i := 1) (by omega)
    cases e1
    obtain ⟨b', o', A2, n2, c2, e2, _, k2, s2⟩ := H3.out.at (i := 2) (by omega)
    cases e2
    rw [Nat.add_zero] at k0
    obtain ⟨bm, hbm⟩ : ∃ bm, bm = (b.drop 1).take 27 := ⟨_, rfl⟩
    have HBs : Kp (Bs w3 w3.heap.size A1 n1 c1 bm) := ⟨by rw [hbm]; exact s1⟩
    have HG0 : Kp (∀ W, Bs W w3.heap.size A0 n0 c0 (b.take 1) → _) := ⟨fun W h => (get_any A0 n0 c0 (b.take 1) W w3.heap.size h).mono fun e w' hh => (⟨hh.1, hh.2.symm⟩ : e = _ ∧ w' = W)⟩
    have hn0 : n0 = 1 := by have := s0.len; simp at this; omega
    have hn1 : n1 = 27 := by have h9 := s1.len; have e9 : ([b.take 1, (b.drop 1).take 27, (b.drop 28).take 4][1]).length = 27 := by simp; omega
                             omega
    have hn2 : n2 = 4 := by have := s2.len; simp at this; omega
    subst hn0 hn1 hn2
    obtain ⟨q, hq⟩ : ∃ q, q = getN (b.take 1) := ⟨_, rfl⟩
    have hq256 : q < 256 := by have := getN_lt (b.take 1); have e : (b.take 1).length = 1 := by simp; omega
                               rw [e] at this; omega
    have HGa : Kp (Calls Try.prog 49 #[.slice A0 1 c0] w3 fun e w' => e = .returned (.int .u64 (q : Int)) ∧ w' = w3) := ⟨by
      have h := HG0.out w3 s0
      rw [show 1 - 8 = 0 from rfl, List.drop_zero, ← hq] at h
      exact h⟩
    obtain ⟨r, hr⟩ : ∃ r, r = getN ((b.drop 28).take 4) := ⟨_, rfl⟩
    have HS2 : Kp (Bs w3 w3.heap.size A2 4 c2 ((b.drop 28).take 4)) := ⟨s2⟩
    have HGb : Kp (∀ W, Bs W w3.heap.size A2 4 c2 ((b.drop 28).take 4) → Calls Try.prog 49 #[.slice A2 4 c2] W fun e w' => e = .returned (.int .u64 (r : Int)) ∧ w' = W) := ⟨fun W hW => by
      have h := get_any A2 4 c2 ((b.drop 28).take 4) W w3.heap.size hW
      rw [show 4 - 8 = 0 from rfl, List.drop_zero, ← hr] at h
      exact h.mono fun e w' hh => ⟨hh.1, hh.2.symm⟩⟩
    obtain ⟨p, hp⟩ : ∃ p, p = min q 27 := ⟨_, rfl⟩
    have HRd : Kp (rdE b = (bm.take p, (r : Int))) := ⟨by unfold rdE; rw [if_pos hlen]; unfold rd1; rw [hp, hq, hr, hbm]⟩
    have hr32 : r < 4294967296 := by
      have h := getN_lt ((b.drop 28).take 4)
      have e : ((b.drop 28).take 4).length = 4 := by simp; omega
      rw [e] at h; rw [hr]; omega
    have hpi : min (q : Int) 27 = (p : Int) := by omega
    have hp27 : p ≤ 27 := by omega
    clear s0 s1 s2 HG0 hce hcf HE hq hr hp hbm
    go_wp2_with (go_at_call 49; refine HGa.out.mono ?_; rintro e w4 ⟨rfl, hw4⟩; subst hw4)
    have HBd : Kp _ := ⟨HBs.out.drew⟩
    have HGc : Kp _ := ⟨HGb.out w4.drew HS2.out.drew⟩
    have HZ : Kp _ := ⟨built_en (bm.take p) (r : Int)⟩
    have HKd : Kp _ := ⟨HK3.out.drew⟩
    have HWd : Kp (Below w.heap.size w w4.drew) := ⟨HB3.out.drew⟩
    clear HBs HGa HGb H3 HL hlen HK3 HB3
    have hcv : IntKind.i64.wrap (r : Int) = (r : Int) := by rw [IntKind.wrap_i64]; omega
    refine wp_region_still_tail 12 (by kernel_rfl) (by kernel_rfl) ?_
    simp only [List.take_succ_cons, List.take_zero, List.drop_succ_cons, List.drop_zero]
    change wpStill _ _ w4.drew (fun a' => wpList _ _ _ _ a' w4.drew) _ _
    have k1d : w4.drew.cell? ⟨bb, oo + 1, none⟩ = some (.slice A1 27 c1) := k1
    have k2d : w4.drew.cell? ⟨bb, oo + 2, none⟩ = some (.slice A2 4 c2) := k2
    clear k0 k1 k2 HS2
    generalize w4.drew = w5 at *
    (with_reducible refine wpStill_step (fun K hK => ?_); go_simp; with_reducible refine hK _ ?_; clear hK K)
    (with_reducible refine wpStill_step (fun K hK => ?_); go_simp; with_reducible refine hK _ ?_; clear hK K)
    (with_reducible refine wpStill_step (fun K hK => ?_); go_simp; with_reducible refine hK _ ?_; clear hK K)
    (with_reducible refine wpStill_step (fun K hK => ?_); go_simp; with_reducible refine hK _ ?_; clear hK K)
    with_reducible refine wpStill_cut_h (o := ⟨some 27, _, _, _, _, _⟩) el8 ?c1 (.tmp 25) (.tmp 26) ?c2 ?c3 HBd.out .i64 (p : Int) p ?c4 ?c5 hp27 ?c6
    case c1 => rfl
    case c2 => rfl
    case c3 => rfl
    case c4 => rfl
    case c5 => rfl
    intro A6 h6
    have htt := h6.text Try.underlying23 Try.underlying5 Try.underlying9
    clear h6
    (with_reducible refine wpStill_step (fun K hK => ?_); go_simp; with_reducible refine hK _ ?_; clear hK K)
    (with_reducible refine wpStill_step (fun K hK => ?_); go_simp; with_reducible refine hK _ ?_; clear hK K)
    (with_reducible refine wpStill_step (fun K hK => ?_); go_simp; with_reducible refine hK _ ?_; clear hK K)
    (with_reducible refine wpStill_step (fun K hK => ?_); go_simp; with_reducible refine hK _ ?_; clear hK K)
    (with_reducible refine wpStill_step (fun K hK => ?_); go_simp; with_reducible refine ⟨_, HGc.out, hK _ ?_⟩; clear hK K)
    (with_reducible refine wpStill_step (fun K hK => ?_); go_simp; with_reducible refine hK _ ?_; clear hK K)
    with_reducible refine wpStill_build2 (o := ⟨some 34, _, _, _, _, _⟩) ?d1 0 1 (.tmp 28) (.tmp 33) ?d2 ?d3 ?d4 HZ.out ?d5
    case d1 => rfl
    case d2 => rfl
    case d3 => rfl
    case d4 => rfl
    refine wpStill_nil ?_
    refine wpList_storeAll (o := ⟨none, _, _, _, _, _⟩) rwEn rfl (.tmp 2) (.tmp 34) rfl rfl HKd.out (n := 2) rfl (vs := enOne (bm.take p, (r : Int))) rfl (enOne_one _) rfl ?_
    intro w6 hk6 ho6
    have HK6 : Kp _ := ⟨hk6⟩
    have HB6 : Kp (Below w.heap.size w w6) := ⟨HWd.out.trans (ho6.below HG.out)⟩
    clear hk6 ho6 HKd HWd
    go_wp2
    refine ret_two rfl rwEn rfl rfl HK6.out rfl rfl ?_
    rw [HRd.out]
    first | exact ⟨rfl, HB6.out⟩ | exact ⟨⟨0, rfl, by simp⟩, HB6.out⟩
  · have hne : ¬ cutE b wL = 0 := fun h => hm32 (by have := HE.out.1.1 h; have := HL.out; omega)
    have hneI : (((cutE b wL : Nat) : Int) != 0) = true := by simp; exact hne
    have HZ : Kp ((Try.prog).built 39 [] = some zeroEn.toArray) := ⟨by kernel_rfl⟩
    have HM : Kp (m = 32 → False) := ⟨hm32⟩
    have HRz : Kp (rdE b = ([], 0)) := ⟨by unfold rdE; rw [if_neg (by rw [HL.out]; exact hm32)]⟩
    generalize cutE b wL = er at *
    clear H3 hm32 HE
    go_wp2_with (first | (refine wpList_build0 rfl rfl HZ.out ?_) | (refine wpList_storeAll rwEn rfl _ _ rfl rfl HK3.out (n := 2) rfl (vs := zeroEn) rfl (enOne_one ([], 0)) rfl ?_))
    intro w6 hk6 ho6
    have HK6 : Kp _ := ⟨hk6⟩
    have HB6 : Kp (Below w.heap.size w w6) := ⟨HB3.out.trans (ho6.below HG.out)⟩
    clear hk6 ho6 HK3 HB3
    go_wp2
    refine ret_two rfl rwEn rfl rfl HK6.out rfl rfl ?_
    exact ⟨⟨((er : Nat) : Int), by rw [HRz.out]; rfl, ⟨fun h => absurd (by omega) hne, fun h => (HM.out h).elim⟩⟩, HB6.out⟩
end Go.Proofs.Ytaedlaeflliibaa
