/- The contract of Decode. -/
import Derived.Test.YtaedlaeflliibaaEnZ
import Derived.Test.YtaedlaeflliibaaEnH
import Derived.Test.YtaedlaeflliibaaCEqual
import Derived.WalkArith
import Derived.Shelf.Abstract
namespace Go.Proofs.Ytaedlaeflliibaa
open Go.RowKit Go.Deep

theorem results_se {P : Program} {w : World} {tmps : Array Value} {t u q' : TypeId} {fn : Func} {p q : Tmp} {k : IntKind} (hr : fn.results = #[.cell p t, .cell q u]) (ht : P.underlying t = some (.slice q')) (hu : P.underlying u = some (.int k)) {g h : Nat} {t' u' : TypeId} {A : Option Addr} {n c : Nat} {z : Int}
    (hx : tmps.getD p undef = .pointer (some ⟨g, 0, none⟩)) (hy : tmps.getD q undef = .pointer (some ⟨h, 0, none⟩)) (hb : Blk w g t' [.slice A n c]) (hc : Blk w h u' [.int k z]) :
    (results fn tmps).run P w = .ok (.tuple #[.slice A n c, .int k z]) w := by
  have c1 : w.cell? ⟨g, 0, none⟩ = some (.slice A n c) := hb.cell? 0
  have c2 : w.cell? ⟨h, 0, none⟩ = some (.int k z) := hc.cell? 0
  have hx' : tmps[p]?.getD undef = .pointer (some ⟨g, 0, none⟩) := by simpa using hx
  have hy' : tmps[q]?.getD undef = .pointer (some ⟨h, 0, none⟩) := by simpa using hy
  simp only [results, hr]
  simp [hx', hy', asAddr, loadVar, isAgg, run_underlying ht, run_underlying hu, Result.andThen, c1, c2]
theorem below_lowE {X Y : World} {n₀ M n size : Nat} {e : TypeId} {v : Value} {xs : List Value} (h : X.ownsRow M e size v n xs) (hM : n₀ ≤ M) (hX : n₀ ≤ X.heap.size) (hg : X.grownBy Y v.ownBlock) : Below n₀ X Y :=
  ⟨hg.os, hg.tape, hg.output, hg.size, fun k hk => hg.block k (by omega) (fun e => by have := ownS_low h k e.symm; omega)⟩
theorem alloc_neE {w : World} {g : Nat} {t : TypeId} {cs : List Value} (h : Blk w g t cs) : g ≠ w.heap.size := by have := h.lt; omega
theorem piece32 {w : World} {B bb oo n c : Nat} {b : List UInt8} (h : Bs w B (some ⟨bb, oo, none⟩) n c b) (j : Nat) : Bs w B (some ⟨bb, oo + 32 * j, none⟩) (pcl n j) (pcl n j) (pcOf b j) := by
  have hl := h.len
  have hp : pcl n j ≤ 32 := by unfold pcl; omega
  refine ⟨by rw [pcOf_len, hl], Nat.le_refl _, by simp only [maxLen]; omega, (fun h => by cases h), fun h0 => ?_⟩
  have hlt : 32 * j < n := by unfold pcl at h0; omega
  obtain ⟨b', o', hA, hb, hc⟩ := h.cells (by omega)
  cases hA
  refine ⟨bb, oo + 32 * j, rfl, hb, fun i hi => ?_⟩
  have hi2 : i < pcl n j := by rw [pcOf_len, hl] at hi; exact hi
  have h1 := hc (32 * j + i) (by unfold pcl at hi2; omega)
  rw [show oo + 32 * j + i = oo + (32 * j + i) by omega, h1]
  simp [pcOf]
theorem take_allE {l : List Value} {n : Nat} (h : l.length = n) : (l.drop 0).take n = l := by rw [List.drop_zero, List.take_of_length_le (by omega)]
theorem fit_allE {l : List Value} {n : Nat} (h : l.length = n) : 0 + n ≤ l.length := by omega
theorem store_allE {cs vs : List Value} {n : Nat} (h : cs.length = n) : cs.take 0 ++ vs ++ cs.drop (0 + n) = vs := by rw [List.drop_of_length_le (by omega)]; simp
theorem zip_oneE (T : Array Value) (p : Tmp) (v : Value) : (Array.zip #[p] #[v]).foldl (fun t (x : Tmp × Value) => t.setIfInBounds x.1 x.2) T = T.setIfInBounds p v := by simp
theorem keepsFrom_setE {B g : Nat} {t : TypeId} {cs : List Value} {X : World} (h : Blk X g t cs) (i : Nat) (v : Value) : KeepsFrom B X (X.setCell ⟨g, i, none⟩ v) := by
  have ho := Only.setCell X ⟨g, i, none⟩ v
  refine ⟨by rw [ho.size]; exact Nat.le_refl _, fun k o _ hk hc => (ho.block k (fun e => ?_)).trans hk⟩
  have e' : k = g := e
  subst e'
  rw [h.heap] at hk
  cases hk
  cases hc
theorem keepsFrom_rowE {B base n size : Nat} {e : TypeId} {v : Value} {xs : List Value} {X Y : World} (h : X.ownsRow base e size v n xs) (hg : X.grownBy Y v.ownBlock) : KeepsFrom B X Y := by
  refine ⟨hg.size, fun k o _ hk hc => (hg.block k (Array.getElem?_eq_some_iff.1 hk).1 (fun e => ?_)).trans hk⟩
  rcases h.2 with ⟨rfl, h0⟩ | ⟨g, cap, cur, rfl, hb, hh, hrest⟩
  · cases e
  · have e2 : some k = some g := e.symm ▸ rfl
    have e3 := Option.some.inj e2
    subst e3
    rw [hh] at hk
    cases hk
    cases hc
/-- both results are laid -/
theorem two_set {X w : World} {R1 R2 D : Nat} {t1 t2 : TypeId} {u z : Value} (h1 : Blk X R1 t1 [u]) (h2 : Blk X R2 t2 [z]) (hne : R1 ≠ R2) (hw1 : w.heap.size ≤ R1) (hw2 : w.heap.size ≤ R2) (hlo : Below w.heap.size w X) (hKd : X.heap[D]? = some (.deferred (some []))) (v y : Value) :
    Blk (X.setCell ⟨R1, 0, none⟩ v) R2 t2 [z] ∧ Blk ((X.setCell ⟨R1, 0, none⟩ v).setCell ⟨R2, 0, none⟩ y) R1 t1 [v] ∧ Blk ((X.setCell ⟨R1, 0, none⟩ v).setCell ⟨R2, 0, none⟩ y) R2 t2 [y] ∧ Below w.heap.size w ((X.setCell ⟨R1, 0, none⟩ v).setCell ⟨R2, 0, none⟩ y) ∧
      ((X.setCell ⟨R1, 0, none⟩ v).setCell ⟨R2, 0, none⟩ y).heap[D]? = some (.deferred (some [])) := by
  have a1 : Blk (X.setCell ⟨R1, 0, none⟩ v) R1 t1 [v] := h1.set 0 v
  have o1 := Only.setCell X ⟨R1, 0, none⟩ v
  have a2 : Blk (X.setCell ⟨R1, 0, none⟩ v) R2 t2 [z] := h2.only o1 hne.symm
  have o2 := Only.setCell (X.setCell ⟨R1, 0, none⟩ v) ⟨R2, 0, none⟩ y
  have k1 : (X.setCell ⟨R1, 0, none⟩ v).heap[D]? = some (.deferred (some [])) := (o1.block D (fun e => by have h := h1.heap; have e' : D = R1 := e; rw [← e', hKd] at h; cases h)).trans hKd
  exact ⟨a2, a1.only o2 hne, a2.set 0 y, (hlo.trans (o1.below hw1)).trans (o2.below hw2), (o2.block D (fun e => by have h := a2.heap; have e' : D = R2 := e; rw [← e', k1] at h; cases h)).trans k1⟩
theorem infEn : ((Try.prog).info? 39).map (fun i => (i.zero, i.size, i.bytes)) = some (some (.agg zeroEn.toArray), 2, 24) := by kernel_rfl
theorem rdE_ok (b : List UInt8) : EnOk (rdE b) := by
  unfold rdE
  split
  · refine ⟨?_, ?_⟩
    · unfold rd1; simp; omega
    · have h1 : getN ((b.drop 28).take 4) < 256 ^ 4 := by
        have h2 := getN_lt ((b.drop 28).take 4)
        exact Nat.lt_of_lt_of_le h2 (Nat.pow_le_pow_right (by decide) (by simp; omega))
      have h4 : getN ((b.drop 28).take 4) < 4294967296 := Nat.lt_of_lt_of_eq h1 (by decide)
      unfold rd1
      exact WalkArith.wf_i64 ⟨by simp only; omega, by simp only; omega⟩
  · exact ⟨by simp, WalkArith.wf_i64 ⟨by decide, by decide⟩⟩
section
variable {P : Program} {w : World} {ops : Array Oper} {rest : List Oper} {o : Oper} {a : Act} {Q : Exit → Act → World → Prop} {t e : TypeId} {z : Value} {size bytes : Nat}
/-- make of none, with room for n things of many cells -/
theorem wpList_mkE (ht : P.underlying t = some (.slice e)) (hinf : (P.info? e).map (fun i => (i.zero, i.size, i.bytes)) = some (some z, size, bytes)) (hg : o.guard = none) (l c : Operand) (hop : o.op = Op.makeSlice t l c)
    (base : Nat) (kl kc : IntKind) (C : Int) (n : Nat) (hl : a.eval l = .int kl 0) (hc : a.eval c = .int kc C) (hC : C = (n : Int)) (hb : bytes * n ≤ 281474976710656) (b3 : n ≤ maxLen) (b4 : base ≤ w.heap.size)
    (hK : ∀ w', w'.ownsRow base e size (.slice (some ⟨w.heap.size, 0, none⟩) 0 n) 0 [] → Below base w w' → wpList P ops Q rest (a.put o.dst (.slice (some ⟨w.heap.size, 0, none⟩) 0 n)) w') :
    wpList P ops Q (o :: rest) a w := by
  obtain ⟨i, hi, hz0, hz1, hz2⟩ := info_parts hinf
  exact wpList_make_own w hg l c t hop base e i z size ht hi hz0 hz1 kl kc C n hl hc hC (by rw [hz2]; exact hb) b3 b4 fun w' h1 h2 => hK w' h1 ((Below.refl _ _).grown h2 b4 (by simp))
end
/-- what the pieces tell -/
def tell (b : List UInt8) (pre : List Nat) : List En := pre.map fun j => rdE (pcOf b j)
theorem tell_next (b : List UInt8) (pre : List Nat) (j : Nat) : tell b (pre ++ [j]) = tell b pre ++ [rdE (pcOf b j)] := by simp [tell]
theorem tell_all (b : List UInt8) : tell b (List.range (pcs b.length)) = entsE b := rfl
theorem tell_ok (b : List UInt8) (pre : List Nat) : ∀ x ∈ tell b pre, EnOk x := by
  intro x hx
  unfold tell at hx
  obtain ⟨j, _, rfl⟩ := List.mem_map.1 hx
  exact rdE_ok _
/-- what lies between two rounds -/
structure DcI (b : List UInt8) (n R1 R2 Lb M0 s0 : Nat) (w : World) (pre : List Nat) (X : World) : Prop where
  low : Below w.heap.size w X
  size : s0 ≤ X.heap.size
  r1 : Blk X R1 22 [.slice none 0 0]
  r2 : Blk X R2 26 [.int .i64 0]
  all : ∀ j ∈ pre, pcl n j = 32
  row : ∃ v, Blk X Lb 22 [v] ∧ X.ownsRow M0 39 2 v pre.length (enCells (tell b pre)) ∧ ∀ r, v.ownBlock = some r → r = M0 ∨ s0 ≤ r
theorem DcI.own {b : List UInt8} {n R1 R2 Lb M0 s0 B : Nat} {w : World} (hB : w.heap.size ≤ B) : OwnFrom B (DcI b n R1 R2 Lb M0 s0 w) := fun _ _ _ _ h hg hr =>
  ⟨below_nc h.low hg (fun r e => (hr r e).1) hB (Nat.le_refl _), Nat.le_trans h.size hg.size, blk_nc h.r1 hg (fun r e => (hr r e).2), blk_nc h.r2 hg (fun r e => (hr r e).2), h.all, by
    obtain ⟨v, h1, h2, h3⟩ := h.row
    exact ⟨v, blk_nc h1 hg (fun r e => (hr r e).2), own_nc h2 hg (fun r e => (hr r e).2), h3⟩⟩
/-- the rounds were left: a piece is short -/
structure DcX (n R1 R2 : Nat) (w : World) (c : Code) (pre : List Nat) (X : World) : Prop where
  c : c = .ret
  low : Below w.heap.size w X
  r1 : Blk X R1 22 [.slice none 0 0]
  r2 : Blk X R2 26 [.int .i64 4]
  bad : ∃ j, j ∈ pre ∧ pcl n j ≠ 32
theorem DcX.own {n R1 R2 B : Nat} {w : World} (hB : w.heap.size ≤ B) (c : Code) : OwnFrom B (DcX n R1 R2 w c) := fun _ _ _ _ h hg hr =>
  ⟨h.c, below_nc h.low hg (fun r e => (hr r e).1) hB (Nat.le_refl _), blk_nc h.r1 hg (fun r e => (hr r e).2), blk_nc h.r2 hg (fun r e => (hr r e).2), h.bad⟩
theorem pcl_all {n : Nat} (h : ∀ j ∈ List.range (pcs n), pcl n j = 32) : n % 32 = 0 := by
  by_cases h0 : n % 32 = 0
  · exact h0
  · have h1 := h (n / 32) (List.mem_range.2 (by unfold pcs; omega))
    unfold pcl at h1; omega
theorem pcl_bad {n j : Nat} (hj : j < pcs n) (h : pcl n j ≠ 32) : n % 32 ≠ 0 := by
  unfold pcs at hj; unfold pcl at h; omega
section
set_option maxRecDepth 100000
set_option maxHeartbeats 4000000
theorem decode_far (A : Option Addr) (n c : Nat) (w : World) (hn : 17920 < (n : Int)) :
    Calls Try.prog 15 #[.slice A n c] w fun e w' => e = .returned (.tuple #[.slice none 0 0, .int .i64 4]) ∧ Below w.heap.size w w' := by
  go_enter Try.func15, Try.ntmps15
  go_wp2
  refine bodyPost_ret (v := .tuple #[.slice none 0 0, .int .i64 4]) (results_se rfl Try.underlying22 Try.underlying26 rfl rfl (t' := 22) (u' := 26) ((Blk.new w _ [.slice none 0 0]).alloc _) ?_) rfl ?_
  · have h := Blk.new (w.alloc (.cells #[.slice none 0 0] 22)) 26 [.int .i64 4]
    rwa [World.size_alloc] at h
  · exact ⟨rfl, ((Below.refl _ w).alloc (Nat.le_refl _) _).alloc (by simp) _⟩
theorem decode_near (bb oo : Nat) (A : Option Addr) (n c : Nat) (b : List UInt8) (w : World) (hb : Bs w w.heap.size A n c b) (hA : 0 < n → A = some ⟨bb, oo, none⟩) (hn : n ≤ 17920) :
    Calls Try.prog 15 #[.slice A n c] w fun e w' => ∃ A' m d, e = .returned (.tuple #[.slice A' m d, .int .i64 (decC b)]) ∧ Ens w' w'.heap.size A' m d (decR b) ∧ Below w.heap.size w w' := by
  have HBs0 : Kp _ := ⟨hb⟩
  have HLn' : Kp (b.length = n) := ⟨hb.len⟩
  have HA : Kp _ := ⟨hA⟩
  obtain ⟨R1, hR1⟩ : ∃ x, x = w.heap.size := ⟨_, rfl⟩
  obtain ⟨R2, hR2⟩ : ∃ x, x = w.heap.size + 1 := ⟨_, rfl⟩
  have hb2 : Below w.heap.size w ((w.alloc (.cells #[.slice none 0 0] 22)).alloc (.cells #[.int .i64 0] 26)) := ((Below.refl _ w).alloc (Nat.le_refl _) _).alloc (by simp) _
  have hk1 : Blk ((w.alloc (.cells #[.slice none 0 0] 22)).alloc (.cells #[.int .i64 0] 26)) w.heap.size 22 [.slice none 0 0] := (Blk.new w _ [.slice none 0 0]).alloc _
  have hk2 : Blk ((w.alloc (.cells #[.slice none 0 0] 22)).alloc (.cells #[.int .i64 0] 26)) (w.heap.size + 1) 26 [.int .i64 0] := by
    have h := Blk.new (w.alloc (.cells #[.slice none 0 0] 22)) 26 [.int .i64 0]
    rwa [World.size_alloc] at h
  rw [← hR1] at hk1
  rw [← hR2] at hk2
  have hle : ¬ (17920 < (n : Int)) := by omega
  have hdiv : ((n : Int)).tdiv 32 = ((n / 32 : Nat) : Int) := by rw [Int.tdiv_eq_ediv_of_nonneg (by omega)]; omega
  obtain ⟨m, hm⟩ : ∃ m, m = n / 32 := ⟨_, rfl⟩
  rw [← hm] at hdiv
  have hm560 : m ≤ 560 := by omega
  clear hm hA hb
  refine (callsIn_wide (n := 8)).1 (callsIn_of_wp_marks (F := Fence.wide) (n := 8) Try.func15 rfl trivial ?_ rfl)
  simp only [Try.ntmps15, List.size_toArray, List.length_cons, List.length_nil, Nat.reduceAdd, Nat.reduceSub, Array.replicate_succ, Array.replicate_zero, List.push_toArray, List.append_toArray, List.nil_append, List.cons_append]
  refine wpIn_wide.2 ?_
  go_upto_region 3 with fail
  rw [← hR2, ← hR1]
  generalize (w.alloc (.cells #[.slice none 0 0] 22)).alloc (.cells #[.int .i64 0] 26) = w1 at *
  have HB1 : Kp _ := ⟨hb2⟩
  have HK1 : Kp _ := ⟨hk1⟩
  have HK2 : Kp _ := ⟨hk2⟩
  have HR1w : Kp (w.heap.size ≤ R1) := ⟨by omega⟩
  have HR2w : Kp (w.heap.size ≤ R2) := ⟨by omega⟩
  have HR12 : Kp (R1 ≠ R2) := ⟨by omega⟩
  obtain ⟨M0, hM0⟩ : ∃ x, x = w1.heap.size := ⟨_, rfl⟩
  have HM1 : Kp (M0 = w1.heap.size) := ⟨hM0⟩
  have hM0le : M0 ≤ w1.heap.size := by omega
  have HMw : Kp (w.heap.size ≤ M0) := ⟨by rw [hM0]; exact hb2.size⟩
  have HMR1 : Kp (M0 ≠ R1) := ⟨by have := hk1.lt; omega⟩
  have HMR2 : Kp (M0 ≠ R2) := ⟨by have := hk2.lt; omega⟩
  have HMR : Kp (R1 < M0 ∧ R2 < M0) := ⟨by have := hk1.lt; have := hk2.lt; omega⟩
  clear hb2 hk1 hk2 hR1 hR2 hM0
  go_wp2_with (refine wpList_mkE Try.underlying22 infEn rfl _ _ rfl M0 _ _ _ m rfl rfl rfl (by omega) (by simp only [maxLen]; omega) hM0le ?_)
  intro w2 hown hb2
  rw [← HM1.out] at hown ⊢
  have HOw2 : Kp _ := ⟨hown⟩
  have HM2 : Kp (M0 < w2.heap.size) := ⟨by
    rcases hown.2 with ⟨h, _⟩ | ⟨g, cap, cur, h, _, hh, _⟩
    · cases h
    · have h2 := (Array.getElem?_eq_some_iff.1 hh).1
      cases h
      exact h2⟩
  have hb2' := hb2.mono (show w1.heap.size ≤ M0 by have := HM1.out; omega)
  have HB2 : Kp (Below w.heap.size w w2) := ⟨HB1.out.trans (hb2'.mono HB1.out.size)⟩
  have HK12 : Kp _ := ⟨HK1.out.below hb2' HK1.out.lt⟩
  have HK22 : Kp _ := ⟨HK2.out.below hb2' HK2.out.lt⟩
  clear hown hb2 hb2' HB1 HK1 HK2
  obtain ⟨Lb, hLb⟩ : ∃ x, x = w2.heap.size := ⟨_, rfl⟩
  have hb3 : Below w2.heap.size w2 (w2.alloc (.cells #[.slice (some ⟨M0, 0, none⟩) 0 m] 22)) := (Below.refl _ _).alloc (Nat.le_refl _) _
  have hk3 : Blk (w2.alloc (.cells #[.slice (some ⟨M0, 0, none⟩) 0 m] 22)) w2.heap.size 22 [.slice (some ⟨M0, 0, none⟩) 0 m] := Blk.new w2 _ _
  rw [← hLb] at hk3
  go_upto_region 4 with fail
  rw [← hLb]
  have HB3 : Kp (Below w.heap.size w (w2.alloc (.cells #[.slice (some ⟨M0, 0, none⟩) 0 m] 22))) := ⟨HB2.out.trans (hb3.mono HB2.out.size)⟩
  have HOw3 : Kp _ := ⟨ownS_below HOw2.out hb3⟩
  have HK13 : Kp _ := ⟨HK12.out.below hb3 HK12.out.lt⟩
  have HK23 : Kp _ := ⟨HK22.out.below hb3 HK22.out.lt⟩
  have HLv3 : Kp _ := ⟨hk3⟩
  have HLw : Kp (w.heap.size ≤ Lb) := ⟨by rw [hLb]; exact HB2.out.size⟩
  have HML : Kp (M0 ≠ Lb) := ⟨by have := HM2.out; omega⟩
  have HLR1 : Kp (R1 ≠ Lb) := ⟨by rw [hLb]; exact alloc_neE HK12.out⟩
  have HLR2 : Kp (R2 ≠ Lb) := ⟨by rw [hLb]; exact alloc_neE HK22.out⟩
  have HM3' : Kp (M0 < Lb) := ⟨by rw [hLb]; exact HM2.out⟩
  generalize w2.alloc (.cells #[.slice (some ⟨M0, 0, none⟩) 0 m] 22) = w25 at *
  clear hb3 hk3 hLb HB2 HK12 HK22 HOw2 HM2
  go_wp2_with fail
  refine (chunk_any _ _ _ w25).mono ?_
  rintro e w3 ⟨B, hBs, rfl, hka, hke, hb4⟩
  have HLn2 : Kp (Lb < B) := ⟨by have := HLv3.out.lt; omega⟩
  have HLn : Kp (Lb ∉ [B, B + 1]) := ⟨by
    have := HLn2.out
    simp only [List.mem_cons, List.not_mem_nil, or_false]
    omega⟩
  have HMB : Kp (M0 < B) := ⟨Nat.lt_trans HM3'.out HLn2.out⟩
  have HS3 : Kp (B + 1 < w3.heap.size) := ⟨hke.lt⟩
  have HM3 : Kp (M0 ≤ w3.heap.size) := ⟨by have := HMB.out; have := HS3.out; omega⟩
  have HB4 : Kp (Below w.heap.size w w3) := ⟨HB3.out.trans (hb4.mono HB3.out.size)⟩
  have HKa : Kp _ := ⟨hka⟩
  have HKe : Kp _ := ⟨hke⟩
  have hWw : w.heap.size ≤ w3.heap.size := HB4.out.size
  have HLl : Kp (Lb < w3.heap.size) := ⟨by have := HLn2.out; have := HS3.out; omega⟩
  have HRl : Kp (R1 < w3.heap.size ∧ R2 < w3.heap.size) := ⟨Nat.lt_of_lt_of_le HK13.out.lt hb4.size, Nat.lt_of_lt_of_le HK23.out.lt hb4.size⟩
  have HBs4 : Kp _ := ⟨HBs0.out.below HB4.out⟩
  have HI0 : Kp (DcI b n R1 R2 Lb M0 w3.heap.size w [] w3) := ⟨⟨HB4.out, Nat.le_refl _, HK13.out.below hb4 HK13.out.lt, HK23.out.below hb4 HK23.out.lt, (fun j h => by cases h), _, HLv3.out.below hb4 HLv3.out.lt, ownS_below HOw3.out hb4, fun r e => by cases e; exact .inl rfl⟩⟩
  clear hka hke hb4 hBs HB3 HK13 HK23 HLv3 HOw3
  go_wp2_with fail
  refine (wpIn_wide (n := 8)).1 ?_
  refine wp_rangeR (α := Nat) (gf := 47) (lb := #[.pointer (some ⟨B, 0, none⟩), .pointer (some ⟨B + 1, 0, none⟩)]) rfl (enters_of Try.func47 (by kernel_rfl) rfl) (R := KpB w.heap.size [B, B + 1]) (n₀ := w.heap.size) (fun _ _ _ => KpB.trans) (fun l W o o' h ho hn => KpB.put o' h ho hn)
    (chunk_stops w.heap.size bb oo n c B (B + 1) A b w3 hWw (by omega) HBs4.out HA.out HKa.out HKe.out) (Below.refl _ _) hWw (fun _ => rfl)
    (DcI b n R1 R2 Lb M0 w3.heap.size w) (DcX n R1 R2 w) (DcI.own hWw) (DcX.own hWw) HI0.out
    (fun j a' X => ∃ (t1 t6 t7 t8 t9 t10 t11 t12 t13 t14 t15 t16 t17 t18 t19 t20 t21 t22 t23 t24 t25 t26 t27 t28 t29 t30 t31 t32 t33 t34 t35 t36 t37 t38 t39 t40 t41 t42 t43 t44 : Value), a' = { tmps := #[.slice A n c, t1, .pointer (some ⟨R1, 0, none⟩), .pointer (some ⟨R2, 0, none⟩), .pointer (some ⟨Lb, 0, none⟩), .slice (some ⟨bb, oo + 32 * j, none⟩) (pcl n j) (pcl n j), t6, t7, t8, t9, t10, t11, t12, t13, t14, t15, t16, t17, t18, t19, t20, t21, t22, t23, t24, t25, t26, t27, t28, t29, t30, t31, t32, t33, t34, t35, t36, t37, t38, t39, t40, t41, t42, t43, t44], defers := [] })
    ?hAx ?assign ?body ?done ?stop
  case hAx =>
    rintro x a' _ X Y row h hg hrow
    exact h
  case assign =>
    intro lr pre j X K hi hKK
    simp only [zip_oneE, List.setIfInBounds_toArray, List.set_cons_succ, List.set_cons_zero]
    refine wpIn_region_lit ?_
    refine list_inRound lr (by intro c h; cases h) rfl fun K1 hK1 => ?_
    go_simp
    refine hK1 _ _ ?_
    clear hK1 K1
    try simp only [Act.put, List.setIfInBounds_toArray, List.set_cons_zero, List.set_cons_succ]
    refine wpListIn_nil ?_
    exact hKK _ _ (KeepsFrom.refl _ _) (KpB.refl _) hi ⟨_, _, _, _, _, _, _, _, _, _, _, _, _, _, _, _, _, _, _, _, _, _, _, _, _, _, _, _, _, _, _, _, _, _, _, _, _, _, _, _, rfl⟩
  case body =>
    rintro lr pre j a' X hlr hi ⟨t1, t6, t7, t8, t9, t10, t11, t12, t13, t14, t15, t16, t17, t18, t19, t20, t21, t22, t23, t24, t25, t26, t27, t28, t29, t30, t31, t32, t33, t34, t35, t36, t37, t38, t39, t40, t41, t42, t43, t44, rfl⟩ hlen
    obtain ⟨v, hr1, hr2, hr3⟩ := hi.row
    have HLow : Kp _ := ⟨hi.low⟩
    have HXs : Kp (w3.heap.size ≤ X.heap.size) := ⟨hi.size⟩
    have HR1 : Kp _ := ⟨hi.r1⟩
    have HR2 : Kp _ := ⟨hi.r2⟩
    have HAl : Kp _ := ⟨hi.all⟩
    have HLv : Kp _ := ⟨hr1⟩
    have HOw : Kp _ := ⟨hr2⟩
    have HOb : Kp _ := ⟨hr3⟩
    have HPl : Kp (pre.length < 561) := ⟨by unfold pcs at hlen; omega⟩
    have hwX : w.heap.size ≤ X.heap.size := Nat.le_trans hWw HXs.out
    have hAs : A = some ⟨bb, oo, none⟩ := HA.out (by unfold pcs at hlen; omega)
    have HPc : Kp (Bs X w.heap.size (some ⟨bb, oo + 32 * j, none⟩) (pcl n j) (pcl n j) (pcOf b j)) := ⟨piece32 (by have h := HBs0.out.below HLow.out; rw [hAs] at h; exact h) j⟩
    obtain ⟨q, hq⟩ : ∃ q, q = pcl n j := ⟨_, rfl⟩
    have HQj : Kp (pcl n j = q) := ⟨hq.symm⟩
    have hq32 : q ≤ 32 := by rw [hq]; unfold pcl; omega
    rw [← hq] at HPc ⊢
    obtain ⟨x, hx⟩ : ∃ x, x = rdE (pcOf b j) := ⟨_, rfl⟩
    have HRead : Kp _ := ⟨read_any _ q q _ X (HPc.out.more hwX) (by omega)⟩
    rw [← hx] at HRead
    have HTl : Kp (enCells (tell b (pre ++ [j])) = enCells (tell b pre) ++ enOne x) := ⟨by rw [tell_next, enCells_append, hx]; rfl⟩
    clear hi hr1 hr2 hr3 hlen hAs hq hx
    refine wpIn_block ?_
    refine wpIn_seq ?_
    refine wpIn_region_lit ?_
    refine list_inRound lr (by intro c h; cases h) rfl fun K1 hK1 => ?_
    go_simp
    refine hK1 _ _ ?_
    clear hK1 K1
    try simp only [Act.put, List.setIfInBounds_toArray, List.set_cons_zero, List.set_cons_succ]
    refine list_inRound lr (by intro c h; cases h) rfl fun K1 hK1 => ?_
    go_simp
    refine HRead.out.mono ?_
    rintro e x1 ⟨⟨er, rfl, her⟩, hb1⟩
    refine hK1 _ _ ?_
    clear hK1 K1
    try simp only [Act.put, List.setIfInBounds_toArray, List.set_cons_zero, List.set_cons_succ]
    have HEr : Kp _ := ⟨her⟩
    have HB1 : Kp _ := ⟨hb1⟩
    clear her hb1 HRead
    refine list_inRound lr (by intro c h; cases h) rfl fun K1 hK1 => ?_
    go_simp
    refine hK1 _ _ ?_
    clear hK1 K1
    try simp only [Act.put, List.setIfInBounds_toArray, List.set_cons_zero, List.set_cons_succ]
    refine list_inRound lr (by intro c h; cases h) rfl fun K1 hK1 => ?_
    go_simp
    refine hK1 _ _ ?_
    clear hK1 K1
    try simp only [Act.put, List.setIfInBounds_toArray, List.set_cons_zero, List.set_cons_succ]
    refine list_inRound lr (by intro c h; cases h) rfl fun K1 hK1 => ?_
    go_simp
    refine hK1 _ _ ?_
    clear hK1 K1
    try simp only [Act.put, List.setIfInBounds_toArray, List.set_cons_zero, List.set_cons_succ]
    refine list_inRound lr (by intro c h; cases h) rfl fun K1 hK1 => ?_
    refine step_alloc tyEn rfl rfl ?_
    intro x2 hk2 hb2
    refine hK1 _ _ ?_
    clear hK1 K1
    try simp only [Act.put, List.setIfInBounds_toArray, List.set_cons_zero, List.set_cons_succ]
    obtain ⟨F, hF⟩ : ∃ g, g = x1.heap.size := ⟨_, rfl⟩
    rw [← hF] at hk2 ⊢
    have HF2 : Kp _ := ⟨hk2⟩
    have HFw : Kp (X.heap.size ≤ F) := ⟨by rw [hF]; exact HB1.out.size⟩
    have HB2 : Kp (Below X.heap.size X x2) := ⟨HB1.out.trans (hb2.mono HB1.out.size)⟩
    clear hk2 hb2 hF HB1
    refine list_inRound lr (by intro c h; cases h) rfl fun K1 hK1 => ?_
    refine step_store rwEn rfl (.tmp 6) (.tmp 23) rfl (vs := enOne x) rfl rfl HF2.out rfl (fit_allE (l := zeroEn) rfl) (enOne_one _) ?_
    intro x3 hk3 ho3
    refine hK1 _ _ ?_
    clear hK1 K1
    try simp only [Act.put]
    rw [store_allE (n := 2) rfl] at hk3
    have HF3 : Kp _ := ⟨hk3⟩
    have HB7 : Kp (Below X.heap.size X x3) := ⟨HB2.out.trans (ho3.below HFw.out)⟩
    clear hk3 ho3 HF2 HB2
    refine list_inRound lr (by intro c h; cases h) rfl fun K1 hK1 => ?_
    go_simp
    refine hK1 _ _ ?_
    clear hK1 K1
    try simp only [Act.put, List.setIfInBounds_toArray, List.set_cons_zero, List.set_cons_succ]
    refine wpListIn_nil ?_
    have HLv7 : Kp _ := ⟨HLv.out.below HB7.out HLv.out.lt⟩
    have HR17 : Kp _ := ⟨HR1.out.below HB7.out HR1.out.lt⟩
    have HR27 : Kp _ := ⟨HR2.out.below HB7.out HR2.out.lt⟩
    have HOw7 : Kp _ := ⟨ownS_below HOw.out HB7.out⟩
    have HKp7 : Kp (KpB w.heap.size [B, B + 1] X x3) := ⟨KpB.of_below HB7.out hwX⟩
    have HKf7 : Kp (KeepsFrom w3.heap.size X x3) := ⟨keepsFrom_below HB7.out⟩
    have HLo7 : Kp (Below w.heap.size w x3) := ⟨HLow.out.trans (HB7.out.mono hwX)⟩
    have H37 : Kp (w3.heap.size ≤ x3.heap.size) := ⟨Nat.le_trans HXs.out HB7.out.size⟩
    clear HLv HR1 HR2 HOw HB7 HLow
    refine wpIn_seq ?_
    refine wpIn_seq ?_
    refine wpIn_region_lit ?_
    by_cases he : er = 0
    · have hq2 : q = 32 := HEr.out.1 he
      subst he
      refine list_inRound lr (by intro c h; cases h) rfl fun K1 hK1 => ?_
      go_simp
      refine hK1 _ _ ?_
      clear hK1 K1
      try simp only [Act.put, List.setIfInBounds_toArray, List.set_cons_zero, List.set_cons_succ]
      refine list_inRound lr (by intro c h; cases h) rfl fun K1 hK1 => ?_
      go_simp
      refine hK1 _ _ ?_
      clear hK1 K1
      try simp only [Act.put, List.setIfInBounds_toArray, List.set_cons_zero, List.set_cons_succ]
      refine wpListIn_nil ?_
      refine wpIn_cond_false (by rfl) ?_
      refine wpIn_skip ?_
      refine wpIn_region_lit ?_
      refine list_inRound lr (by intro c h; cases h) rfl fun K1 hK1 => ?_
      have c0 := HLv7.out.cell? 0
      simp only [List.getElem?_cons_zero] at c0
      go_simp
      refine hK1 _ _ ?_
      clear hK1 K1
      try simp only [Act.put, List.setIfInBounds_toArray, List.set_cons_zero, List.set_cons_succ]
      clear c0
      refine list_inRound lr (by intro c h; cases h) rfl fun K1 hK1 => ?_
      refine step_load rwEn rfl (.tmp 6) rfl rfl HF3.out (fit_allE rfl) (take_allE rfl) ?_
      refine hK1 _ _ ?_
      clear hK1 K1
      try simp only [Act.put, List.setIfInBounds_toArray, List.set_cons_zero, List.set_cons_succ]
      refine list_inRound lr (by intro c h; cases h) rfl fun K1 hK1 => ?_
      refine step_buildEn rfl (.tmp 28) rfl x rfl ?_
      refine hK1 _ _ ?_
      clear hK1 K1
      try simp only [Act.put, List.setIfInBounds_toArray, List.set_cons_zero, List.set_cons_succ]
      have hb8 : Below x3.heap.size x3 (x3.alloc (.cells (enOne x).toArray 39)) := (Below.refl _ _).alloc (Nat.le_refl _) _
      have HS8 : Kp (Blk (x3.alloc (.cells (enOne x).toArray 39)) x3.heap.size 39 (enOne x)) := ⟨Blk.new x3 _ _⟩
      have HLv8 : Kp _ := ⟨HLv7.out.below hb8 HLv7.out.lt⟩
      have HR18 : Kp _ := ⟨HR17.out.below hb8 HR17.out.lt⟩
      have HR28 : Kp _ := ⟨HR27.out.below hb8 HR27.out.lt⟩
      have HOw8 : Kp _ := ⟨ownS_below HOw7.out hb8⟩
      have HKp8 : Kp _ := ⟨HKp7.out.trans (KpB.of_below hb8 HLo7.out.size)⟩
      have HKf8 : Kp _ := ⟨keepsFrom_trans HKf7.out (keepsFrom_below (B := w3.heap.size) hb8)⟩
      have HLo8 : Kp _ := ⟨HLo7.out.trans (hb8.mono HLo7.out.size)⟩
      have H38 : Kp _ := ⟨Nat.le_trans H37.out hb8.size⟩
      clear hb8 HLv7 HF3 HR17 HR27 HOw7 HKp7 HKf7 HLo7 H37
      obtain ⟨G8, hG8⟩ : ∃ g, g = x3.heap.size := ⟨_, rfl⟩
      rw [← hG8] at HS8 ⊢
      generalize x3.alloc (.cells (enOne x).toArray 39) = x8 at *
      clear hG8
      refine list_inRound lr (by intro c h; cases h) rfl fun K1 hK1 => ?_
      refine step_appG (Try.underlying22) infEn rfl (by decide) rfl (.tmp 27) (.tmp 29) rfl M0 v pre.length _ rfl HOw8.out G8 _ (enOne x) rfl HS8.out rfl (enOne_one _) (by have := HPl.out; simp only [maxLen]; omega) (by have := HPl.out; omega) (Nat.le_trans HM3.out H38.out) ?_
      intro v9 x9 hown9 hg9 hor9
      refine hK1 _ _ ?_
      clear hK1 K1
      try simp only [Act.put, List.setIfInBounds_toArray, List.set_cons_zero, List.set_cons_succ]
      have HOb9 : Kp (∀ r, v9.ownBlock = some r → r = M0 ∨ w3.heap.size ≤ r) := ⟨fun r e => by
        rcases hor9 with h | h
        · exact HOb.out r (h ▸ e)
        · rw [h] at e
          have := Option.some.inj e
          have := H38.out
          omega⟩
      have HNe9 : Kp (∀ b, M0 ≠ b → b < w3.heap.size → v.ownBlock ≠ some b) := ⟨fun b h1 h2 e => by
        rcases HOb.out b e with h | h
        · exact h1 h.symm
        · omega⟩
      have HLv9 : Kp _ := ⟨HLv8.out.grown' hg9 (HNe9.out Lb HML.out HLl.out)⟩
      have HR19 : Kp _ := ⟨HR18.out.grown' hg9 (HNe9.out R1 HMR1.out (by have := HRl.out; omega))⟩
      have HR29 : Kp _ := ⟨HR28.out.grown' hg9 (HNe9.out R2 HMR2.out (by have := HRl.out; omega))⟩
      have HKp9 : Kp _ := ⟨HKp8.out.trans (KpB.row hg9 (fun r e => ⟨Nat.le_trans HMw.out (ownS_low HOw8.out r e), fun hm => by
        simp only [List.mem_cons, List.not_mem_nil, or_false] at hm
        have h3 := HS3.out
        have h4 := HMB.out
        rcases HOb.out r e with h | h <;> omega⟩) HLo8.out.size)⟩
      have HKf9 : Kp _ := ⟨keepsFrom_trans HKf8.out (keepsFrom_rowE (B := w3.heap.size) HOw8.out hg9)⟩
      have HLo9 : Kp _ := ⟨HLo8.out.trans (below_lowE HOw8.out HMw.out HLo8.out.size hg9)⟩
      have HO9 : Kp (x9.ownsRow M0 39 2 v9 (pre ++ [j]).length (enCells (tell b (pre ++ [j])))) := ⟨by rw [List.length_append, List.length_singleton, HTl.out]; exact hown9⟩
      have H39 : Kp _ := ⟨Nat.le_trans H38.out hg9.size⟩
      obtain ⟨A9, c9, rfl⟩ := own_sl hown9
      clear hown9 hg9 hor9 HS8 HLv8 HR18 HR28 HOw8 HKp8 HKf8 HLo8 H38 HNe9
      refine list_inRound lr (by intro c h; cases h) rfl fun K1 hK1 => ?_
      have c0 := HLv9.out.cell? 0
      have f0 := HLv9.out.frozen 0
      simp only [List.getElem?_cons_zero] at c0
      go_simp
      refine hK1 _ _ ?_
      clear hK1 K1
      try simp only [Act.put]
      refine wpListIn_nil ?_
      clear c0 f0
      have ho := Only.setCell x9 ⟨Lb, 0, none⟩ (.slice A9 (pre.length + 1) c9)
      refine ⟨keepsFrom_trans HKf9.out (keepsFrom_setE HLv9.out 0 _), HKp9.out.trans (KpB.set HLn.out HLw.out 0 _), HLo9.out.trans (ho.below HLw.out), by rw [ho.size]; exact H39.out, HR19.out.only ho HLR1.out, HR29.out.only ho HLR2.out, ?_, .slice A9 (pre.length + 1) c9, HLv9.out.set 0 _, ownS_only HO9.out ho (fun e => ?_), HOb9.out⟩
      · intro i hi
        rcases List.mem_append.1 hi with h | h
        · exact HAl.out i h
        · rw [List.mem_singleton.1 h, HQj.out]; exact hq2
      · rcases HOb9.out Lb e with h | h
        · exact HML.out h.symm
        · have := HLl.out; omega
    · have hq2 : q ≠ 32 := fun e => he (HEr.out.2 e)
      refine list_inRound lr (by intro c h; cases h) rfl fun K1 hK1 => ?_
      go_simp
      refine hK1 _ _ ?_
      clear hK1 K1
      try simp only [Act.put, List.setIfInBounds_toArray, List.set_cons_zero, List.set_cons_succ]
      refine list_inRound lr (by intro c h; cases h) rfl fun K1 hK1 => ?_
      go_simp
      refine hK1 _ _ ?_
      clear hK1 K1
      try simp only [Act.put, List.setIfInBounds_toArray, List.set_cons_zero, List.set_cons_succ]
      refine wpListIn_nil ?_
      refine wpIn_cond_true (by first | rfl | (refine congrArg Value.bool ?_; simp [he])) ?_
      refine wpIn_seq ?_
      refine wpIn_region_lit ?_
      refine list_inRound lr (by intro c h; cases h) rfl fun K1 hK1 => ?_
      have c0 := HR17.out.cell? 0
      have f0 := HR17.out.frozen 0
      simp only [List.getElem?_cons_zero] at c0
      go_simp
      refine hK1 _ _ ?_
      clear hK1 K1
      try simp only [Act.put]
      have ho8 := Only.setCell x3 ⟨R1, 0, none⟩ (.slice none 0 0)
      have HR18 : Kp (Blk (x3.setCell ⟨R1, 0, none⟩ (.slice none 0 0)) R1 22 [.slice none 0 0]) := ⟨HR17.out.set 0 _⟩
      have HR28 : Kp _ := ⟨HR27.out.only ho8 HR12.out.symm⟩
      have HLo8 : Kp _ := ⟨HLo7.out.trans (ho8.below HR1w.out)⟩
      have HKf8 : Kp _ := ⟨keepsFrom_trans HKf7.out (keepsFrom_setE (B := w3.heap.size) HR17.out 0 (.slice none 0 0))⟩
      clear ho8 c0 f0 HR17 HR27 HLo7 HKf7
      generalize x3.setCell ⟨R1, 0, none⟩ (.slice none 0 0) = x8 at *
      refine list_inRound lr (by intro c h; cases h) rfl fun K1 hK1 => ?_
      have c0 := HR28.out.cell? 0
      have f0 := HR28.out.frozen 0
      simp only [List.getElem?_cons_zero] at c0
      go_simp
      refine hK1 _ _ ?_
      clear hK1 K1
      try simp only [Act.put]
      have ho9 := Only.setCell x8 ⟨R2, 0, none⟩ (.int .i64 4)
      have HR29 : Kp (Blk (x8.setCell ⟨R2, 0, none⟩ (.int .i64 4)) R2 26 [.int .i64 4]) := ⟨HR28.out.set 0 _⟩
      have HR19 : Kp _ := ⟨HR18.out.only ho9 HR12.out⟩
      have HLo9 : Kp _ := ⟨HLo8.out.trans (ho9.below HR2w.out)⟩
      have HKf9 : Kp _ := ⟨keepsFrom_trans HKf8.out (keepsFrom_setE (B := w3.heap.size) HR28.out 0 (.int .i64 4))⟩
      clear ho9 c0 f0
      refine wpListIn_nil ?_
      refine wpIn_ret ?_
      exact ⟨HKf9.out, rfl, HLo9.out, HR19.out, HR29.out, j, by simp, by rw [HQj.out]; exact hq2⟩
  case done =>
    rintro D ys X hD hys hi hKd
    obtain ⟨v, hr1, hr2, _⟩ := hi.row
    subst hys
    have HMd : Kp (n % 32 = 0) := ⟨pcl_all hi.all⟩
    rw [List.length_range] at hr2
    have hta : tell b (List.range (pcs n)) = entsE b := by rw [← HLn'.out]; exact tell_all b
    have HTok : Kp (∀ x ∈ entsE b, EnOk x) := ⟨hta ▸ tell_ok b _⟩
    rw [hta] at hr2
    obtain ⟨A5, c5, rfl, hE5⟩ := Ens.of_own hr2 HTok.out
    have HEn : Kp _ := ⟨encode_any A5 (pcs n) c5 (entsE b) X hE5⟩
    have HLv0 : Kp _ := ⟨hr1⟩
    have HOw0 : Kp _ := ⟨hr2⟩
    have HR10 : Kp _ := ⟨hi.r1⟩
    have HR20 : Kp _ := ⟨hi.r2⟩
    have HLo0 : Kp _ := ⟨hi.low⟩
    have HKd0 : Kp _ := ⟨hKd⟩
    have HDk : Kp (decOk b = (rightE (entsE b) && (encL (entsE b) == b))) := ⟨by unfold decOk; rw [decide_eq_true (by rw [HLn'.out]; exact HMd.out), Bool.true_and]⟩
    have c0 : X.cell? ⟨Lb, 0, none⟩ = some (.slice A5 (pcs n) c5) := hr1.cell? 0
    clear hi hKd hr1 hr2 hta hE5
    go_wp2_with fail
    refine HEn.out.mono ?_
    rintro e X5 ⟨A6, n6, c6, rfl, hbs6, hb6⟩
    clear c0
    have HLv : Kp _ := ⟨HLv0.out.below hb6 HLv0.out.lt⟩
    have HOw : Kp _ := ⟨ownS_below HOw0.out hb6⟩
    have HR1 : Kp _ := ⟨HR10.out.below hb6 HR10.out.lt⟩
    have HR2 : Kp _ := ⟨HR20.out.below hb6 HR20.out.lt⟩
    have HKd : Kp _ := ⟨(hb6.block D (Array.getElem?_eq_some_iff.1 HKd0.out).1).trans HKd0.out⟩
    have HLo : Kp _ := ⟨HLo0.out.trans (hb6.mono HLo0.out.size)⟩
    have HS6 : Kp _ := ⟨hbs6⟩
    clear hb6 hbs6 HEn HLv0 HOw0 HR10 HR20 HKd0 HLo0
    cases hr : rightE (entsE b) with
    | false =>
      have HC : Kp (encC (entsE b) = 2) := ⟨by unfold encC; rw [hr]; rfl⟩
      have HE : Kp (decC b = 4 ∧ decR b = []) := ⟨by unfold decC decR; rw [HDk.out, hr]; exact ⟨rfl, rfl⟩⟩
      rw [HC.out]
      have HT : Kp _ := ⟨two_set HR1.out HR2.out HR12.out HR1w.out HR2w.out HLo.out HKd.out (.slice none 0 0) (.int .i64 4)⟩
      have c1 : X5.cell? ⟨R1, 0, none⟩ = some (.slice none 0 0) := HR1.out.cell? 0
      have f1 := HR1.out.frozen 0
      have c2 : (X5.setCell ⟨R1, 0, none⟩ (.slice none 0 0)).cell? ⟨R2, 0, none⟩ = some (.int .i64 0) := HT.out.1.cell? 0
      have f2 := HT.out.1.frozen 0
      go_wp2
      refine ⟨by simp, .inl ⟨_, _, rfl, run_takeDeferred HT.out.2.2.2.2, ?_⟩⟩
      have hg := grownBy_putObj' ((X5.setCell ⟨R1, 0, none⟩ (.slice none 0 0)).setCell ⟨R2, 0, none⟩ (.int .i64 4)) D (.deferred none)
      have hrow : ∀ r, some D = some r → ∃ o : Obj, ((X5.setCell ⟨R1, 0, none⟩ (.slice none 0 0)).setCell ⟨R2, 0, none⟩ (.int .i64 4)).heap[r]? = some o ∧ o.isCells = false := fun r e => by cases e; exact ⟨_, HT.out.2.2.2.2, rfl⟩
      refine ⟨_, results_se rfl Try.underlying22 Try.underlying26 rfl rfl (blk_nc HT.out.2.1 hg hrow) (blk_nc HT.out.2.2.1 hg hrow), none, 0, 0, by rw [HE.out.1], by rw [HE.out.2]; exact Ens.zero _ _, below_nc HT.out.2.2.2.1 hg (fun r e => by cases e; exact Nat.le_trans hWw hD) (Nat.le_refl _) (Nat.le_refl _)⟩
    | true =>
      have HC : Kp (encC (entsE b) = 0 ∧ encR (entsE b) = encL (entsE b)) := ⟨by unfold encC encR; rw [hr]; exact ⟨rfl, rfl⟩⟩
      rw [HC.out.1]
      rw [HC.out.2] at HS6
      have HQ : Kp _ := ⟨equal_any A6 A n6 c6 n c (encL (entsE b)) b X5 HS6.out ((HBs0.out.below HLo.out).more HLo.out.size)⟩
      obtain ⟨q, hq⟩ : ∃ q, q = (encL (entsE b) == b) := ⟨_, rfl⟩
      rw [← hq] at HQ
      have HDq : Kp (decOk b = q) := ⟨by rw [HDk.out, hr, ← hq]; rfl⟩
      clear hq HS6
      go_wp2_with fail
      refine HQ.out.mono ?_
      rintro e X6 ⟨rfl, hb7⟩
      have HLv' : Kp _ := ⟨HLv.out.below hb7 HLv.out.lt⟩
      have HOw' : Kp _ := ⟨ownS_below HOw.out hb7⟩
      have HR1' : Kp _ := ⟨HR1.out.below hb7 HR1.out.lt⟩
      have HR2' : Kp _ := ⟨HR2.out.below hb7 HR2.out.lt⟩
      have HKd' : Kp _ := ⟨(hb7.block D (Array.getElem?_eq_some_iff.1 HKd.out).1).trans HKd.out⟩
      have HLo' : Kp _ := ⟨HLo.out.trans (hb7.mono HLo.out.size)⟩
      clear hb7 HQ HLv HOw HR1 HR2 HKd HLo
      cases q with
      | false =>
        have HE : Kp (decC b = 4 ∧ decR b = []) := ⟨by unfold decC decR; rw [HDq.out]; exact ⟨rfl, rfl⟩⟩
        have HT : Kp _ := ⟨two_set HR1'.out HR2'.out HR12.out HR1w.out HR2w.out HLo'.out HKd'.out (.slice none 0 0) (.int .i64 4)⟩
        have c1 : X6.cell? ⟨R1, 0, none⟩ = some (.slice none 0 0) := HR1'.out.cell? 0
        have f1 := HR1'.out.frozen 0
        have c2 : (X6.setCell ⟨R1, 0, none⟩ (.slice none 0 0)).cell? ⟨R2, 0, none⟩ = some (.int .i64 0) := HT.out.1.cell? 0
        have f2 := HT.out.1.frozen 0
        go_wp2
        refine ⟨by simp, .inl ⟨_, _, rfl, run_takeDeferred HT.out.2.2.2.2, ?_⟩⟩
        have hg := grownBy_putObj' ((X6.setCell ⟨R1, 0, none⟩ (.slice none 0 0)).setCell ⟨R2, 0, none⟩ (.int .i64 4)) D (.deferred none)
        have hrow : ∀ r, some D = some r → ∃ o : Obj, ((X6.setCell ⟨R1, 0, none⟩ (.slice none 0 0)).setCell ⟨R2, 0, none⟩ (.int .i64 4)).heap[r]? = some o ∧ o.isCells = false := fun r e => by cases e; exact ⟨_, HT.out.2.2.2.2, rfl⟩
        refine ⟨_, results_se rfl Try.underlying22 Try.underlying26 rfl rfl (blk_nc HT.out.2.1 hg hrow) (blk_nc HT.out.2.2.1 hg hrow), none, 0, 0, by rw [HE.out.1], by rw [HE.out.2]; exact Ens.zero _ _, below_nc HT.out.2.2.2.1 hg (fun r e => by cases e; exact Nat.le_trans hWw hD) (Nat.le_refl _) (Nat.le_refl _)⟩
      | true =>
        have HE : Kp (decC b = 0 ∧ decR b = entsE b) := ⟨by unfold decC decR; rw [HDq.out]; exact ⟨rfl, rfl⟩⟩
        have HT : Kp _ := ⟨two_set HR1'.out HR2'.out HR12.out HR1w.out HR2w.out HLo'.out HKd'.out (.slice A5 (pcs n) c5) (.int .i64 0)⟩
        have c1 : X6.cell? ⟨R1, 0, none⟩ = some (.slice none 0 0) := HR1'.out.cell? 0
        have f1 := HR1'.out.frozen 0
        have c2 : (X6.setCell ⟨R1, 0, none⟩ (.slice A5 (pcs n) c5)).cell? ⟨R2, 0, none⟩ = some (.int .i64 0) := HT.out.1.cell? 0
        have f2 := HT.out.1.frozen 0
        have c0 : X6.cell? ⟨Lb, 0, none⟩ = some (.slice A5 (pcs n) c5) := HLv'.out.cell? 0
        have HOw2 : Kp _ := ⟨ownS_only (ownS_only HOw'.out (Only.setCell X6 ⟨R1, 0, none⟩ (.slice A5 (pcs n) c5)) (fun e => by have := ownS_low HOw'.out R1 e; have := HMR.out; omega)) (Only.setCell (X6.setCell ⟨R1, 0, none⟩ (.slice A5 (pcs n) c5)) ⟨R2, 0, none⟩ (.int .i64 0)) (fun e => by have := ownS_low HOw'.out R2 e; have := HMR.out; omega)⟩
        go_wp2
        refine ⟨by simp, .inl ⟨_, _, rfl, run_takeDeferred HT.out.2.2.2.2, ?_⟩⟩
        have hg := grownBy_putObj' ((X6.setCell ⟨R1, 0, none⟩ (.slice A5 (pcs n) c5)).setCell ⟨R2, 0, none⟩ (.int .i64 0)) D (.deferred none)
        have hrow : ∀ r, some D = some r → ∃ o : Obj, ((X6.setCell ⟨R1, 0, none⟩ (.slice A5 (pcs n) c5)).setCell ⟨R2, 0, none⟩ (.int .i64 0)).heap[r]? = some o ∧ o.isCells = false := fun r e => by cases e; exact ⟨_, HT.out.2.2.2.2, rfl⟩
        obtain ⟨A6, c6, e6, hens⟩ := Ens.of_own (own_nc HOw2.out hg hrow) HTok.out
        cases e6
        refine ⟨_, results_se rfl Try.underlying22 Try.underlying26 rfl rfl (blk_nc HT.out.2.1 hg hrow) (blk_nc HT.out.2.2.1 hg hrow), A5, pcs n, c5, by rw [HE.out.1], by rw [HE.out.2]; exact hens, below_nc HT.out.2.2.2.1 hg (fun r e => by cases e; exact Nat.le_trans hWw hD) (Nat.le_refl _) (Nat.le_refl _)⟩
  case stop =>
    rintro D cc pre X hD hsp ⟨rfl, hlow, hr1, hr2, j, hj, hbad⟩ hKd
    have HE : Kp (decC b = 4 ∧ decR b = []) := ⟨by
      obtain ⟨k, hk, rfl⟩ := hsp
      have h1 := pcl_bad (show j < pcs n by have := List.mem_range.1 hj; omega) hbad
      have h2 := decOk_odd (b := b) (by rw [HLn'.out]; exact h1)
      unfold decC decR
      rw [h2]
      exact ⟨rfl, rfl⟩⟩
    clear hbad hj hsp
    refine wpIn_wide.2 ?_
    go_wp2
    refine ⟨by simp, .inl ⟨_, _, rfl, run_takeDeferred hKd, ?_⟩⟩
    have hg := grownBy_putObj' X D (.deferred none)
    have hrow : ∀ r, some D = some r → ∃ o : Obj, X.heap[r]? = some o ∧ o.isCells = false := fun r e => by cases e; exact ⟨_, hKd, rfl⟩
    refine ⟨_, results_se rfl Try.underlying22 Try.underlying26 rfl rfl (blk_nc hr1 hg hrow) (blk_nc hr2 hg hrow), none, 0, 0, by rw [HE.out.1], by rw [HE.out.2]; exact Ens.zero _ _, below_nc hlow hg (fun r e => by cases e; exact Nat.le_trans hWw hD) (Nat.le_refl _) (Nat.le_refl _)⟩
theorem decode_any (A : Option Addr) (n c : Nat) (b : List UInt8) (w : World) (hb : Bs w w.heap.size A n c b) :
    Calls Try.prog 15 #[.slice A n c] w fun e w' => ∃ A' m d, e = .returned (.tuple #[.slice A' m d, .int .i64 (decC b)]) ∧ Ens w' w'.heap.size A' m d (decR b) ∧ Below w.heap.size w w' := by
  by_cases hn : n ≤ 17920
  · by_cases h0 : 0 < n
    · obtain ⟨bb, oo, hA, _, _⟩ := hb.cells h0
      exact decode_near bb oo A n c b w hb (fun _ => hA) hn
    · exact decode_near 0 0 A n c b w hb (fun h => absurd h h0) hn
  · have h1 : decOk b = false := decOk_long (by have := hb.len; omega)
    have HE : decC b = 4 ∧ decR b = [] := by unfold decC decR; rw [h1]; exact ⟨rfl, rfl⟩
    refine (decode_far A n c w (by omega)).mono ?_
    rintro e w' ⟨rfl, hb'⟩
    exact ⟨none, 0, 0, by rw [HE.1], by rw [HE.2]; exact Ens.zero _ _, hb'⟩
end
end Go.Proofs.Ytaedlaeflliibaa
