/- The contract of World's Copy. -/
import Derived.Test.YtpbpegoobgfjcaaG08
import Derived.Deep.RegionHeld3
import Derived.Deep.CutRange
import Derived.Laws.LoneSync
namespace Go.Proofs.Ytpbpegoobgfjcaa
open Go.RowKit
section
variable {P : Program} {ops : Array Oper} {o : Oper} {a : Act} {Q : Exit → Act → World → Prop} {w : World} {t : TypeId} {S : World → Prop}
theorem yieldsIf_build4 (hw : Region.wanted o (yielded ops a.tmps) = true) (i j k l : Nat) (x y z q : Operand) (ho : o.op = .build t #[(i, x), (j, y), (k, z), (l, q)]) {v u s r : Value} (hx : a.eval x = v) (hy : a.eval y = u) (hz : a.eval z = s) (hq : a.eval q = r) {cs : List Value} (hb : P.built t [(i, v), (j, u), (k, s), (l, r)] = some cs.toArray) : YieldsIf P ops S o (.agg cs.toArray) a :=
  .inl ⟨hw, fun w _ => by
    have hr := run_build (P := P) w t #[(i, v), (j, u), (k, s), (l, r)] cs.toArray (by simpa using hb)
    unfold execOp
    simp only [ho, Sem.run_bind, List.map_toArray, List.map_cons, List.map_nil, hx, hy, hz, hq, hr, Result.andThen_ok, Sem.run_pure]⟩
theorem yieldsIf_lenI {k e : TypeId} {κ : Type} {kv : κ → Value} {ok : κ → Prop} {b n : Nat} {f : κ → Option Value} (hw : Region.wanted o (yielded ops a.tmps) = true) (hS : ∀ W, S W → MapI W P k kv ok b n f) (m : Operand) (hop : o.op = Op.call { callee := Callee.builtin Builtin.len, args := #[m], argTypes := #[t] }) (ht : P.underlying t = some (.map k e)) (hm : a.eval m = .map (some b)) : YieldsIf P ops S o (.int .i64 (n : Int)) a :=
  .inl ⟨hw, fun w hw' => by
    obtain ⟨D, h1, h2, _⟩ := (hS w hw').is
    simp [execOp, hop, resolve, invoke, builtin, hm, h1.len ht o.type, h2, Result.andThen]⟩
theorem step_box {K : Act → World → Prop} {C : Prop} {cs : List Value} (hgd : o.guard = none) (x : Operand) (hop : o.op = .box t x) (hx : a.eval x = .agg cs.toArray)
    (h : ∀ w', Blk w' w.heap.size t cs → Below w.heap.size w w' → K (a.put o.dst (.pointer (some ⟨w.heap.size, 0, none⟩))) w') :
    if Region.wanted o (yielded ops a.tmps) = true then Oper.wp P o a w K Q else C := by
  have hw : Region.wanted o (yielded ops a.tmps) = true := by simp [Region.wanted, hgd]
  rw [if_pos hw]
  unfold Oper.wp
  have hrun : (Instr.box t (.agg cs.toArray)).run P w = .ok (.pointer (some ⟨w.heap.size, 0, none⟩)) (w.alloc (.cells cs.toArray t)) := by
    simp [Instr.box, newVar, Value.cells]
    rfl
  simp only [execOp, hop, hx, Sem.run_bind, hrun, Result.andThen_ok, Sem.run_pure]
  exact h _ (Blk.new w t cs) ((Below.refl _ _).alloc (Nat.le_refl _) _)
theorem step_mkI {k e : TypeId} {K : Act → World → Prop} {C : Prop} (ht : P.underlying t = some (.map k e)) (hgd : o.guard = none) (x : Operand) (hop : o.op = .makeMap t (some x)) {m : Int} (hx : a.eval x = .int .i64 m)
    (h : K (a.put o.dst (.map (some w.heap.size))) (w.alloc (.map #[] 0))) : if Region.wanted o (yielded ops a.tmps) = true then Oper.wp P o a w K Q else C := by
  have hw : Region.wanted o (yielded ops a.tmps) = true := by simp [Region.wanted, hgd]
  rw [if_pos hw]
  have hrun := run_makeMapI (P := P) t m ht w
  unfold Oper.wp
  simp only [execOp, hop, Option.map_some, hx, Sem.run_bind, hrun, Result.andThen_ok, Sem.run_pure]
  exact h
end
theorem rwCo : Rw Try.prog 78 (match (Try.prog).underlying 78 with | some d => d | none => .bool) 272 := ⟨by kernel_rfl, by kernel_rfl, by kernel_rfl⟩
theorem rwSe : Rw Try.prog 65 (match (Try.prog).underlying 65 with | some d => d | none => .bool) 2 := ⟨by kernel_rfl, by kernel_rfl, by kernel_rfl⟩
theorem plainSl : Plain1 Try.prog 22 := ⟨by kernel_rfl, by kernel_rfl⟩
/-- the seals told one by one -/
def cpS (t : Wd) (i : Int) : Wd := { cp0 t with s0 := if 1 ≤ i then t.s0 else [], s1 := if 2 ≤ i then t.s1 else [] }
def zeroPl : List Value := [.int .i64 0, .int .i64 0]
theorem tyPl : Ty Try.prog 80 zeroPl := ⟨by kernel_rfl⟩
theorem rwPl : Rw Try.prog 80 (match (Try.prog).underlying 80 with | some d => d | none => .bool) 2 := ⟨by kernel_rfl, by kernel_rfl, by kernel_rfl⟩
/-- the row of what was traced, apart from all in Q -/
structure TkA (w W : World) (Q : Nat → Prop) (vt : Value) (tr : List Tr) (L : List Hd4) : Prop where
  own : W.ownsRow 0 61 4 vt tr.length (trCells L)
  big : ∀ k, vt.ownBlock = some k → w.heap.size ≤ k ∧ k < W.heap.size
  heads : TrL W (fun k => Q k ∨ vt.ownBlock = some k) L tr
theorem TkA.more {w W W1 : World} {Q Q' : Nat → Prop} {vt : Value} {tr : List Tr} {L : List Hd4} (h : TkA w W Q vt tr L) (hb : Below W.heap.size W W1) (hq : ∀ k, Q' k → Q k ∨ W.heap.size ≤ k) : TkA w W1 Q' vt tr L :=
  ⟨own4_stay h.own (fun k hk => hb.block k (h.big k hk).2), fun k hk => ⟨(h.big k hk).1, Nat.lt_of_lt_of_le (h.big k hk).2 hb.size⟩, h.heads.chg (S := fun _ => False) (Chg.of_below _ hb) (fun _ h => h.elim) (fun k hk => by
    rcases hk with h9 | h9
    · exact (hq k h9).imp .inl id
    · exact .inl (.inr h9))⟩
theorem wd_built4 (ms : Nat) (t : Wd) (A : Option Addr) (n c : Nat) : (Try.prog).built 75 [(0, .map (some ms)), (2, .int .u64 (t.ctr : Int)), (3, .agg #[.bool t.lim, .bool t.lost, .int .i64 (t.left : Int)]), (6, .slice A n c)] = some (wdCells ⟨ms, none, .slice none 0 0, .slice none 0 0, .slice A n c⟩ (cp0 t)).toArray := by kernel_rfl
theorem own_lt {w : World} {base e size n : Nat} {v : Value} {xs : List Value} (h : w.ownsRow base e size v n xs) {k : Nat} (hk : v.ownBlock = some k) : k < w.heap.size := by
  rcases h.2 with ⟨rfl, _⟩ | ⟨k', cap, cur, rfl, _, hh, _⟩
  · cases hk
  · obtain rfl : k' = k := Option.some.inj hk
    exact (Array.getElem?_eq_some_iff.1 hh).1
theorem CpI.start {w W W1 : World} {M : Nat → Prop} {t : Wd} {ms : Nat} {vt : Value} {L : List Hd4} (hH : Below w.heap.size w W) (h0 : w.heap.size ≤ ms) (hm : MapI W Try.prog 80 kvP okP ms 0 (fun _ => none)) (ht : TkA w W (fun k => M k ∨ k = ms) vt t.tr L)
    (hk : Blk W1 W.heap.size 75 (wdCells ⟨ms, none, .slice none 0 0, .slice none 0 0, vt⟩ (cp0 t))) (hb : Below W.heap.size W W1) : CpI w W1 M t ms W.heap.size vt L 0 (fun _ => none) := by
  have h1 := ht.more (Q' := fun k => M k ∨ k = ms ∨ k = W.heap.size) hb (fun k hk => by
    rcases hk with h9 | h9 | h9
    · exact .inl (.inl h9)
    · exact .inl (.inr h9)
    · exact .inr (Nat.le_of_eq h9.symm))
  refine ⟨hm.stay (hb.block _ hm.lt), fun k hk9 => ?_, fun _ _ h => (by cases h), fun _ _ h => (by cases h), fun _ _ _ h => (by cases h), hk, h1.own, h1.heads.chg (S := fun _ => False) (Chg.refl _ _) (fun _ h => h.elim) (fun k hk9 => ?_), hH.trans (hb.mono hH.size)⟩
  · rcases hk9 with rfl | rfl | h9 | ⟨x, hx⟩
    · exact ⟨hH.size, hk.lt⟩
    · exact ⟨h0, Nat.lt_of_lt_of_le hm.lt hb.size⟩
    · exact h1.big k h9
    · cases hx
  · rcases hk9 with h9 | h9 | h9 | h9 | ⟨x, hx⟩
    · exact .inl (.inl (.inl h9))
    · exact .inl (.inl (.inr (.inr h9)))
    · exact .inl (.inl (.inr (.inl h9)))
    · exact .inl (.inr h9)
    · cases hx
def cutL (t : Wd) : Int → Option (List UInt8) := fun z => if (t.reads : Int) ≤ z then t.lies z else none
def cutW (t : Wd) : Wd := { t with lies := cutL t, nl := t.nl }
theorem Parts.weak {w : World} {O M M' : Nat → Prop} {b : Nat} {ad : Ad} {t : Wd} {p : Int × Int → Option Nat} {L : List Hd4} (h : Parts w O M b ad t p L) (hs : ∀ k, O k → M' k) (hw : ∀ k, M' k → M k) : Parts w O M' b ad t p L := by
  have C : Chg (fun _ => False) w w := Chg.refl _ _
  have hf : ∀ k, (fun _ : Nat => False) k → M k := fun _ h => h.elim
  have hM : ∀ k, M' k → M k ∨ w.heap.size ≤ k := fun k hk => .inl (hw k hk)
  exact ⟨hs, fun k hk => h.lt k (hw k hk), h.ob, h.blk, h.slots, h.lies.stay (fun _ h => h) (fun _ _ _ => rfl) C hf hM, h.seal0.chg C hf hM, h.seal1.chg C hf hM, h.trace.stay (fun _ h => h) (fun _ _ _ => rfl) C hf hM, h.big, h.pow, h.num, h.read, h.two⟩
theorem Parts.fin {w : World} {O M : Nat → Prop} {b : Nat} {ad : Ad} {t : Wd} {p : Int × Int → Option Nat} {L : List Hd4} (h : Parts w O M b ad t p L) {lies' : Int → Option (List UInt8)} {n' : Nat} (hl : ∀ z, okI z → lies' z = t.lies z) (hn : t.nl ≤ n') : Parts w O M b ad { t with lies := lies', nl := n' } p L := by
  refine ⟨h.sub, h.lt, h.ob, h.blk, h.slots, ?_, h.seal0, h.seal1, h.trace, h.big, h.pow, h.num, h.read, h.two⟩
  rcases h.lies.congr hl with h1 | ⟨g, m, f, h1, h2, h3, h4, h5⟩
  · exact .inl h1
  · exact .inr ⟨g, m, f, h1, h2, h3, Nat.le_trans h4 hn, h5⟩
/-- the copy while its lies are told -/
structure CpL (w wx : World) (M : Nat → Prop) (t : Wd) (g gl r m : Nat) (f : Int → Option Value) (todo : Int → Bool) (cnt : Nat) : Prop where
  rng : RngI wx Try.prog 3 kvI okI gl r m f todo cnt
  is : ∃ O' ad' LF n' p' L', Parts wx O' (fun k => M k ∨ O' k ∨ k = r) g ad' { t with lies := LF, nl := n' } p' L' ∧ (∀ k, O' k → w.heap.size ≤ k ∧ k ≠ r) ∧ n' + cnt ≤ m ∧ ∀ z, okI z → LF z = if (t.reads : Int) ≤ z ∧ todo z = false then t.lies z else none
  below : Below w.heap.size w wx
  high : w.heap.size ≤ r ∧ gl < w.heap.size
theorem CpL.start {w W W1 : World} {M Oc : Nat → Prop} {t : Wd} {g gl r m : Nat} {ad : Ad} {f : Int → Option Value} {p : Int × Int → Option Nat} {L : List Hd4} (hP : Parts W Oc (Or2 M Oc) g ad { t with lies := fun _ => none, nl := 0 } p L) (hB : Below w.heap.size w W) (hO : ∀ k, Oc k → w.heap.size ≤ k) (hr : r = W.heap.size) (hg : W.grownBy W1 none) (hs : W1.heap.size = W.heap.size + 1)
    (hR : RngI W1 Try.prog 3 kvI okI gl r m f (fun z => (f z).isSome) m) (hgl : gl < w.heap.size) (hf : ∀ z, okI z → (f z).isSome = (t.lies z).isSome) : CpL w W1 M t g gl r m f (fun z => (f z).isSome) m := by
  have hb1 : Below W.heap.size W W1 := (Below.refl _ _).grown hg (Nat.le_refl _) (fun j hj => by cases hj)
  refine ⟨hR, ⟨Oc, ad, fun _ => none, 0, p, L, hP.chg (S := fun _ => False) (Chg.of_below _ hb1) (fun _ h => h.elim) (fun _ h => h.elim) (fun k hk => ?_) (fun k hk => hk.imp id .inl) (fun k hk => ?_), fun k hk => ⟨hO k hk, fun e => ?_⟩, by omega, fun z hz => ?_⟩, hB.trans (hb1.mono hB.size), by rw [hr]; exact hB.size, hgl⟩
  · rcases hk with h9 | h9 | h9
    · exact .inl (.inl h9)
    · exact .inl (.inr h9)
    · exact .inr (by rw [h9, hr]; exact Nat.le_refl _)
  · rcases hk with h9 | h9 | h9
    · exact Nat.lt_of_lt_of_le (hP.lt k (.inl h9)) hb1.size
    · exact Nat.lt_of_lt_of_le (hP.lt k (.inr h9)) hb1.size
    · omega
  · have := hP.lt k (.inr hk)
    omega
  · split
    · rename_i h1
      have h2 := hf z hz
      rw [h1.2] at h2
      cases h3 : t.lies z with
      | none => rfl
      | some l => rw [h3] at h2; cases h2
    · rfl
/-- the iterator has gone on, one lie is to be told -/
theorem CpL.next {w wx w2 : World} {M : Nat → Prop} {t : Wd} {g gl r m cnt cnt2 : Nat} {f : Int → Option Value} {todo : Int → Bool} {x : Int} (h : CpL w wx M t g gl r m f todo cnt) (hx : okI x) (htd : todo x = true) (hR : RngI w2 Try.prog 3 kvI okI gl r m f (fun y => todo y && !decide (y = x)) cnt2) (hc : cnt2 + 1 = cnt) (hg : wx.grownBy w2 (some r)) (hs : w2.heap.size = wx.heap.size) :
    ∃ O' ad' LF n' p' L', Parts w2 O' (fun k => M k ∨ O' k ∨ k = r) g ad' { t with lies := LF, nl := n' } p' L' ∧ n' ≤ m ∧ (∀ k, M k ∨ O' k ∨ k = r → M k ∨ w.heap.size ≤ k) ∧ Below w.heap.size w w2 ∧
      ∀ W A2 O2 (l : List UInt8), t.lies x = some l → Parts W O2 (Or2 (fun k => M k ∨ O' k ∨ k = r) O2) g A2 (lieW { t with lies := LF, nl := n' } x l) p' L' → Nx w2 O' W O2 → CpL w W M t g gl r m f (fun y => todo y && !decide (y = x)) cnt2 := by
  obtain ⟨O', ad', LF, n', p', L', hP, hO, hn, hL⟩ := h.is
  have hrl := h.rng.lt
  have C : Chg (fun k => k = r) wx w2 := ⟨hg.os, hg.tape, hg.output, hg.size, fun k hk hn => hg.block k hk (fun e => hn (Option.some.inj e))⟩
  have hB2 : Below w.heap.size w w2 := h.below.trans (C.below (fun k e => by rw [e]; exact h.high.1) h.below.size)
  have hP2 := hP.chg (M' := fun k => M k ∨ O' k ∨ k = r) C (fun k e ho => (hO k ho).2 e) (fun k e => .inr (.inr e)) (fun _ h => .inl h) (fun _ h => h) (fun k hk => by rw [hs]; exact hP.lt k hk)
  refine ⟨O', ad', LF, n', p', L', hP2, by omega, fun k hk => ?_, hB2, fun W A2 O2 l hl hPW hN => ?_⟩
  · rcases hk with h9 | h9 | h9
    · exact .inl h9
    · exact .inr (hO k h9).1
    · exact .inr (by rw [h9]; exact h.high.1)
  · have hO2 : ∀ k, O2 k → w.heap.size ≤ k ∧ k ≠ r := fun k hk => by
      rcases hN.new k hk with h9 | h9
      · exact hO k h9
      · exact ⟨Nat.le_trans hB2.size h9, by omega⟩
    have eM : Or2 (fun k => M k ∨ O' k ∨ k = r) O2 = fun k => M k ∨ O2 k ∨ k = r := by
      funext k
      refine propext ⟨fun hk => ?_, fun hk => ?_⟩
      · rcases hk with (h9 | h9 | h9) | h9
        · exact .inl h9
        · exact .inr (.inl (hN.sub k h9))
        · exact .inr (.inr h9)
        · exact .inr (.inl h9)
      · rcases hk with h9 | h9 | h9
        · exact .inl (.inl h9)
        · exact .inr h9
        · exact .inl (.inr (.inr h9))
    rw [eM] at hPW
    have hkeep : ∀ k, k < w2.heap.size → ¬ O' k → W.heap[k]? = w2.heap[k]? := fun k h1 h2 => hN.chg.block k h1 h2
    have hRW : RngI W Try.prog 3 kvI okI gl r m f (fun y => todo y && !decide (y = x)) cnt2 := hR.stay (hkeep gl hR.map.lt (fun h9 => by have := (hO gl h9).1; have := h.high.2; omega)) (hkeep r hR.lt (fun h9 => (hO r h9).2 rfl))
    refine ⟨hRW, ?_, hB2.trans (hN.chg.below (fun k hk => (hO k hk).1) hB2.size), h.high⟩
    unfold lieW at hPW
    split at hPW
    · rename_i hlt
      refine ⟨O2, A2, LF, n', p', L', hPW, hO2, by omega, fun z hz => ?_⟩
      rw [hL z hz]
      have hlt' : x < (t.reads : Int) := hlt
      by_cases hzx : z = x
      · subst hzx
        rw [if_neg (by omega), if_neg (by omega)]
      · simp [hzx]
    · rename_i hge
      refine ⟨O2, A2, _, n' + 1, p', L', hPW, hO2, by omega, fun z hz => ?_⟩
      have hge' : (t.reads : Int) ≤ x := Int.not_lt.1 hge
      by_cases hzx : z = x
      · subst hzx
        simp [hl, hge']
      · simp only [if_neg hzx, hL z hz, decide_eq_false hzx, Bool.not_false, Bool.and_true]
theorem CpL.done {w wx : World} {M : Nat → Prop} {t : Wd} {g gl r m cnt : Nat} {f : Int → Option Value} {todo : Int → Bool} (h : CpL w wx M t g gl r m f todo cnt) (hd : ∀ z, okI z → todo z = false) (hm : m ≤ t.nl) : ∃ O' ad' p' L', Parts wx O' (Or2 M O') g ad' (cutW t) p' L' ∧ ∀ k, O' k → w.heap.size ≤ k := by
  obtain ⟨O', ad', LF, n', p', L', hP, hO, hn, hL⟩ := h.is
  refine ⟨O', ad', p', L', ((hP.weak (M' := Or2 M O') (fun k hk => .inr hk) (fun k hk => hk.imp id .inl)).fin (lies' := cutL t) (n' := t.nl) (fun z hz => ?_) (by show n' ≤ t.nl; omega)), fun k hk => (hO k hk).1⟩
  show cutL t z = LF z
  rw [hL z hz, hd z hz]
  unfold cutL
  simp
theorem store_any (b : Nat) (ad : Ad) (t : Wd) (w : World) (hb : Blk w b 75 (wdCells ad t)) (y : Int) :
    Calls Try.prog 49 #[.pointer (some ⟨b, 7, none⟩), .int .i64 y] w fun e w' => e = .returned (.tuple #[]) ∧ w' = w.setCell ⟨b, 7, none⟩ (.int .i64 y) := by
  have c7 : w.cell? ⟨b, 7, none⟩ = some (.int .i64 (t.reads : Int)) := by rw [hb.cell? 7]; rfl
  have hst := run_call_store (P := Try.prog) Try.func61 (by kernel_rfl) (by kernel_rfl) (by kernel_rfl) (by kernel_rfl) (k := .i64) (y := y) c7 (hb.frozen 7)
  clear hb
  go_enter Try.func49, Try.ntmps49
  go_wp2
  go_end0
  exact ⟨rfl, rfl⟩
section
variable {O M : Nat → Prop} {b : Nat} {ad : Ad} {t : Wd} {p : Int × Int → Option Nat} {L : List Hd4} {w : World}
set_option maxRecDepth 100000 in
set_option maxHeartbeats 4000000 in
theorem copy_any (h : Parts w O M b ad t p L) (hlen : t.tr.length ≤ 1000000) (hnl : t.nl ≤ 1000000) :
    Calls Try.prog 25 #[.pointer (some ⟨b, 0, none⟩)] w fun e w' => ∃ c, e = .returned (.pointer (some ⟨c, 0, none⟩)) ∧ Below w.heap.size w w' ∧ ∃ O' ad' p' L', Parts w' O' (Or2 M O') c ad' (cutW t) p' L' ∧ ∀ k, O' k → w.heap.size ≤ k := by
  have HP : Kp _ := ⟨h⟩
  have HLen : Kp _ := ⟨hlen⟩
  have HNl : Kp _ := ⟨hnl⟩
  have HC0 : Kp (∀ W, Below w.heap.size w W → W.cell? ⟨b, 0, none⟩ = some (.map (some ad.ms)) ∧ W.cell? ⟨b, 3, none⟩ = some (.int .u64 (t.ctr : Int)) ∧ W.cell? ⟨b, 8, none⟩ = some (.map ad.ml)) := ⟨fun W hW => by
    have hk := h.blk.below hW h.blk.lt
    exact ⟨by rw [hk.cell? 0]; rfl, by rw [hk.cell? 3]; rfl, by rw [hk.cell? 8]; rfl⟩⟩
  have HC4 : Kp (∀ W, Below w.heap.size w W → W.rangeAt b 4 [.bool t.lim, .bool t.lost, .int .i64 (t.left : Int)]) := ⟨fun W hW => (h.blk.below hW h.blk.lt).range (n := 3) rfl⟩
  have HC1 : Kp (∀ W, Below w.heap.size w W → W.rangeAt b 1 [ad.v0, ad.v1]) := ⟨fun W hW => (h.blk.below hW h.blk.lt).range (n := 2) rfl⟩
  obtain ⟨f, hf⟩ : ∃ f : Int × Int → Option Value, f = fun x => (p x).map ptr := ⟨_, rfl⟩
  have HF : Kp (∀ x, f x = (p x).map ptr) := ⟨fun x => by rw [hf]⟩
  have HMp : Kp (∀ W, Below w.heap.size w W → MapI W Try.prog 80 kvP okP ad.ms (2 * t.n) f) := ⟨fun W hW => by rw [hf]; exact h.slots.map.stay (hW.block _ h.slots.map.lt)⟩
  clear h hlen hnl hf
  go_enter Try.func25, Try.ntmps25
  go_upto_region 3 with fail
  go_cut [3] from 13 to 30 (fun v3 wx => ∃ g, v3 = .pointer (some ⟨g, 0, none⟩) ∧ Kp (∃ ms vt L', CpI w wx M t ms g vt L' 0 (fun _ => none)))
  case first =>
    go_wp2_with fail
    refine wp_region_held_drew (S := fun W => Below w.heap.size w W) (by kernel_rfl) ((Below.refl _ _).drew) (fun hHeld => ?_)
    generalize w.drew = wS at *
    refine wpAnyH_take (i := 0) (oi := ⟨some 13, _, _, _, _, _⟩) (v := ?_) rfl (by kernel_rfl) (by kernel_rfl) (by kernel_rfl) (fun _ _ _ h => h) (Or.inl ⟨by rfl, by intro w hSw; go_simp; try rfl⟩) (by assumption) ?_
    try simp only [Act.put, List.setIfInBounds_toArray, List.set_cons_zero, List.set_cons_succ]
    refine wpAnyH_take (i := 1) (oi := ⟨some 14, _, _, _, _, _⟩) (v := ?_) rfl (by kernel_rfl) (by kernel_rfl) (by kernel_rfl) (fun _ _ _ h => h) (Or.inl ⟨by rfl, by intro w hSw; go_simp; try rfl⟩) (by assumption) ?_
    try simp only [Act.put, List.setIfInBounds_toArray, List.set_cons_zero, List.set_cons_succ]
    refine wpAnyH_take (i := 2) (oi := ⟨some 15, _, _, _, _, _⟩) (v := ?_) rfl (by kernel_rfl) (by kernel_rfl) (by kernel_rfl) (fun _ _ _ h => h) (Or.inl ⟨by rfl, by intro w hSw; go_simp; try rfl⟩) (by assumption) ?_
    try simp only [Act.put, List.setIfInBounds_toArray, List.set_cons_zero, List.set_cons_succ]
    refine wpAnyH_take (i := 3) (oi := ⟨some 16, _, _, _, _, _⟩) (v := _) rfl (by kernel_rfl) (by kernel_rfl) (by kernel_rfl) (fun _ _ _ h => h) (Or.inl ⟨by rfl, by intro W hW; have c := (HC0.out W hW).1; go_simp; try rfl⟩) (by assumption) ?_
    try simp only [Act.put, List.setIfInBounds_toArray, List.set_cons_zero, List.set_cons_succ]
    refine wpAnyH_take (i := 4) (oi := ⟨some 17, _, _, _, _, _⟩) (v := _) rfl (by kernel_rfl) (by kernel_rfl) (by kernel_rfl) (fun _ _ _ h => h) (yieldsIf_lenI (by rfl) HMp.out (.tmp 16) rfl Try.underlying64 rfl) (by assumption) ?_
    try simp only [Act.put, List.setIfInBounds_toArray, List.set_cons_zero, List.set_cons_succ]
    refine wpAnyH_take (i := 6) (oi := ⟨some 19, _, _, _, _, _⟩) (v := ?_) rfl (by kernel_rfl) (by kernel_rfl) (by kernel_rfl) (fun _ _ _ h => h) (Or.inl ⟨by rfl, by intro w hSw; go_simp; try rfl⟩) (by assumption) ?_
    try simp only [Act.put, List.setIfInBounds_toArray, List.set_cons_zero, List.set_cons_succ]
    refine wpAnyH_take (i := 7) (oi := ⟨some 20, _, _, _, _, _⟩) (v := ?_) rfl (by kernel_rfl) (by kernel_rfl) (by kernel_rfl) (fun _ _ _ h => h) (Or.inl ⟨by rfl, by intro w hSw; go_simp; try rfl⟩) (by assumption) ?_
    try simp only [Act.put, List.setIfInBounds_toArray, List.set_cons_zero, List.set_cons_succ]
    refine wpAnyH_take (i := 8) (oi := ⟨some 21, _, _, _, _, _⟩) (v := ?_) rfl (by kernel_rfl) (by kernel_rfl) (by kernel_rfl) (fun _ _ _ h => h) (Or.inl ⟨by rfl, by intro w hSw; go_simp; try rfl⟩) (by assumption) ?_
    try simp only [Act.put, List.setIfInBounds_toArray, List.set_cons_zero, List.set_cons_succ]
    refine wpAnyH_take (i := 9) (oi := ⟨some 22, _, _, _, _, _⟩) (v := _) rfl (by kernel_rfl) (by kernel_rfl) (by kernel_rfl) (fun _ _ _ h => h) (Or.inl ⟨by rfl, by intro W hW; have c := (HC0.out W hW).2.1; go_simp; try rfl⟩) (by assumption) ?_
    try simp only [Act.put, List.setIfInBounds_toArray, List.set_cons_zero, List.set_cons_succ]
    refine wpAnyH_take (i := 10) (oi := ⟨some 23, _, _, _, _, _⟩) (v := ?_) rfl (by kernel_rfl) (by kernel_rfl) (by kernel_rfl) (fun _ _ _ h => h) (Or.inl ⟨by rfl, by intro w hSw; go_simp; try rfl⟩) (by assumption) ?_
    try simp only [Act.put, List.setIfInBounds_toArray, List.set_cons_zero, List.set_cons_succ]
    refine wpAnyH_take (i := 11) (oi := ⟨some 24, _, _, _, _, _⟩) (v := ?_) rfl (by kernel_rfl) (by kernel_rfl) (by kernel_rfl) (fun _ _ _ h => h) (Or.inl ⟨by rfl, by intro w hSw; go_simp; try rfl⟩) (by assumption) ?_
    try simp only [Act.put, List.setIfInBounds_toArray, List.set_cons_zero, List.set_cons_succ]
    refine wpAnyH_take (i := 12) (oi := ⟨some 25, _, _, _, _, _⟩) (v := ?_) rfl (by kernel_rfl) (by kernel_rfl) (by kernel_rfl) (fun _ _ _ h => h) (Or.inl ⟨by rfl, by intro w hSw; go_simp; try rfl⟩) (by assumption) ?_
    try simp only [Act.put, List.setIfInBounds_toArray, List.set_cons_zero, List.set_cons_succ]
    refine wpAnyH_take (i := 13) (oi := ⟨some 26, _, _, _, _, _⟩) (v := _) rfl (by kernel_rfl) (by kernel_rfl) (by kernel_rfl) (fun _ _ _ h => h) (yieldsIf_load_mid (by rfl) 67 (.tmp 25) rfl b 4 rfl [.bool t.lim, .bool t.lost, .int .i64 (t.left : Int)] _ HC4.out rwPw.ty rwPw.row (by rw [rwPw.size]; rfl)) (by assumption) ?_
    try simp only [Act.put, List.setIfInBounds_toArray, List.set_cons_zero, List.set_cons_succ]
    refine wpAnyH_take (i := 14) (oi := ⟨some 27, _, _, _, _, _⟩) (v := ?_) rfl (by kernel_rfl) (by kernel_rfl) (by kernel_rfl) (fun _ _ _ h => h) (Or.inl ⟨by rfl, by intro w hSw; go_simp; try rfl⟩) (by assumption) ?_
    try simp only [Act.put, List.setIfInBounds_toArray, List.set_cons_zero, List.set_cons_succ]
    refine wpAnyH_ready (rs := [5, 15]) (by kernel_rfl) (by simp) ?_
    refine AllReadyH.cons (o := ⟨some 18, _, _, _, _, _⟩) rfl (fun K hK => ?_) (AllReadyH.cons (o := ⟨some 28, _, _, _, _, _⟩) rfl (fun K hK => ?_) AllReadyH.nil)
    · refine step_mkI Try.underlying64 rfl (.tmp 17) rfl (m := ((2 * t.n : Nat) : Int)) rfl ?_
      obtain ⟨ms, hms⟩ : ∃ m, m = wS.heap.size := ⟨_, rfl⟩
      have HMs : Kp (w.heap.size ≤ ms ∧ MapI (wS.alloc (.map #[] 0)) Try.prog 80 kvP okP ms 0 (fun _ => none)) := ⟨by rw [hms]; exact hHeld.size, by rw [hms]; exact MapI.made _ _ _ _ _⟩
      have hb' : Below wS.heap.size wS (wS.alloc (.map #[] 0)) := (Below.refl _ _).alloc (Nat.le_refl _) _
      try replace HTr : Kp (TkA w (wS.alloc (.map #[] 0)) (fun k => M k ∨ k = ms) (.slice A2 n2 c2) t.tr Lt) := ⟨HTr.out.more hb' (fun k hk => hk.imp id (fun e => Nat.le_of_eq (hms.symm.trans e.symm)))⟩
      rw [← hms]
      clear hms
      refine hK.out _ _ (hHeld.trans (hb'.mono hHeld.size)) (fun hHeld2 => ?_)
      clear hb'
      generalize wS.alloc (.map #[] 0) = w51 at *
      clear hK K hHeld
      have hHeld := hHeld2
      clear hHeld2
      try simp only [Act.put, List.setIfInBounds_toArray, List.set_cons_zero, List.set_cons_succ]
      refine wpAnyH_ready (rs := [15]) (by kernel_rfl) (by simp) ?_
      refine AllReadyH.cons (o := ⟨some 28, _, _, _, _, _⟩) rfl (fun K hK => ?_) AllReadyH.nil
      go_simp
      first | refine (trace_own (HP.out.chg (S := fun _ => False) (M' := fun k => M k ∨ k = ms) (Chg.of_below _ hHeld) (fun _ h => h.elim) (fun _ h => h.elim) (fun k hk => hk.imp id (fun e => by rw [e]; exact HMs.out.1)) (fun _ h => .inl h) (fun k hk => hk.elim (fun h9 => Nat.lt_of_lt_of_le (HP.out.lt k h9) hHeld.size) (fun e => by rw [e]; exact HMs.out.2.lt))) HLen.out).mono ?_ | refine (trace_own (HP.out.below hHeld) HLen.out).mono ?_
      rintro e w52 ⟨vt, rfl, hb', Lt, ho', hg', ht'⟩
      obtain ⟨A2, n2, c2, rfl⟩ := own_slice ho'
      have HTr : Kp (TkA w w52 _ (.slice A2 n2 c2) t.tr Lt) := ⟨⟨own_lower ho' (Nat.zero_le _), fun k hk => ⟨Nat.le_trans hHeld.size (hg' k hk), own_lt ho' hk⟩, ht'⟩⟩
      try replace HMs : Kp (w.heap.size ≤ ms ∧ MapI w52 Try.prog 80 kvP okP ms 0 (fun _ => none)) := ⟨HMs.out.1, HMs.out.2.stay (hb'.block _ HMs.out.2.lt)⟩
      refine hK.out _ _ (hHeld.trans (hb'.mono hHeld.size)) (fun hHeld2 => ?_)
      clear hb' ho' hg' ht'
      clear hK K hHeld
      have hHeld := hHeld2
      clear hHeld2
      try simp only [Act.put, List.setIfInBounds_toArray, List.set_cons_zero, List.set_cons_succ]
      refine wpAnyH_take (i := 16) (oi := ⟨some 29, _, _, _, _, _⟩) (v := _) rfl (by kernel_rfl) (by kernel_rfl) (by kernel_rfl) (fun _ _ _ h => h) (yieldsIf_build4 (by rfl) 0 2 3 6 (.tmp 18) (.tmp 22) (.tmp 26) (.tmp 28) rfl rfl rfl rfl rfl (wd_built4 ms t A2 n2 c2)) (by assumption) ?_
      try simp only [Act.put, List.setIfInBounds_toArray, List.set_cons_zero, List.set_cons_succ]
      refine wpAnyH_ready (rs := [17]) (by kernel_rfl) (by simp) ?_
      refine AllReadyH.cons (o := ⟨some 30, _, _, _, _, _⟩) rfl (fun K hK => ?_) AllReadyH.nil
      refine step_box (cs := wdCells ⟨ms, none, .slice none 0 0, .slice none 0 0, .slice A2 n2 c2⟩ (cp0 t)) rfl (.tmp 29) rfl rfl ?_
      intro w53 hk' hb'
      have hsz := hHeld.size
      have HCp : Kp (CpI w w53 M t ms w52.heap.size (.slice A2 n2 c2) Lt 0 (fun _ => none)) := ⟨CpI.start hHeld HMs.out.1 HMs.out.2 HTr.out hk' hb'⟩
      clear hsz HMs HTr
      refine hK.out _ _ (hHeld.trans (hb'.mono hHeld.size)) (fun hHeld2 => ?_)
      clear hb' hk'
      clear hK K hHeld
      have hHeld := hHeld2
      clear hHeld2
      try simp only [Act.put, List.setIfInBounds_toArray, List.set_cons_zero, List.set_cons_succ]
      refine wpAnyH_take (i := 18) (oi := ⟨some 3, _, _, _, _, _⟩) (v := ?_) rfl (by kernel_rfl) (by kernel_rfl) (by kernel_rfl) (fun _ _ _ h => h) (Or.inl ⟨by rfl, by intro w hSw; go_simp; try rfl⟩) (by assumption) ?_
      try simp only [Act.put, List.setIfInBounds_toArray, List.set_cons_zero, List.set_cons_succ]
      refine wpAnyH_done (by kernel_rfl) ?_ _
      go_wp2_with fail
      go_meet
      case rel => exact ⟨_, rfl, ⟨_, _, _, HCp.out⟩⟩
    · go_simp
      first | refine (trace_own (HP.out.chg (S := fun _ => False) (M' := fun k => M k ∨ k = ms) (Chg.of_below _ hHeld) (fun _ h => h.elim) (fun _ h => h.elim) (fun k hk => hk.imp id (fun e => by rw [e]; exact HMs.out.1)) (fun _ h => .inl h) (fun k hk => hk.elim (fun h9 => Nat.lt_of_lt_of_le (HP.out.lt k h9) hHeld.size) (fun e => by rw [e]; exact HMs.out.2.lt))) HLen.out).mono ?_ | refine (trace_own (HP.out.below hHeld) HLen.out).mono ?_
      rintro e w54 ⟨vt, rfl, hb', Lt, ho', hg', ht'⟩
      obtain ⟨A2, n2, c2, rfl⟩ := own_slice ho'
      have HTr : Kp (TkA w w54 _ (.slice A2 n2 c2) t.tr Lt) := ⟨⟨own_lower ho' (Nat.zero_le _), fun k hk => ⟨Nat.le_trans hHeld.size (hg' k hk), own_lt ho' hk⟩, ht'⟩⟩
      try replace HMs : Kp (w.heap.size ≤ ms ∧ MapI w54 Try.prog 80 kvP okP ms 0 (fun _ => none)) := ⟨HMs.out.1, HMs.out.2.stay (hb'.block _ HMs.out.2.lt)⟩
      refine hK.out _ _ (hHeld.trans (hb'.mono hHeld.size)) (fun hHeld2 => ?_)
      clear hb' ho' hg' ht'
      clear hK K hHeld
      have hHeld := hHeld2
      clear hHeld2
      try simp only [Act.put, List.setIfInBounds_toArray, List.set_cons_zero, List.set_cons_succ]
      refine wpAnyH_ready (rs := [5]) (by kernel_rfl) (by simp) ?_
      refine AllReadyH.cons (o := ⟨some 18, _, _, _, _, _⟩) rfl (fun K hK => ?_) AllReadyH.nil
      refine step_mkI Try.underlying64 rfl (.tmp 17) rfl (m := ((2 * t.n : Nat) : Int)) rfl ?_
      obtain ⟨ms, hms⟩ : ∃ m, m = w54.heap.size := ⟨_, rfl⟩
      have HMs : Kp (w.heap.size ≤ ms ∧ MapI (w54.alloc (.map #[] 0)) Try.prog 80 kvP okP ms 0 (fun _ => none)) := ⟨by rw [hms]; exact hHeld.size, by rw [hms]; exact MapI.made _ _ _ _ _⟩
      have hb' : Below w54.heap.size w54 (w54.alloc (.map #[] 0)) := (Below.refl _ _).alloc (Nat.le_refl _) _
      try replace HTr : Kp (TkA w (w54.alloc (.map #[] 0)) (fun k => M k ∨ k = ms) (.slice A2 n2 c2) t.tr Lt) := ⟨HTr.out.more hb' (fun k hk => hk.imp id (fun e => Nat.le_of_eq (hms.symm.trans e.symm)))⟩
      rw [← hms]
      clear hms
      refine hK.out _ _ (hHeld.trans (hb'.mono hHeld.size)) (fun hHeld2 => ?_)
      clear hb'
      generalize w54.alloc (.map #[] 0) = w55 at *
      clear hK K hHeld
      have hHeld := hHeld2
      clear hHeld2
      try simp only [Act.put, List.setIfInBounds_toArray, List.set_cons_zero, List.set_cons_succ]
      refine wpAnyH_take (i := 16) (oi := ⟨some 29, _, _, _, _, _⟩) (v := _) rfl (by kernel_rfl) (by kernel_rfl) (by kernel_rfl) (fun _ _ _ h => h) (yieldsIf_build4 (by rfl) 0 2 3 6 (.tmp 18) (.tmp 22) (.tmp 26) (.tmp 28) rfl rfl rfl rfl rfl (wd_built4 ms t A2 n2 c2)) (by assumption) ?_
      try simp only [Act.put, List.setIfInBounds_toArray, List.set_cons_zero, List.set_cons_succ]
      refine wpAnyH_ready (rs := [17]) (by kernel_rfl) (by simp) ?_
      refine AllReadyH.cons (o := ⟨some 30, _, _, _, _, _⟩) rfl (fun K hK => ?_) AllReadyH.nil
      refine step_box (cs := wdCells ⟨ms, none, .slice none 0 0, .slice none 0 0, .slice A2 n2 c2⟩ (cp0 t)) rfl (.tmp 29) rfl rfl ?_
      intro w56 hk' hb'
      have hsz := hHeld.size
      have HCp : Kp (CpI w w56 M t ms w55.heap.size (.slice A2 n2 c2) Lt 0 (fun _ => none)) := ⟨CpI.start hHeld HMs.out.1 HMs.out.2 HTr.out hk' hb'⟩
      clear hsz HMs HTr
      refine hK.out _ _ (hHeld.trans (hb'.mono hHeld.size)) (fun hHeld2 => ?_)
      clear hb' hk'
      clear hK K hHeld
      have hHeld := hHeld2
      clear hHeld2
      try simp only [Act.put, List.setIfInBounds_toArray, List.set_cons_zero, List.set_cons_succ]
      refine wpAnyH_take (i := 18) (oi := ⟨some 3, _, _, _, _, _⟩) (v := ?_) rfl (by kernel_rfl) (by kernel_rfl) (by kernel_rfl) (fun _ _ _ h => h) (Or.inl ⟨by rfl, by intro w hSw; go_simp; try rfl⟩) (by assumption) ?_
      try simp only [Act.put, List.setIfInBounds_toArray, List.set_cons_zero, List.set_cons_succ]
      refine wpAnyH_done (by kernel_rfl) ?_ _
      go_wp2_with fail
      go_meet
      case rel => exact ⟨_, rfl, ⟨_, _, _, HCp.out⟩⟩
  case rest =>
    obtain ⟨g, rfl, HX⟩ := hcut
    obtain ⟨ms, vt, L', hcp⟩ := HX.out
    have HCp : Kp _ := ⟨hcp⟩
    have c0 := (HC0.out wc hcp.below).1
    have HM : Kp _ := ⟨HMp.out wc hcp.below⟩
    clear hcp HX
    go_wp2_with (at_range; refine wpList_rangeI (o := ⟨some 35, _, _, _, _, _⟩) HM.out keyP rfl (.tmp 34) 64 rfl _ Try.underlying64 rfl ?_)
    intro w1 hr1 hg1 hs1
    obtain ⟨r, hr⟩ : ∃ r, r = wc.heap.size := ⟨_, rfl⟩
    have hb1 : Below wc.heap.size wc w1 := (Below.refl _ _).grown hg1 (Nat.le_refl _) (fun j hj => by cases hj)
    rw [← hr] at hr1 ⊢
    have HRr : Kp (w.heap.size ≤ r) := ⟨by rw [hr]; exact HCp.out.below.size⟩
    have H1 : Kp (∃ todo cnt nn p', RngI w1 Try.prog 80 kvP okP ad.ms r (2 * t.n) f todo cnt ∧ nn + cnt = 2 * t.n ∧ (∀ x, okP x → (p' x).isSome = ((p x).isSome && !todo x)) ∧ CpI w w1 M t ms g vt L' nn p') := ⟨_, _, 0, _, hr1, by omega, fun x hx => by simp [HF.out x], HCp.out.stay hb1⟩
    clear hr1 hg1 hs1 hr hb1 HM HCp c0
    go_wp2
    go_loopw [36] (fun _ wr => Kp (∃ todo cnt nn p', RngI wr Try.prog 80 kvP okP ad.ms r (2 * t.n) f todo cnt ∧ nn + cnt = 2 * t.n ∧ (∀ x, okP x → (p' x).isSome = ((p x).isSome && !todo x)) ∧ CpI w wr M t ms g vt L' nn p')) (fun _ wr => wr.rangeLeft ad.ms r)
    case atStart => exact H1
    case round =>
      clear H1
      obtain ⟨todo, cnt, nn, p', hR, hn, hd, hC⟩ := hrel.out
      have HR : Kp _ := ⟨hR⟩
      have HN : Kp _ := ⟨hn⟩
      have HD : Kp _ := ⟨hd⟩
      have HC : Kp _ := ⟨hC⟩
      clear hR hn hd hC hrel
      go_wp2_with (at_next; refine wpList_nextI (o := ⟨some 36, _, _, _, _, _⟩) HR.out keyP invP rfl (.tmp 35) rfl rfl ?_ ?_)
      · intro h0 hdone'
        have hdone : ∀ x : Int × Int, okP x → todo x = false := fun x hx => hdone' x.1 x.2 hx
        clear hdone'
        have HPc : Kp _ := ⟨HC.out.parts HP.out (by have := HN.out; omega) (fun x hx => by rw [HD.out x hx, hdone x hx]; simp)⟩
        have HOw : Kp _ := ⟨fun k hk => (HC.out.own k hk).1⟩
        have HBw : Kp _ := ⟨HC.out.below⟩
        clear h0 hdone HD HN HR HC
        obtain ⟨A0, n0, d0, e0, hB0⟩ := HP.out.seal0
        obtain ⟨A1, n1, d1, e1, hB1⟩ := HP.out.seal1
        have HB0 : Kp _ := ⟨hB0⟩
        have HB1 : Kp _ := ⟨hB1⟩
        have HBl : Kp (∀ W, Below w.heap.size w W → Blk W b 75 (wdCells ad t)) := ⟨fun W hW => HP.out.blk.below hW HP.out.blk.lt⟩
        have HSv : Kp (((wdCells ad t).drop 1).take 2 = [.slice A0 n0 d0, .slice A1 n1 d1]) := ⟨by show [ad.v0, ad.v1] = _; rw [e0, e1]⟩
        obtain ⟨Oc, hOc⟩ : ∃ Oc, Oc = CpO ms g vt p' := ⟨_, rfl⟩
        have HQ0 : Kp (∃ u0 u1, Parts wr Oc (Or2 M Oc) g ⟨ms, none, u0, u1, vt⟩ (cpS t 0) p' L' ∧ Below w.heap.size w wr) := ⟨_, _, by rw [hOc]; exact HPc.out, HBw.out⟩
        have HO : Kp (∀ k, Oc k → w.heap.size ≤ k) := ⟨by rw [hOc]; exact HOw.out⟩
        have HBr : Kp _ := ⟨HBl.out wr HBw.out⟩
        clear hB0 hB1 e0 e1 hOc HPc HOw HBw
        go_wp2_with (with_reducible refine wpList_loadv (o := ⟨some 52, _, _, _, _, _⟩) rwSe rfl (.tmp 51) rfl rfl HBr.out (by simp [wdCells]) HSv.out ?_)
        go_loopg [53] 2 (fun gk v53 wx => ∃ i : Int, (i = 0 ∨ i = 1 ∨ i = 2) ∧ i + gk = 2 ∧ v53 = .int .i64 i ∧ Kp (∃ u0 u1, Parts wx Oc (Or2 M Oc) g ⟨ms, none, u0, u1, vt⟩ (cpS t i) p' L' ∧ Below w.heap.size w wx))
        case atStart => exact ⟨0, .inl rfl, by omega, rfl, HQ0⟩
        case round =>
          clear HQ0 HBr HSv
          obtain ⟨i, hi, hgk, rfl, HI⟩ := hrel
          rcases hi with rfl | rfl | rfl
          · obtain rfl : gk = 2 := by omega
            obtain ⟨u0, u1, hQ, hBw⟩ := HI.out
            have HQ : Kp (∀ W, Below wr.heap.size wr W → Parts W Oc (Or2 M Oc) g ⟨ms, none, u0, u1, vt⟩ (cpS t 0) p' L') := ⟨fun W hW => hQ.below hW⟩
            have HBw : Kp _ := ⟨hBw⟩
            clear hQ hBw HI hgk
            go_wp2_with (with_reducible refine wpList_index (o := ⟨some 56, _, _, _, _, _⟩) (n := 2) Try.underlying65 plainSl rfl (.tmp 52) (.tmp 53) rfl (cs := [.slice A0 n0 d0, .slice A1 n1 d1]) rfl (k := .i64) (I := 0) rfl 0 rfl (by decide) (v := .slice A0 n0 d0) rfl ?_)
            have hB9 : Below wr.heap.size wr wr := Below.refl _ _
            refine wp_region_any (by kernel_rfl) ?_
            change wpAny _ _ _ _ _ _ _ wr.drew
            replace hB9 := hB9.drew
            generalize wr.drew = wS at *
            refine wpAny_take (i := 0) (oi := ⟨some 57, _, _, _, _, _⟩) (v := ?_) rfl (by kernel_rfl) (by kernel_rfl) (by kernel_rfl) (fun _ _ _ h => h) (Or.inl ⟨by rfl, by intro w; go_simp; try rfl⟩) ?_
            try simp only [Act.put, List.setIfInBounds_toArray, List.set_cons_zero, List.set_cons_succ]
            refine wpAny_take (i := 1) (oi := ⟨some 58, _, _, _, _, _⟩) (v := ?_) rfl (by kernel_rfl) (by kernel_rfl) (by kernel_rfl) (fun _ _ _ h => h) (Or.inl ⟨by rfl, by intro w; go_simp; try rfl⟩) ?_
            try simp only [Act.put, List.setIfInBounds_toArray, List.set_cons_zero, List.set_cons_succ]
            refine wpAny_take (i := 2) (oi := ⟨some 59, _, _, _, _, _⟩) (v := ?_) rfl (by kernel_rfl) (by kernel_rfl) (by kernel_rfl) (fun _ _ _ h => h) (Or.inl ⟨by rfl, by intro w; go_simp; try rfl⟩) ?_
            try simp only [Act.put, List.setIfInBounds_toArray, List.set_cons_zero, List.set_cons_succ]
            refine wpAny_take (i := 4) (oi := ⟨some 61, _, _, _, _, _⟩) (v := ?_) rfl (by kernel_rfl) (by kernel_rfl) (by kernel_rfl) (fun _ _ _ h => h) (Or.inl ⟨by rfl, by intro w; go_simp; try rfl⟩) ?_
            try simp only [Act.put, List.setIfInBounds_toArray, List.set_cons_zero, List.set_cons_succ]
            refine wpAny_take (i := 5) (oi := ⟨some 62, _, _, _, _, _⟩) (v := ?_) rfl (by kernel_rfl) (by kernel_rfl) (by kernel_rfl) (fun _ _ _ h => h) (Or.inl ⟨by rfl, by intro w; go_simp; try rfl⟩) ?_
            try simp only [Act.put, List.setIfInBounds_toArray, List.set_cons_zero, List.set_cons_succ]
            refine wpAny_ready (rs := [3]) (by kernel_rfl) (by simp) ?_
            refine AllReady.cons (o := ⟨some 60, _, _, _, _, _⟩) rfl (fun K hK => ?_) AllReady.nil
            have hBS : Below w.heap.size w wS := HBw.out.trans (hB9.mono HBw.out.size)
            go_simp
            refine (clone_any A0 n0 d0 t.s0 wS ((HB0.out.bs.below hBS).more hBS.size) HB0.out.fit).mono ?_
            rintro e w61 ⟨v, rfl, ho', hb'⟩
            obtain ⟨Av, cv, rfl, hbv⟩ := BsM.of_own (M := Or2 M Oc) ho' (HQ.out _ hB9).lt HB0.out.fit
            have HV : Kp _ := ⟨hbv⟩
            replace hB9 := hB9.trans (hb'.mono hB9.size)
            clear hBS ho' hb' hbv
            refine hK _ _ ?_
            clear hK K
            try simp only [Act.put, List.setIfInBounds_toArray, List.set_cons_zero, List.set_cons_succ]
            refine wpAny_take (i := 6) (oi := ⟨some 63, _, _, _, _, _⟩) (v := ?_) rfl (by kernel_rfl) (by kernel_rfl) (by kernel_rfl) (fun _ _ _ h => h) (Or.inl ⟨by rfl, by intro w; go_simp; try rfl⟩) ?_
            try simp only [Act.put, List.setIfInBounds_toArray, List.set_cons_zero, List.set_cons_succ]
            refine wpAny_ready (rs := [7]) (by kernel_rfl) (by simp) ?_
            refine AllReady.cons (o := ⟨none, _, _, _, _, _⟩) rfl (fun K hK => ?_) AllReady.nil
            have hPN := HQ.out _ hB9
            have c := hPN.blk.cell? 1
            have c' : w61.cell? ⟨g, 1, none⟩ = some u0 := c
            have f := hPN.blk.frozen 1
            go_simp
            have HF : Kp (Parts (w61.setCell ⟨g, 1, none⟩ (.slice Av n0 cv)) Oc (Or2 M Oc) g ⟨ms, none, .slice Av n0 cv, u1, vt⟩ (cpS t 1) p' L' ∧ Below w.heap.size w (w61.setCell ⟨g, 1, none⟩ (.slice Av n0 cv))) := ⟨hPN.own2 (Only.setCell w61 ⟨g, 1, none⟩ (.slice Av n0 cv)) (hPN.blk.set 1 (.slice Av n0 cv)) rfl rfl rfl rfl rfl ⟨_, _, _, rfl, HV.out⟩ hPN.seal1 rfl rfl rfl hPN.pow hPN.num hPN.read, (HBw.out.trans (hB9.mono HBw.out.size)).trans ((Only.setCell w61 ⟨g, 1, none⟩ (.slice Av n0 cv)).below (by show w.heap.size ≤ g; exact HO.out g hPN.ob))⟩
            refine hK _ _ ?_
            clear hK K c c' f hPN
            try simp only [Act.put]
            refine wpAny_done (by kernel_rfl) ?_ _
            go_wp2
            go_roundg 1
            case measure => omega
            case rel => exact ⟨1, by omega, by omega, rfl, ⟨_, _, HF.out.1, HF.out.2⟩⟩
          · obtain rfl : gk = 1 := by omega
            obtain ⟨u0, u1, hQ, hBw⟩ := HI.out
            have HQ : Kp (∀ W, Below wr.heap.size wr W → Parts W Oc (Or2 M Oc) g ⟨ms, none, u0, u1, vt⟩ (cpS t 1) p' L') := ⟨fun W hW => hQ.below hW⟩
            have HBw : Kp _ := ⟨hBw⟩
            clear hQ hBw HI hgk
            go_wp2_with (with_reducible refine wpList_index (o := ⟨some 56, _, _, _, _, _⟩) (n := 2) Try.underlying65 plainSl rfl (.tmp 52) (.tmp 53) rfl (cs := [.slice A0 n0 d0, .slice A1 n1 d1]) rfl (k := .i64) (I := 1) rfl 1 rfl (by decide) (v := .slice A1 n1 d1) rfl ?_)
            have hB9 : Below wr.heap.size wr wr := Below.refl _ _
            refine wp_region_any (by kernel_rfl) ?_
            change wpAny _ _ _ _ _ _ _ wr.drew
            replace hB9 := hB9.drew
            generalize wr.drew = wS at *
            refine wpAny_take (i := 0) (oi := ⟨some 57, _, _, _, _, _⟩) (v := ?_) rfl (by kernel_rfl) (by kernel_rfl) (by kernel_rfl) (fun _ _ _ h => h) (Or.inl ⟨by rfl, by intro w; go_simp; try rfl⟩) ?_
            try simp only [Act.put, List.setIfInBounds_toArray, List.set_cons_zero, List.set_cons_succ]
            refine wpAny_take (i := 1) (oi := ⟨some 58, _, _, _, _, _⟩) (v := ?_) rfl (by kernel_rfl) (by kernel_rfl) (by kernel_rfl) (fun _ _ _ h => h) (Or.inl ⟨by rfl, by intro w; go_simp; try rfl⟩) ?_
            try simp only [Act.put, List.setIfInBounds_toArray, List.set_cons_zero, List.set_cons_succ]
            refine wpAny_take (i := 2) (oi := ⟨some 59, _, _, _, _, _⟩) (v := ?_) rfl (by kernel_rfl) (by kernel_rfl) (by kernel_rfl) (fun _ _ _ h => h) (Or.inl ⟨by rfl, by intro w; go_simp; try rfl⟩) ?_
            try simp only [Act.put, List.setIfInBounds_toArray, List.set_cons_zero, List.set_cons_succ]
            refine wpAny_take (i := 4) (oi := ⟨some 61, _, _, _, _, _⟩) (v := ?_) rfl (by kernel_rfl) (by kernel_rfl) (by kernel_rfl) (fun _ _ _ h => h) (Or.inl ⟨by rfl, by intro w; go_simp; try rfl⟩) ?_
            try simp only [Act.put, List.setIfInBounds_toArray, List.set_cons_zero, List.set_cons_succ]
            refine wpAny_take (i := 5) (oi := ⟨some 62, _, _, _, _, _⟩) (v := ?_) rfl (by kernel_rfl) (by kernel_rfl) (by kernel_rfl) (fun _ _ _ h => h) (Or.inl ⟨by rfl, by intro w; go_simp; try rfl⟩) ?_
            try simp only [Act.put, List.setIfInBounds_toArray, List.set_cons_zero, List.set_cons_succ]
            refine wpAny_ready (rs := [3]) (by kernel_rfl) (by simp) ?_
            refine AllReady.cons (o := ⟨some 60, _, _, _, _, _⟩) rfl (fun K hK => ?_) AllReady.nil
            have hBS : Below w.heap.size w wS := HBw.out.trans (hB9.mono HBw.out.size)
            go_simp
            refine (clone_any A1 n1 d1 t.s1 wS ((HB1.out.bs.below hBS).more hBS.size) HB1.out.fit).mono ?_
            rintro e w61 ⟨v, rfl, ho', hb'⟩
            obtain ⟨Av, cv, rfl, hbv⟩ := BsM.of_own (M := Or2 M Oc) ho' (HQ.out _ hB9).lt HB1.out.fit
            have HV : Kp _ := ⟨hbv⟩
            replace hB9 := hB9.trans (hb'.mono hB9.size)
            clear hBS ho' hb' hbv
            refine hK _ _ ?_
            clear hK K
            try simp only [Act.put, List.setIfInBounds_toArray, List.set_cons_zero, List.set_cons_succ]
            refine wpAny_take (i := 6) (oi := ⟨some 63, _, _, _, _, _⟩) (v := ?_) rfl (by kernel_rfl) (by kernel_rfl) (by kernel_rfl) (fun _ _ _ h => h) (Or.inl ⟨by rfl, by intro w; go_simp; try rfl⟩) ?_
            try simp only [Act.put, List.setIfInBounds_toArray, List.set_cons_zero, List.set_cons_succ]
            refine wpAny_ready (rs := [7]) (by kernel_rfl) (by simp) ?_
            refine AllReady.cons (o := ⟨none, _, _, _, _, _⟩) rfl (fun K hK => ?_) AllReady.nil
            have hPN := HQ.out _ hB9
            have c := hPN.blk.cell? 2
            have c' : w61.cell? ⟨g, 2, none⟩ = some u1 := c
            have f := hPN.blk.frozen 2
            go_simp
            have HF : Kp (Parts (w61.setCell ⟨g, 2, none⟩ (.slice Av n1 cv)) Oc (Or2 M Oc) g ⟨ms, none, u0, .slice Av n1 cv, vt⟩ (cpS t 2) p' L' ∧ Below w.heap.size w (w61.setCell ⟨g, 2, none⟩ (.slice Av n1 cv))) := ⟨hPN.own2 (Only.setCell w61 ⟨g, 2, none⟩ (.slice Av n1 cv)) (hPN.blk.set 2 (.slice Av n1 cv)) rfl rfl rfl rfl rfl hPN.seal0 ⟨_, _, _, rfl, HV.out⟩ rfl rfl rfl hPN.pow hPN.num hPN.read, (HBw.out.trans (hB9.mono HBw.out.size)).trans ((Only.setCell w61 ⟨g, 2, none⟩ (.slice Av n1 cv)).below (by show w.heap.size ≤ g; exact HO.out g hPN.ob))⟩
            refine hK _ _ ?_
            clear hK K c c' f hPN
            try simp only [Act.put]
            refine wpAny_done (by kernel_rfl) ?_ _
            go_wp2
            go_roundg 0
            case measure => omega
            case rel => exact ⟨2, by omega, by omega, rfl, ⟨_, _, HF.out.1, HF.out.2⟩⟩
          · obtain rfl : gk = 0 := by omega
            obtain ⟨u0, u1, hQ, hBw⟩ := HI.out
            have HQ : Kp (∀ W, Below wr.heap.size wr W → Parts W Oc (Or2 M Oc) g ⟨ms, none, u0, u1, vt⟩ (cpS t 2) p' L') := ⟨fun W hW => hQ.below hW⟩
            have HBw : Kp _ := ⟨hBw⟩
            clear hQ hBw HI hgk
            go_wp2_with fail
            have hB9 : Below wr.heap.size wr wr := Below.refl _ _
            refine wp_region_any (by kernel_rfl) ?_
            change wpAny _ _ _ _ _ _ _ wr.drew
            replace hB9 := hB9.drew
            generalize wr.drew = wS at *
            refine wpAny_take (i := 0) (oi := ⟨some 65, _, _, _, _, _⟩) (v := ?_) rfl (by kernel_rfl) (by kernel_rfl) (by kernel_rfl) (fun _ _ _ h => h) (Or.inl ⟨by rfl, by intro w; go_simp; try rfl⟩) ?_
            try simp only [Act.put, List.setIfInBounds_toArray, List.set_cons_zero, List.set_cons_succ]
            refine wpAny_take (i := 1) (oi := ⟨some 66, _, _, _, _, _⟩) (v := ?_) rfl (by kernel_rfl) (by kernel_rfl) (by kernel_rfl) (fun _ _ _ h => h) (Or.inl ⟨by rfl, by intro w; go_simp; try rfl⟩) ?_
            try simp only [Act.put, List.setIfInBounds_toArray, List.set_cons_zero, List.set_cons_succ]
            refine wpAny_take (i := 2) (oi := ⟨some 67, _, _, _, _, _⟩) (v := ?_) rfl (by kernel_rfl) (by kernel_rfl) (by kernel_rfl) (fun _ _ _ h => h) (Or.inl ⟨by rfl, by intro w; go_simp; try rfl⟩) ?_
            try simp only [Act.put, List.setIfInBounds_toArray, List.set_cons_zero, List.set_cons_succ]
            refine wpAny_take (i := 3) (oi := ⟨some 68, _, _, _, _, _⟩) (v := ?_) rfl (by kernel_rfl) (by kernel_rfl) (by kernel_rfl) (fun _ _ _ h => h) (Or.inl ⟨by rfl, by intro w; go_simp; try rfl⟩) ?_
            try simp only [Act.put, List.setIfInBounds_toArray, List.set_cons_zero, List.set_cons_succ]
            refine wpAny_take (i := 4) (oi := ⟨some 69, _, _, _, _, _⟩) (v := ?_) rfl (by kernel_rfl) (by kernel_rfl) (by kernel_rfl) (fun _ _ _ h => h) (Or.inl ⟨by rfl, by intro w; go_simp; try rfl⟩) ?_
            try simp only [Act.put, List.setIfInBounds_toArray, List.set_cons_zero, List.set_cons_succ]
            refine wpAny_take (i := 5) (oi := ⟨some 70, _, _, _, _, _⟩) (v := ?_) rfl (by kernel_rfl) (by kernel_rfl) (by kernel_rfl) (fun _ _ _ h => h) (Or.inl ⟨by rfl, by intro w; go_simp; try rfl⟩) ?_
            try simp only [Act.put, List.setIfInBounds_toArray, List.set_cons_zero, List.set_cons_succ]
            refine wpAny_ready (rs := [6]) (by kernel_rfl) (by simp) ?_
            refine AllReady.cons (o := ⟨some 71, _, _, _, _, _⟩) rfl (fun K hK => ?_) AllReady.nil
            go_simp
            refine (load_any b ad t wS (HBl.out _ (HBw.out.trans (hB9.mono HBw.out.size)))).mono ?_
            rintro e w61 ⟨rfl, rfl⟩
            refine hK _ _ ?_
            clear hK K
            try simp only [Act.put, List.setIfInBounds_toArray, List.set_cons_zero, List.set_cons_succ]
            refine wpAny_ready (rs := [7]) (by kernel_rfl) (by simp) ?_
            refine AllReady.cons (o := ⟨some 72, _, _, _, _, _⟩) rfl (fun K hK => ?_) AllReady.nil
            go_simp
            refine (store_any g _ (cpS t 2) w61 (HQ.out _ hB9).blk (t.reads : Int)).mono ?_
            rintro e w62 ⟨rfl, hw9⟩
            have HF : Kp (Parts w62 Oc (Or2 M Oc) g ⟨ms, none, u0, u1, vt⟩ { t with lies := fun _ => none, nl := 0 } p' L') := ⟨by rw [hw9]; exact (HQ.out _ hB9).own2 (Only.setCell w61 ⟨g, 7, none⟩ (.int .i64 (t.reads : Int))) ((HQ.out _ hB9).blk.set 7 (.int .i64 (t.reads : Int))) rfl rfl rfl rfl rfl (HQ.out _ hB9).seal0 (HQ.out _ hB9).seal1 rfl rfl rfl (HQ.out _ hB9).pow (HQ.out _ hB9).num HP.out.read⟩
            have HFB : Kp (Below w.heap.size w w62) := ⟨by rw [hw9]; exact (HBw.out.trans (hB9.mono HBw.out.size)).trans ((Only.setCell w61 ⟨g, 7, none⟩ (.int .i64 (t.reads : Int))).below (by show w.heap.size ≤ g; exact HO.out g (HQ.out _ hB9).ob))⟩
            clear hw9 hB9 HQ HBw
            refine hK _ _ ?_
            clear hK K
            try simp only [Act.put, List.setIfInBounds_toArray, List.set_cons_zero, List.set_cons_succ]
            refine wpAny_done (by kernel_rfl) ?_ _
            obtain ⟨wf, hwf⟩ : ∃ x, x = w62 := ⟨_, rfl⟩
            rw [← hwf] at HF HFB ⊢
            clear hwf
            have c8 := (HC0.out wf HFB.out).2.2
            cases hml : ad.ml with
            | none =>
              rw [hml] at c8
              have hno : ∀ z, okI z → t.lies z = none := by
                rcases HP.out.lies with ⟨_, h2⟩ | ⟨_, _, _, h1, _⟩
                · exact h2
                · rw [hml] at h1; cases h1
              have HNo : Kp _ := ⟨hno⟩
              have hrg := run_range_nilMap (P := Try.prog) wf 73 3 22 Try.underlying73
              have hnx : ∀ ty, (Instr.next (.pointer (some ⟨wf.heap.size, 0, none⟩)) false ty).run Try.prog (wf.alloc (.mapIter none 0 #[] 0)) = _ := fun ty => run_next_nilMap _ ty 0 0 #[]
              clear hno
              go_wp2
              refine wp_loop_rounds 1 ?_
              rw [rounds_succ]
              go_wp2
              go_ret
              have hb9 : Below wf.heap.size wf (wf.alloc (.mapIter none 0 #[] 0)) := (Below.refl _ _).alloc (Nat.le_refl _) _
              refine ⟨_, rfl, HFB.out.trans (hb9.mono HFB.out.size), Oc, _, p', L', (HF.out.fin (lies' := cutL t) (n' := t.nl) (fun z hz => ?_) (Nat.zero_le _)).below hb9, HO.out⟩
              unfold cutL
              split
              · exact HNo.out z hz
              · rfl
            | some gl =>
              rw [hml] at c8
              obtain ⟨m, fl, hOg, hI, hm, hlf⟩ : ∃ m fl, O gl ∧ MapI w Try.prog 3 kvI okI gl m fl ∧ m ≤ t.nl ∧ ∀ z, okI z → LieAt w M (fl z) (t.lies z) := by
                rcases HP.out.lies with ⟨h1, _⟩ | ⟨g', m1, f1, h1, h2, h3, h4, h5⟩
                · rw [hml] at h1; cases h1
                · rw [hml] at h1
                  obtain rfl := Option.some.inj h1
                  exact ⟨m1, f1, h2, h3, h4, h5⟩
              have HM : Kp _ := ⟨hI.stay (HFB.out.block gl hI.lt)⟩
              have HLf : Kp (m ≤ t.nl ∧ gl < w.heap.size ∧ ∀ z, okI z → LieAt w M (fl z) (t.lies z)) := ⟨hm, hI.lt, hlf⟩
              clear hOg hI hm hlf hml
              go_wp2_with (at_range; refine wpList_rangeI (o := ⟨some 77, _, _, _, _, _⟩) HM.out keyI rfl (.tmp 76) 73 rfl _ Try.underlying73 rfl ?_)
              intro w1 hr1 hg1 hs1
              obtain ⟨r2, hr2⟩ : ∃ r, r = wf.heap.size := ⟨_, rfl⟩
              rw [← hr2] at hr1 ⊢
              have HLs : Kp (∀ z, okI z → (fl z).isSome = (t.lies z).isSome) := ⟨fun z hz => by
                have h9 := HLf.out.2.2 z hz
                cases h1 : fl z <;> cases h2 : t.lies z <;> rw [h1, h2] at h9 <;> first | rfl | exact h9.elim⟩
              have H1 : Kp (∃ todo cnt, CpL w w1 M t g gl r2 m fl todo cnt) := ⟨_, _, CpL.start HF.out HFB.out HO.out hr2 hg1 hs1 hr1 HLf.out.2.1 HLs.out⟩
              clear hr1 hg1 hs1 hr2 HM HF HFB c8 HLs
              go_wp2
              go_loopw [78] (fun _ wy => Kp (∃ todo cnt, CpL w wy M t g gl r2 m fl todo cnt)) (fun _ wy => wy.rangeLeft gl r2)
              case atStart => exact H1
              case round =>
                clear H1
                obtain ⟨todo, cnt, hC⟩ := hrel.out
                have HC : Kp _ := ⟨hC⟩
                have HR : Kp _ := ⟨hC.rng⟩
                clear hC hrel
                go_wp2_with (at_next; refine wpList_nextI (o := ⟨some 78, _, _, _, _, _⟩) HR.out keyI invI rfl (.tmp 77) rfl rfl ?_ ?_)
                · intro h0 hdone
                  go_wp2
                  go_ret
                  exact ⟨_, rfl, HC.out.below, HC.out.done hdone HLf.out.1⟩
                · intro x v w2 cnt2 hx htd hfx hR2 hlt hg2 hs2 hen
                  obtain ⟨l, hl, hBv⟩ : ∃ l, t.lies x = some l ∧ BsV w M v l := by
                    have h9 := HLf.out.2.2 x hx
                    rw [hfx] at h9
                    cases h1 : t.lies x with
                    | none => rw [h1] at h9; exact h9.elim
                    | some l => rw [h1] at h9; exact ⟨l, rfl, h9⟩
                  obtain ⟨Al, nl, dl, rfl, hBl⟩ := hBv
                  obtain ⟨O', ad', LF, n', p2, L2, hPn, hn', hM', hB2, hNx⟩ := HC.out.next hx htd hR2 hlt hg2 hs2
                  have HPn : Kp _ := ⟨hPn⟩
                  have HNx : Kp _ := ⟨hNx⟩
                  have HBv : Kp _ := ⟨hBl.chg (S := fun _ => False) (Chg.of_below _ hB2) (fun _ h => h.elim) hM'⟩
                  have HX : Kp (okI x ∧ cnt2 + 1 = cnt ∧ t.lies x = some l ∧ n' ≤ m) := ⟨hx, hlt, hl, hn'⟩
                  clear hx htd hfx hR2 hlt hg2 hs2 hl hBl hPn hn' hM' hB2 hNx
                  simp only [kvI] at hen ⊢
                  go_wp2_with fail
                  refine (lie_any HPn.out x HX.out.1 Al nl dl l HBv.out (by show n' ≤ 1000000; have := HX.out.2.2.2; have := HLf.out.1; have := HNl.out; omega)).mono ?_
                  rintro e w3 ⟨rfl, ad3, O3, hP3, hN3⟩
                  have HC3 : Kp _ := ⟨HNx.out w3 ad3 O3 l HX.out.2.2.1 hP3 hN3⟩
                  clear hP3 hN3 HNx HPn HBv
                  go_wp2_with fail
                  go_roundw
                  case rel => exact ⟨_, cnt2, HC3.out⟩
                  case measure => rw [HC3.out.rng.left, HR.out.left]; have := HX.out.2.1; omega
      · intro x1 x2 v w2 cnt2 hx htd hfx hR2 hlt hg2 hs2 hen
        obtain ⟨x, hxe⟩ : ∃ x : Int × Int, x = (x1, x2) := ⟨_, rfl⟩
        rw [← hxe] at hx htd hfx hR2 hen ⊢
        clear hxe
        rw [HF.out x] at hfx
        cases hpx : p x with
        | none => rw [hpx] at hfx; cases hfx
        | some gx =>
          obtain rfl : ptr gx = v := by rw [hpx] at hfx; exact Option.some.inj hfx
          have HR2 : Kp _ := ⟨hR2⟩
          have hri := HR.out.iter
          have HC2 : Kp _ := ⟨HC.out.iter hg2 hri HRr.out⟩
          have HX : Kp (okP x ∧ cnt2 + 1 = cnt ∧ todo x = true) := ⟨hx, hlt, htd⟩
          have HBx : Kp _ := ⟨(HP.out.slots.blk x gx hpx).below HC2.out.below (HP.out.slots.blk x gx hpx).lt⟩
          have HLx : Kp ((cells8 (t.sl x)).length = 272) := ⟨by rw [cells8_length]; exact HP.out.slots.len x gx hpx⟩
          have HZp : Kp (zeroPl.length = 2 ∧ ([.int .i64 x.1, .int .i64 x.2] : List Value).length = 2) := ⟨rfl, rfl⟩
          have HOp : Kp (∀ u ∈ ([.int .i64 x.1, .int .i64 x.2] : List Value), u.oneCell' = true) := ⟨fun u hu => by simp at hu; rcases hu with rfl | rfl <;> rfl⟩
          have HZc : Kp ((cells8 z272).length = 272) := ⟨by rw [cells8_length]; simp [z272]⟩
          have HOc : Kp _ := ⟨cells8_one (t.sl x)⟩
          have HPx : Kp (p x = some gx) := ⟨hpx⟩
          clear hR2 hri hx hlt hg2 hs2 htd hfx hpx
          simp only [kvP, ptr] at hen ⊢
          go_wp2_with (with_reducible refine wpList_alloc (o := ⟨some 4, _, _, _, _, _⟩) tyPl rfl rfl ?_)
          intro w3 hk3 hb3 hs3
          have HK3 : Kp _ := ⟨And.intro hk3 hb3⟩
          clear hk3 hb3 hs3 hen
          go_wp2_with (with_reducible refine wpList_storeAll (o := ⟨none, _, _, _, _, _⟩) (vs := [.int .i64 x.1, .int .i64 x.2]) rwPl rfl (.tmp 4) (.tmp 39) rfl rfl HK3.out.1 HZp.out.1 HZp.out.2 HOp.out rfl ?_)
          intro w4 hk4 ho4
          have hb4 : Below w2.heap.size w2 w4 := HK3.out.2.trans (ho4.below (Nat.le_refl _))
          obtain ⟨g4, hg4⟩ : ∃ g, g = w2.heap.size := ⟨_, rfl⟩
          rw [← hg4] at hk4 ⊢
          have HK4 : Kp _ := ⟨hk4⟩
          have HB4 : Kp (g4 = w2.heap.size ∧ Below w2.heap.size w2 w4) := ⟨hg4, hb4⟩
          have HBx4 : Kp _ := ⟨HBx.out.below hb4 HBx.out.lt⟩
          clear hk4 ho4 hb4 hg4 HK3 HBx
          go_wp2_with (first | (with_reducible refine wpList_loadAll (o := ⟨some 43, _, _, _, _, _⟩) rwCo rfl (.tmp 42) rfl rfl HBx4.out HLx.out ?_) | (with_reducible refine wpList_alloc (o := ⟨some 6, _, _, _, _, _⟩) tyCo rfl rfl ?_))
          intro w6 hk6 hb6 hs6
          have HK6 : Kp _ := ⟨And.intro hk6 hb6⟩
          clear hk6 hb6 hs6
          go_wp2_with (with_reducible refine wpList_storeAll (o := ⟨none, _, _, _, _, _⟩) (vs := cells8 (t.sl x)) rwCo rfl (.tmp 6) (.tmp 43) rfl rfl HK6.out.1 HZc.out HLx.out HOc.out rfl ?_)
          intro w7 hk7 ho7
          have hb7 : Below w4.heap.size w4 w7 := HK6.out.2.trans (ho7.below (Nat.le_refl _))
          have hge : w2.heap.size ≤ w4.heap.size := HB4.out.2.size
          have HB7 : Kp (Below w2.heap.size w2 w7) := ⟨HB4.out.2.trans (hb7.mono hge)⟩
          have HK7p : Kp _ := ⟨HK4.out.below hb7 HK4.out.lt⟩
          obtain ⟨g6, hg6⟩ : ∃ g, g = w4.heap.size := ⟨_, rfl⟩
          rw [← hg6] at hk7 hge ⊢
          have HK7 : Kp _ := ⟨hk7⟩
          have HGe : Kp (w2.heap.size ≤ g6) := ⟨hge⟩
          clear hk7 ho7 hb7 hge hg6 HK6 HBx4 HK4 HB4
          have hB7 := HB7.out
          clear HB7
          go_wp2_with fail
          refine wp_region_any (by kernel_rfl) ?_
          change wpAny _ _ _ _ _ _ _ w7.drew
          replace HK7 : Kp _ := ⟨HK7.out.drew⟩
          replace HK7p : Kp _ := ⟨HK7p.out.drew⟩
          replace hB7 := hB7.drew
          generalize w7.drew = wS at *
          refine wpAny_take (i := 0) (oi := ⟨some 44, _, _, _, _, _⟩) (v := ?_) rfl (by kernel_rfl) (by kernel_rfl) (by kernel_rfl) (fun _ _ _ h => h) (Or.inl ⟨by rfl, by intro w; go_simp; try rfl⟩) ?_
          try simp only [Act.put, List.setIfInBounds_toArray, List.set_cons_zero, List.set_cons_succ]
          refine wpAny_take (i := 1) (oi := ⟨some 45, _, _, _, _, _⟩) (v := ?_) rfl (by kernel_rfl) (by kernel_rfl) (by kernel_rfl) (fun _ _ _ h => h) (Or.inl ⟨by rfl, by intro w; go_simp; try rfl⟩) ?_
          try simp only [Act.put, List.setIfInBounds_toArray, List.set_cons_zero, List.set_cons_succ]
          refine wpAny_take (i := 2) (oi := ⟨some 46, _, _, _, _, _⟩) (v := ?_) rfl (by kernel_rfl) (by kernel_rfl) (by kernel_rfl) (fun _ _ _ h => h) (Or.inl ⟨by rfl, by intro w; go_simp; try rfl⟩) ?_
          try simp only [Act.put, List.setIfInBounds_toArray, List.set_cons_zero, List.set_cons_succ]
          refine wpAny_ready (rs := [3, 4]) (by kernel_rfl) (by simp) ?_
          refine AllReady.cons (o := ⟨some 47, _, _, _, _, _⟩) rfl (fun K hK => ?_) (AllReady.cons (o := ⟨some 48, _, _, _, _, _⟩) rfl (fun K hK => ?_) AllReady.nil)
          · have c := (HC2.out.stay hB7).world.cell? 0
            have c0 : wS.cell? ⟨g, 0, none⟩ = some (.map (some ms)) := by exact c
            go_simp
            refine hK _ _ ?_
            clear hK K c c0
            try simp only [Act.put, List.setIfInBounds_toArray, List.set_cons_zero, List.set_cons_succ]
            refine wpAny_ready (rs := [4]) (by kernel_rfl) (by simp) ?_
            refine AllReady.cons (o := ⟨some 48, _, _, _, _, _⟩) rfl (fun K hK => ?_) AllReady.nil
            refine step_load rwPl rfl (.tmp 4) rfl rfl HK7p.out (by simp) (vs := [.int .i64 x.1, .int .i64 x.2]) rfl ?_
            refine hK _ _ ?_
            clear hK K
            try simp only [Act.put, List.setIfInBounds_toArray, List.set_cons_zero, List.set_cons_succ]
            refine wpAny_ready (rs := [5]) (by kernel_rfl) (by simp) ?_
            refine AllReady.cons (o := ⟨none, _, _, _, _, _⟩) rfl (fun K hK => ?_) AllReady.nil
            have HC7 := HC2.out.stay hB7
            have hnone : p' x = none := by have h1 := HD.out x HX.out.1; rw [HX.out.2.2] at h1; simpa using h1
            refine step_storeI HC7.map keyP rfl (.tmp 47) (.tmp 48) (.tmp 6) rfl Try.underlying64 (by have := HN.out; have := HP.out.big; simp only [maxLen]; omega) rfl x HX.out.1 rfl rfl ?_
            intro w62 hI' ho'
            have HCn : Kp _ := ⟨HC2.out.store HX.out.1 hnone HGe.out hB7 HK7.out hI' ho'⟩
            have HRn : Kp (RngI w62 Try.prog 80 kvP okP ad.ms r (2 * t.n) f (fun y => todo y && !decide (y = x)) cnt2) := ⟨HR2.out.stay ((ho'.block _ (fun e => by have h1 := (HC7.own ms (.inr (.inl rfl))).1; have h2 := HP.out.slots.map.lt; rw [← e] at h1; omega)).trans (hB7.block _ HR2.out.map.lt)) ((ho'.block _ (IsIter.ne HR2.out.iter HC2.out.map.heap)).trans (hB7.block _ HR2.out.lt))⟩
            clear hI' ho' HC7 hnone
            refine hK _ _ ?_
            clear hK K
            try simp only [Act.put]
            refine wpAny_done (by kernel_rfl) ?_ _
            go_wp2_with fail
            go_roundw
            case rel =>
              refine ⟨_, cnt2, nn + 1, _, HRn.out, by have := HN.out; have := HX.out.2.1; omega, fun y hy => ?_, HCn.out⟩
              by_cases hyx : y = x
              · subst hyx; simp [HPx.out]
              · simp only [if_neg hyx, decide_eq_false hyx, Bool.not_false, Bool.and_true]; exact HD.out y hy
            case measure => rw [HRn.out.left, HR.out.left]; have := HX.out.2.1; omega
          · refine step_load rwPl rfl (.tmp 4) rfl rfl HK7p.out (by simp) (vs := [.int .i64 x.1, .int .i64 x.2]) rfl ?_
            refine hK _ _ ?_
            clear hK K
            try simp only [Act.put, List.setIfInBounds_toArray, List.set_cons_zero, List.set_cons_succ]
            refine wpAny_ready (rs := [3]) (by kernel_rfl) (by simp) ?_
            refine AllReady.cons (o := ⟨some 47, _, _, _, _, _⟩) rfl (fun K hK => ?_) AllReady.nil
            have c := (HC2.out.stay hB7).world.cell? 0
            have c0 : wS.cell? ⟨g, 0, none⟩ = some (.map (some ms)) := by exact c
            go_simp
            refine hK _ _ ?_
            clear hK K c c0
            try simp only [Act.put, List.setIfInBounds_toArray, List.set_cons_zero, List.set_cons_succ]
            refine wpAny_ready (rs := [5]) (by kernel_rfl) (by simp) ?_
            refine AllReady.cons (o := ⟨none, _, _, _, _, _⟩) rfl (fun K hK => ?_) AllReady.nil
            have HC7 := HC2.out.stay hB7
            have hnone : p' x = none := by have h1 := HD.out x HX.out.1; rw [HX.out.2.2] at h1; simpa using h1
            refine step_storeI HC7.map keyP rfl (.tmp 47) (.tmp 48) (.tmp 6) rfl Try.underlying64 (by have := HN.out; have := HP.out.big; simp only [maxLen]; omega) rfl x HX.out.1 rfl rfl ?_
            intro w64 hI' ho'
            have HCn : Kp _ := ⟨HC2.out.store HX.out.1 hnone HGe.out hB7 HK7.out hI' ho'⟩
            have HRn : Kp (RngI w64 Try.prog 80 kvP okP ad.ms r (2 * t.n) f (fun y => todo y && !decide (y = x)) cnt2) := ⟨HR2.out.stay ((ho'.block _ (fun e => by have h1 := (HC7.own ms (.inr (.inl rfl))).1; have h2 := HP.out.slots.map.lt; rw [← e] at h1; omega)).trans (hB7.block _ HR2.out.map.lt)) ((ho'.block _ (IsIter.ne HR2.out.iter HC2.out.map.heap)).trans (hB7.block _ HR2.out.lt))⟩
            clear hI' ho' HC7 hnone
            refine hK _ _ ?_
            clear hK K
            try simp only [Act.put]
            refine wpAny_done (by kernel_rfl) ?_ _
            go_wp2_with fail
            go_roundw
            case rel =>
              refine ⟨_, cnt2, nn + 1, _, HRn.out, by have := HN.out; have := HX.out.2.1; omega, fun y hy => ?_, HCn.out⟩
              by_cases hyx : y = x
              · subst hyx; simp [HPx.out]
              · simp only [if_neg hyx, decide_eq_false hyx, Bool.not_false, Bool.and_true]; exact HD.out y hy
            case measure => rw [HRn.out.left, HR.out.left]; have := HX.out.2.1; omega
end
end Go.Proofs.Ytpbpegoobgfjcaa
