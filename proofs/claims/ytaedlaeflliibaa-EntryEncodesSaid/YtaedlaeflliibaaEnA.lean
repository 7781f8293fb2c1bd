/- The document's Decode, over lists: which bytes it takes, said piece by piece; and the document's Get. -/
import Derived.Test.YtaedlaeflliibaaEl
import Derived.Test.YtaedlaeflliibaaPure
import Derived.Test.YtaedlaeflliibaaEnZ
namespace Go.Proofs.Ytaedlaeflliibaa
open Go.RowKit Go.Deep

/-- the k-th piece is whole, its name no longer than may be, with noughts behind -/
def chk (b : List UInt8) (k : Nat) : Bool :=
  decide (32 * k + 32 ≤ b.length) && (decide ((b.getD (32 * k) 0).toNat ≤ 27) && (List.range (27 - (b.getD (32 * k) 0).toNat)).all fun t => b.getD (32 * k + 1 + (b.getD (32 * k) 0).toNat + t) 0 == 0)
def refOk (b : List UInt8) : Bool := (List.range (pcs b.length)).all (chk b) && rightE (entsE b)
theorem getN_one (h : UInt8) : getN [h] = h.toNat := by simp [getN]
theorem ofNat_le (h : UInt8) (q : Nat) (hq : q ≤ 27) : UInt8.ofNat q = h ↔ h.toNat = q := by
  constructor
  · intro e; rw [← e, ofNat_toNat]; omega
  · intro e; rw [← e]; exact UInt8.ofNat_toNat
theorem zeros_drop {u : List UInt8} {q : Nat} (hu : u.length = 27) (hq : q ≤ 27) : padL (u.take q) 27 = u ↔ ∀ t, t < 27 - q → u.getD (q + t) 0 = 0 := by
  have hl : (u.take q).length = q := by simp; omega
  have e1 : padL (u.take q) 27 = u.take q ++ List.replicate (27 - q) 0 := by unfold padL; rw [hl]; rfl
  rw [e1]
  constructor
  · intro e t ht
    rw [← e, List.getD_eq_getElem?_getD, List.getElem?_append_right (by omega), hl, List.getElem?_replicate, if_pos (by omega)]
    rfl
  · intro h
    conv => rhs; rw [← List.take_append_drop q u]
    congr 1
    refine List.ext_getElem (by simp; omega) fun t h1 h2 => ?_
    have ht : t < 27 - q := by simpa using h1
    have := h t ht
    rw [List.getD_eq_getElem?_getD, List.getElem?_eq_getElem (by omega)] at this
    simp only [List.getElem_replicate, List.getElem_drop]
    exact this.symm
theorem chk_core (h : UInt8) (u v : List UInt8) (hu : u.length = 27) (hv : v.length = 4) : enc1 (rd1 (h :: (u ++ v))) = h :: (u ++ v) ↔ (h.toNat ≤ 27 ∧ ∀ t, t < 27 - h.toNat → u.getD (h.toNat + t) 0 = 0) := by
  have e1 : rd1 (h :: (u ++ v)) = (u.take (min h.toNat 27), (getN v : Int)) := by
    unfold rd1
    have d1 : (h :: (u ++ v)).drop 1 = u ++ v := rfl
    have d2 : (h :: (u ++ v)).drop 28 = v := by
      rw [show (28 : Nat) = 27 + 1 from rfl, List.drop_succ_cons, List.drop_append_of_le_length (by omega), List.drop_of_length_le (by omega), List.nil_append]
    have d3 : (h :: (u ++ v)).take 1 = [h] := rfl
    rw [d1, d2, d3, getN_one, List.take_append_of_le_length (by omega), List.take_of_length_le (l := u) (by omega), List.take_of_length_le (l := v) (by omega)]
  have hl : (u.take (min h.toNat 27)).length = min h.toNat 27 := by simp; omega
  have e2 : enc1 (rd1 (h :: (u ++ v))) = UInt8.ofNat (min h.toNat 27) :: (padL (u.take (min h.toNat 27)) 27 ++ v) := by
    rw [e1]
    unfold enc1
    have e3 : putN (getN v) 4 = v := by have := putN_getN v; rwa [hv] at this
    simp only [Int.toNat_natCast]
    rw [e3, hl]
    rfl
  have e4 : (UInt8.ofNat (min h.toNat 27) :: (padL (u.take (min h.toNat 27)) 27 ++ v) = h :: (u ++ v)) ↔ (UInt8.ofNat (min h.toNat 27) = h ∧ padL (u.take (min h.toNat 27)) 27 = u) := by
    rw [List.cons.injEq]
    refine and_congr_right fun _ => ⟨fun e => List.append_cancel_right e, fun e => by rw [e]⟩
  rw [e2, e4]
  by_cases h27 : h.toNat ≤ 27
  · rw [show min h.toNat 27 = h.toNat by omega, zeros_drop hu h27]
    exact ⟨fun x => ⟨h27, x.2⟩, fun x => ⟨UInt8.ofNat_toNat, x.2⟩⟩
  · constructor
    · intro x
      have := (ofNat_le h (min h.toNat 27) (by omega)).1 x.1
      omega
    · intro x; exact absurd x.1 h27
theorem pc_parts {b : List UInt8} {k : Nat} (h : 32 * k + 32 ≤ b.length) : ∃ (c : UInt8) (u v : List UInt8), pcOf b k = c :: (u ++ v) ∧ u.length = 27 ∧ v.length = 4 ∧ c = b.getD (32 * k) 0 ∧ (∀ t, t < 27 → u.getD t 0 = b.getD (32 * k + 1 + t) 0) ∧
    u = (b.drop (32 * k + 1)).take 27 ∧ v = (b.drop (32 * k + 28)).take 4 := by
  refine ⟨b.getD (32 * k) 0, (b.drop (32 * k + 1)).take 27, (b.drop (32 * k + 28)).take 4, ?_, by simp; omega, by simp; omega, rfl, fun t ht => ?_, rfl, rfl⟩
  · unfold pcOf
    have h0 : 32 * k < b.length := by omega
    rw [List.drop_eq_getElem_cons h0, List.take_succ_cons, List.getD_eq_getElem?_getD, List.getElem?_eq_getElem h0]
    congr 1
    rw [show (31 : Nat) = 27 + 4 from rfl, List.take_add, List.drop_drop]
  · rw [List.getD_eq_getElem?_getD, List.getD_eq_getElem?_getD, List.getElem?_take_of_lt ht, List.getElem?_drop]
theorem chk_iff {b : List UInt8} {k : Nat} (h : 32 * k + 32 ≤ b.length) : chk b k = true ↔ enc1 (rd1 (pcOf b k)) = pcOf b k := by
  obtain ⟨c, u, v, e, hu, hv, hc, hg, _, _⟩ := pc_parts h
  rw [e, chk_core c u v hu hv]
  unfold chk
  rw [← hc, decide_eq_true h]
  simp only [Bool.true_and, Bool.and_eq_true, decide_eq_true_eq, List.all_eq_true, List.mem_range, beq_iff_eq]
  constructor
  · intro ⟨h1, h2⟩
    exact ⟨h1, fun t ht => (hg _ (by omega)).trans ((congrArg (fun i => b.getD i 0) (by omega)).trans (h2 t ht))⟩
  · intro ⟨h1, h2⟩
    exact ⟨h1, fun t ht => (congrArg (fun i => b.getD i 0) (by omega)).trans ((hg _ (by omega)).symm.trans (h2 t ht))⟩
theorem flat_pc (b : List UInt8) : ∀ m, ((List.range m).map (pcOf b)).flatten = b.take (32 * m)
  | 0 => by simp
  | m + 1 => by
    rw [List.range_succ, List.map_append, List.flatten_append, flat_pc b m, show 32 * (m + 1) = 32 * m + 32 by omega, List.take_add]
    simp [pcOf]
theorem pc_len32 {b : List UInt8} {k : Nat} (h : 32 * k + 32 ≤ b.length) : (pcOf b k).length = 32 := by rw [pcOf_len]; unfold pcl; omega
theorem refOk_eq (b : List UInt8) : refOk b = decOk b := by
  have e : (refOk b = true) ↔ (decOk b = true) := by
    unfold refOk decOk
    simp only [Bool.and_eq_true, decide_eq_true_eq, List.all_eq_true, List.mem_range, beq_iff_eq]
    constructor
    · intro ⟨h1, h2⟩
      have hle : ∀ k, k < pcs b.length → 32 * k + 32 ≤ b.length := fun k hk => by
        have := h1 k hk
        unfold chk at this
        simp only [Bool.and_eq_true, decide_eq_true_eq] at this
        exact this.1
      have h32 : b.length % 32 = 0 := by
        by_cases h0 : b.length % 32 = 0
        · exact h0
        · have := hle (b.length / 32) (by unfold pcs; omega)
          omega
      refine ⟨⟨h32, h2⟩, ?_⟩
      unfold encL entsE entsK
      rw [List.map_map]
      have : (List.range (pcs b.length)).map (enc1 ∘ fun j => rdE (pcOf b j)) = (List.range (pcs b.length)).map (pcOf b) := by
        refine List.map_congr_left fun k hk => ?_
        have hk' := List.mem_range.1 hk
        have h3 := hle k hk'
        have h4 := (chk_iff h3).1 (h1 k hk')
        simp only [Function.comp]
        unfold rdE
        rw [if_pos (pc_len32 h3), h4]
      rw [this, flat_pc, List.take_of_length_le (by unfold pcs; omega)]
    · intro ⟨⟨h32, h2⟩, h3⟩
      refine ⟨fun k hk => ?_, h2⟩
      have hle : 32 * k + 32 ≤ b.length := by unfold pcs at hk; omega
      refine (chk_iff hle).2 ?_
      have hb : ∀ x ∈ entsE b, x.1.length ≤ 27 := fun x hx => (okE_b ((right_all h2).2 x hx)).1
      have hkl : k < (entsE b).length := by unfold entsE; rw [entsK_len]; exact hk
      have h4 := pcOf_enc hb hkl
      have h5 : (entsE b)[k] = rdE (pcOf b k) := by simp [entsE, entsK]
      rw [h3, h5] at h4
      unfold rdE at h4
      rw [if_pos (pc_len32 hle)] at h4
      exact h4.symm
  cases h : refOk b with
  | true => exact (e.1 h).symm
  | false => cases h2 : decOk b with
             | true => exact absurd (e.2 h2) (by rw [h]; decide)
             | false => rfl
theorem chk_no {b : List UInt8} {k : Nat} (hk : k < pcs b.length) (h : chk b k = false) : refOk b = false := by
  unfold refOk
  have : (List.range (pcs b.length)).all (chk b) = false := List.all_eq_false.2 ⟨k, List.mem_range.2 hk, by rw [h]; decide⟩
  rw [this]; rfl
theorem chk_yes {b : List UInt8} (h : ∀ k, k < pcs b.length → chk b k = true) : refOk b = rightE (entsE b) := by
  unfold refOk
  have : (List.range (pcs b.length)).all (chk b) = true := List.all_eq_true.2 fun k hk => h k (List.mem_range.1 hk)
  rw [this]; rfl
theorem chk_short {b : List UInt8} {k : Nat} (h : b.length < 32 * k + 32) : chk b k = false := by
  unfold chk; rw [decide_eq_false (by omega)]; rfl
theorem chk_wide {b : List UInt8} {k : Nat} (h : 27 < (b.getD (32 * k) 0).toNat) : chk b k = false := by
  unfold chk; rw [decide_eq_false (p := _ ≤ 27) (by omega)]; simp
theorem chk_more {b : List UInt8} {k t : Nat} (ht : t < 27 - (b.getD (32 * k) 0).toNat) (h : b.getD (32 * k + 1 + (b.getD (32 * k) 0).toNat + t) 0 ≠ 0) : chk b k = false := by
  unfold chk
  have : (List.range (27 - (b.getD (32 * k) 0).toNat)).all (fun t => b.getD (32 * k + 1 + (b.getD (32 * k) 0).toNat + t) 0 == 0) = false := List.all_eq_false.2 ⟨t, List.mem_range.2 ht, by simpa using h⟩
  rw [this]; simp
theorem chk_all {b : List UInt8} {k : Nat} (hl : 32 * k + 32 ≤ b.length) (h27 : (b.getD (32 * k) 0).toNat ≤ 27) (h : ∀ t, t < 27 - (b.getD (32 * k) 0).toNat → b.getD (32 * k + 1 + (b.getD (32 * k) 0).toNat + t) 0 = 0) : chk b k = true := by
  unfold chk
  rw [decide_eq_true hl, decide_eq_true h27]
  simp only [Bool.true_and, List.all_eq_true, List.mem_range, beq_iff_eq]
  exact h
/-- what the piece tells, as the document's Decode reads it -/
theorem rd_ref {b : List UInt8} {k : Nat} (hl : 32 * k + 32 ≤ b.length) (h27 : (b.getD (32 * k) 0).toNat ≤ 27) :
    rdE (pcOf b k) = ((b.take (32 * k + 1 + (b.getD (32 * k) 0).toNat)).drop (32 * k + 1), ((getN ((b.take (32 * k + 32)).drop (32 * k + 28)) : Nat) : Int)) := by
  obtain ⟨c, u, v, e, hu, hv, hc, _, eu, ev⟩ := pc_parts hl
  have h32 := pc_len32 hl
  unfold rdE
  rw [if_pos h32, e, ← hc]
  rw [← hc] at h27
  unfold rd1
  have d1 : (c :: (u ++ v)).drop 1 = u ++ v := rfl
  have d2 : (c :: (u ++ v)).drop 28 = v := by
    rw [show (28 : Nat) = 27 + 1 from rfl, List.drop_succ_cons, List.drop_append_of_le_length (by omega), List.drop_of_length_le (by omega), List.nil_append]
  have d3 : (c :: (u ++ v)).take 1 = [c] := rfl
  rw [d1, d2, d3, getN_one, List.take_append_of_le_length (by omega), List.take_of_length_le (l := u) (by omega), List.take_of_length_le (l := v) (by omega), show min c.toNat 27 = c.toNat by omega]
  congr 1
  · rw [eu, List.take_take, show min c.toNat 27 = c.toNat by omega, List.drop_take]
    congr 1; omega
  · rw [ev, List.drop_take, show 32 * k + 32 - (32 * k + 28) = 4 by omega]
section
variable {ops : Array Oper} {op : Oper} {a : Act} {S : World → Prop}
/-- x[i:k] of bytes, where the order is drawn -/
theorem yieldsIf_cut_lh (hw : Region.wanted op (yielded ops a.tmps) = true) (x lo hi : Operand) (ho : op.op = .slice 23 x (some lo) (some hi) none)
    {A : Option Addr} {n c : Nat} (hx : a.eval x = .slice A n c) {I J : Int} (hlo : a.eval lo = .int .i64 I) (hhi : a.eval hi = .int .i64 J) (i k : Nat) (hI : I = i) (hJ : J = k) (hik : i ≤ k) (hk : k ≤ c) {A' : Option Addr} {n' c' : Nat} (hA' : (if c = i then A else A.map (·.add i)) = A') (hn' : k - i = n') (hc' : c - i = c') :
    YieldsIf Try.prog ops S op (.slice A' n' c') a := by
  subst hI hJ hA' hn' hc'
  refine .inl ⟨hw, fun w _ => ?_⟩
  have hrun := run_slice_lh (P := Try.prog) (w := w) 23 A n c el8.ty' .i64 .i64 (i : Int) (k : Int) (by omega) (by omega) (by omega)
  rw [el8.sizeOf] at hrun
  unfold execOp
  simp [ho, hx, hlo, hhi, run_sliceAt_slice (P := Try.prog) (w := w) 23 _ _ _ _ el8.ty', hrun, Result.andThen, sliced]
theorem yieldsIf_text (hw : Region.wanted op (yielded ops a.tmps) = true) (x : Operand) (ho : op.op = .convert 23 9 x) {A : Option Addr} {n c : Nat} (hx : a.eval x = .slice A n c) {L : Nat} {l : List UInt8} (hS : ∀ W, S W → Bs W L A n c l) :
    YieldsIf Try.prog ops S op (.string ⟨l.toArray⟩) a :=
  .inl ⟨hw, fun w h => by
    have hr := (hS w h).text (P := Try.prog) Try.underlying23 Try.underlying5 Try.underlying9
    unfold execOp
    simp only [ho, hx, Sem.run_bind, hr, Result.andThen_ok, Sem.run_pure]⟩
theorem yieldsIf_buildE (hw : Region.wanted op (yielded ops a.tmps) = true) {t : TypeId} (i j : Nat) (x y : Operand) (ho : op.op = .build t #[(i, x), (j, y)]) {v u : Value} (hx : a.eval x = v) (hy : a.eval y = u) {cs : List Value} (hb : (Try.prog).built t [(i, v), (j, u)] = some cs.toArray) : YieldsIf Try.prog ops S op (.agg cs.toArray) a :=
  .inl ⟨hw, fun w _ => by
    have hr := run_build (P := Try.prog) w t #[(i, v), (j, u)] cs.toArray (by simpa using hb)
    unfold execOp
    simp only [ho, Sem.run_bind, List.map_toArray, List.map_cons, List.map_nil, hx, hy, hr, Result.andThen_ok, Sem.run_pure]⟩
theorem step_appE {w : World} {K : Act → World → Prop} {C : Prop} {Q : Exit → Act → World → Prop} (hgd : op.guard = none) (s x : Operand)
    (ho : op.op = .call { callee := .builtin .append, args := #[s, x], argTypes := #[22, 22] })
    (base : Nat) (v : Value) (n : Nat) (L : List En) (hs : a.eval s = v) (hown : w.ownsRow base 39 2 v n (enCells L))
    (ad : Addr) (m c : Nat) (M : List En) (hx : a.eval x = .slice (some ad) m c) (hl : M.length = m)
    (hsrc : ∀ j u, (enCells M)[j]? = some u → w.cell? (ad.add j) = some u)
    (hbytes : n + m ≤ 5864062014805) (hbase : base ≤ w.heap.size)
    (h : ∀ v' w', w'.ownsRow base 39 2 v' (n + m) (enCells (L ++ M)) → Below base w w' → K (a.put op.dst v') w') :
    if Region.wanted op (yielded ops a.tmps) = true then Oper.wp Try.prog op a w K Q else C := by
  have hw : Region.wanted op (yielded ops a.tmps) = true := by simp [Region.wanted, hgd]
  rw [if_pos hw]
  obtain ⟨i, hi, hz, hsize, hby⟩ := infE
  obtain ⟨v', w', hrun, h2, h3, _, h5⟩ := run_append_own_at (P := Try.prog) w base 22 op.type 39 i _ 2 24 Try.underlying22 hi hz hsize hby rfl (by decide) v n _ hown ad m c (enCells M) (by rw [enCells_length, hl]) hsrc (enCells_one M) (by simp only [maxLen]; omega) (by omega) hbase
  unfold Oper.wp execOp
  simp only [ho, resolve, invoke, builtin, Sem.run_bind, Sem.run_pure, Result.andThen_ok, List.map_toArray, List.map_cons, List.map_nil, hs, hx, hrun]
  exact h v' w' (by rw [enCells_append]; exact h2) (below_of_grown2 hown hbase h3)
end
end Go.Proofs.Ytaedlaeflliibaa
