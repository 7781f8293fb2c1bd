/- WorldTears: the plain data; more on what methods do.
   WorldTraces: the plain data. -/
import Derived.Test.YtpbpegoobgfjcaaG10
import Derived.Test.YtpbpegoobgfjcaaG17
import Derived.Test.YtpbpegoobgfjcaaG01
namespace Go.Proofs.Ytpbpegoobgfjcaa
open Go.RowKit

section
variable {t : Wd} {x : Int × Int} {l : List UInt8}
theorem there_of (h0 : t.lost = false) (h1 : inR t.n x = true) : thereW t x = true := by unfold thereW; rw [h0, h1]; rfl
theorem there_lost (h0 : t.lost = true) : thereW t x = false := by unfold thereW; rw [h0]; rfl
theorem read_quiet (h0 : t.lost = false) (h1 : inR t.n x = true) (h2 : ∀ z, t.lies z = none) : readL t x = t.sl x := by
  unfold readL toldL
  rw [if_pos (there_of h0 h1), h2]; rfl
theorem readW_of (h : thereW t x = true) : readW t x = tellW t 1 x.1 x.2 (t.sl x) := by unfold readW; rw [if_pos h]
theorem lost_bump (h : t.lost = true) : bumpB t = false ∧ bumpW t = t := by unfold bumpB bumpW; rw [h, if_pos rfl]; exact ⟨rfl, rfl⟩
theorem lost_write (h : t.lost = true) : writeB t x = false ∧ writeW t x l = t := by unfold writeB writeW; rw [there_lost h]; exact ⟨rfl, if_neg (by decide)⟩
theorem lost_read (h : t.lost = true) : readL t x = [] ∧ readW t x = t := by unfold readL readW; rw [there_lost h]; exact ⟨if_neg (by decide), if_neg (by decide)⟩
theorem writeW_of (h : thereW t x = true) : writeW t x l = { layW { t with tr := t.tr ++ [⟨2, x.1, x.2, l⟩] } 272 with sl := fun y => if y = x then wroteL t x l else t.sl y } := by unfold writeW; rw [if_pos h]
theorem writeB_of (h : thereW t x = true) : writeB t x = decide (layK t 272 = 272) := by unfold writeB; rw [h]; rfl
/-- fields of what is written -/
theorem write_fields (h : thereW t x = true) : (writeW t x l).n = t.n ∧ (writeW t x l).lies = t.lies ∧ (writeW t x l).ctr = t.ctr ∧ (writeW t x l).reads = t.reads ∧ (writeW t x l).sl = fun y => if y = x then wroteL t x l else t.sl y := by
  rw [writeW_of h]
  obtain ⟨q1, _, _, _, q5, _, _, q8, q9, _⟩ := layW_same { t with tr := t.tr ++ [⟨2, x.1, x.2, l⟩] } 272
  exact ⟨q1, q5, q8, q9, rfl⟩
theorem write_power (h : thereW t x = true) : (writeW t x l).lim = (layW t 272).lim ∧ (writeW t x l).lost = (layW t 272).lost ∧ (writeW t x l).left = (layW t 272).left := by
  rw [writeW_of h]
  unfold layW
  by_cases hl : t.lim = true
  · by_cases hk : 272 ≤ t.left
    · simp [hl, hk]
    · simp [hl, hk]
  · simp [hl]
theorem lay_free (h : t.lim = false) (n : Nat) : layW t n = t ∧ layK t n = n := by unfold layW layK; rw [if_neg (by rw [h]; decide), if_neg (by rw [h]; decide)]; exact ⟨rfl, rfl⟩
theorem wrote_free (h : t.lim = false) (hs : (t.sl x).length = 272) : wroteL t x l = padL (l.take 272) 272 := by
  unfold wroteL laid
  rw [(lay_free h 272).2, List.take_of_length_le (by rw [pad272]; exact Nat.le_refl _), List.drop_of_length_le (by rw [hs]; exact Nat.le_refl _), List.append_nil]
end

theorem Bs.gat {w : World} {L : Nat} {A : Option Addr} {n c i : Nat} {l : List UInt8} (h : Bs w L A n c l) (hi : i < n) : ∃ b o, A = some ⟨b, o, none⟩ ∧ w.cell? ⟨b, o + i, none⟩ = some (.int .u8 ((l.getD i 0).toNat : Int)) := by
  obtain ⟨b, o, hA, _, hc⟩ := h.cell hi
  refine ⟨b, o, hA, ?_⟩
  rw [hc, List.getD_eq_getElem?_getD, List.getElem?_eq_getElem (by rw [h.len]; exact hi)]; rfl
theorem pad_get (l : List UInt8) (i : Nat) (hi : i < 272) : (padL (l.take 272) 272).getD i 0 = l.getD i 0 := by
  unfold padL
  rw [List.getD_eq_getElem?_getD, List.getD_eq_getElem?_getD]
  by_cases h : i < l.length
  · rw [List.getElem?_append_left (by rw [List.length_take]; omega), List.getElem?_take, if_pos hi]
  · rw [List.getElem?_append_right (by rw [List.length_take]; omega), List.getElem?_eq_none (l := l) (by omega), List.getElem?_replicate]
    split <;> rfl
theorem getD_past (l : List UInt8) (i : Nat) (h : l.length ≤ i) : l.getD i 0 = 0 := by rw [List.getD_eq_getElem?_getD, List.getElem?_eq_none h]; rfl
theorem laid_get (l old : List UInt8) (k i : Nat) (hl : k ≤ l.length) : (laid l old k).getD i 0 = if i < k then l.getD i 0 else old.getD i 0 := by
  unfold laid
  have hlen : (l.take k).length = k := by rw [List.length_take]; omega
  rw [List.getD_eq_getElem?_getD]
  by_cases h : i < k
  · rw [if_pos h, List.getElem?_append_left (by rw [hlen]; exact h), List.getElem?_take, if_pos h, List.getD_eq_getElem?_getD]
  · rw [if_neg h, List.getElem?_append_right (by rw [hlen]; omega), hlen, List.getElem?_drop, List.getD_eq_getElem?_getD]
    congr 2; omega

def wx : Int × Int := (1, 0)
def wy : Int × Int := (0, 0)
def wtT1 (la : List UInt8) : Wd := writeW (newW 2) wx la
def wtT2 (la : List UInt8) : Wd := readW (wtT1 la) wx
def wtT3 (la : List UInt8) (k : Nat) : Wd := armW (wtT2 la) (k : Int)
def wtT4 (la lb : List UInt8) (k : Nat) : Wd := writeW (wtT3 la k) wx lb
theorem inR2x : inR 2 wx = true := by decide
theorem inR2y : inR 2 wy = true := by decide
theorem wt_there0 : thereW (newW 2) wx = true := by decide
theorem wt_1 (la : List UInt8) : (wtT1 la).n = 2 ∧ (wtT1 la).lost = false ∧ (wtT1 la).lim = false ∧ (wtT1 la).ctr = 0 ∧ (∀ z, (wtT1 la).lies z = none) ∧ (wtT1 la).sl wx = padL (la.take 272) 272 := by
  obtain ⟨f1, f2, f3, _, f5⟩ := write_fields (t := newW 2) (x := wx) (l := la) wt_there0
  obtain ⟨p1, p2, _⟩ := write_power (t := newW 2) (x := wx) (l := la) wt_there0
  have hl := (lay_free (t := newW 2) rfl 272).1
  unfold wtT1
  refine ⟨f1, by rw [p2, hl]; rfl, by rw [p1, hl]; rfl, f3, fun z => by rw [f2]; rfl, ?_⟩
  rw [f5]
  simp only [if_true]
  exact wrote_free rfl (by show z272.length = 272; simp only [z272, List.length_replicate])
theorem wt_2 (la : List UInt8) : readL (wtT1 la) wx = padL (la.take 272) 272 := by
  obtain ⟨f1, f2, f3, f4, f5, f6⟩ := wt_1 la
  rw [read_quiet f2 (by rw [f1]; exact inR2x) f5, f6]
theorem wt_3 (la : List UInt8) (k : Nat) (hk : k ≤ 1000000) : (wtT3 la k).n = 2 ∧ (wtT3 la k).lost = false ∧ (wtT3 la k).lim = true ∧ (wtT3 la k).left = k ∧ (wtT3 la k).ctr = 0 ∧ (∀ z, (wtT3 la k).lies z = none) ∧ (wtT3 la k).sl wx = padL (la.take 272) 272 := by
  obtain ⟨f1, f2, f3, f4, f5, f6⟩ := wt_1 la
  have e : armN (k : Int) = k := by unfold armN; omega
  have h2 : wtT2 la = tellW (wtT1 la) 1 1 0 ((wtT1 la).sl wx) := readW_of (there_of f2 (by rw [f1]; exact inR2x))
  have h3 : wtT3 la k = { wtT2 la with lim := true, lost := false, left := k } := by
    unfold wtT3 armW
    rw [if_neg (by rw [h2]; simp [tellW, f2]), e]
  rw [h3, h2]
  refine ⟨f1, rfl, rfl, rfl, f4, fun z => ?_, f6⟩
  show (if z = _ then none else (wtT1 la).lies z) = none
  rw [f5]; split <;> rfl
theorem wt_4 (la lb : List UInt8) (k : Nat) (hk : k ≤ 1000000) : writeB (wtT3 la k) wx = decide (272 ≤ k) ∧ (wtT4 la lb k).n = 2 ∧ (wtT4 la lb k).lost = decide (k < 272) ∧ (wtT4 la lb k).lim = true ∧ (272 ≤ k → (wtT4 la lb k).left = k - 272) ∧ (wtT4 la lb k).ctr = 0 ∧ (∀ z, (wtT4 la lb k).lies z = none) ∧
    (wtT4 la lb k).sl wx = laid (padL (lb.take 272) 272) (padL (la.take 272) 272) (min 272 k) := by
  obtain ⟨f1, f2, f3, f4, f5, f6, f7⟩ := wt_3 la k hk
  have hth : thereW (wtT3 la k) wx = true := there_of f2 (by rw [f1]; exact inR2x)
  have hK : layK (wtT3 la k) 272 = min 272 k := by unfold layK; rw [if_pos f3, f4]
  obtain ⟨g1, g2, g3, _, g5⟩ := write_fields (l := lb) hth
  obtain ⟨p1, p2, p3⟩ := write_power (l := lb) hth
  have hW : layW (wtT3 la k) 272 = if 272 ≤ k then { wtT3 la k with left := k - 272 } else { wtT3 la k with left := 0, lost := true } := by unfold layW; rw [if_pos f3, f4]
  unfold wtT4
  refine ⟨?_, g1.trans f1, ?_, ?_, fun h => ?_, g3.trans f5, fun z => by rw [g2]; exact f6 z, ?_⟩
  · rw [writeB_of hth, hK]
    rw [Bool.eq_iff_iff]
    simp only [decide_eq_true_eq]
    omega
  · rw [p2, hW]
    split
    · rename_i h; rw [decide_eq_false (by omega)]; exact f2
    · rename_i h; rw [decide_eq_true (by omega)]
  · rw [p1, hW]; split <;> exact f3
  · rw [p3, hW, if_pos h]
  · rw [g5]
    simp only [if_true]
    unfold wroteL
    rw [hK, f7]
/-- what is told, byte by byte -/
theorem wt_get (la lb : List UInt8) (k i : Nat) (hi : i < 272) : (laid (padL (lb.take 272) 272) (padL (la.take 272) 272) (min 272 k)).getD i 0 = if i < k then lb.getD i 0 else (padL (la.take 272) 272).getD i 0 := by
  rw [laid_get _ _ _ _ (by rw [pad272]; omega)]
  by_cases h : i < k
  · rw [if_pos h, if_pos (by omega), pad_get _ _ hi]
  · rw [if_neg h, if_neg (by omega)]
theorem wt_len (la lb : List UInt8) (k : Nat) : (laid (padL (lb.take 272) 272) (padL (la.take 272) 272) (min 272 k)).length = 272 := by
  rw [laid_length _ _ _ (by rw [pad272]; omega) (by rw [pad272]; omega), pad272]
/-- behind Restart -/
theorem wt_5 {t : Wd} (hn : t.n = 2) (hl : ∀ z, t.lies z = none) : readL (restartW t) wx = t.sl wx ∧ (readW (restartW t) wx).lost = false ∧ writeB (readW (restartW t) wx) wy = true := by
  have h0 : thereW (restartW t) wx = true := there_of rfl (by show inR t.n wx = true; rw [hn]; exact inR2x)
  refine ⟨read_quiet (t := restartW t) rfl (by show inR t.n wx = true; rw [hn]; exact inR2x) hl, by rw [readW_of h0]; rfl, ?_⟩
  rw [readW_of h0]
  rw [writeB_of (there_of rfl (by show inR t.n wy = true; rw [hn]; exact inR2y)), (lay_free rfl 272).2]
  rfl
theorem wt_6 {t : Wd} {k : Nat} (h0 : t.lost = false) (hlim : t.lim = true) (hleft : t.left = k) (hc : t.ctr = 0) : bumpB t = decide (0 < k) ∧ (bumpW t).n = t.n ∧ (bumpW t).lies = t.lies ∧ (bumpW t).sl = t.sl := by
  obtain ⟨q1, q2, _, _, q5, _⟩ := takeW_same t
  have ht : takeOk t = decide (0 < k) := by unfold takeOk; rw [hlim, hleft]; rfl
  refine ⟨by unfold bumpB; rw [h0, hc, ht]; rfl, ?_⟩
  unfold bumpW
  rw [if_neg (by rw [h0]; decide), if_neg (by rw [hc]; decide)]
  split
  · exact ⟨q1, q5, q2⟩
  · exact ⟨q1, q5, q2⟩
end Go.Proofs.Ytpbpegoobgfjcaa

namespace Go.Proofs.Ytpbpegoobgfjcaa
open Go.RowKit

/-- what is traced of one thing that is done -/
def trX (t : Wd) (d : Dd) : List Tr :=
  if d.kind = 1 then (if thereW t (d.pl, d.sl) = true then [⟨1, d.pl, d.sl, readL t (d.pl, d.sl)⟩] else [])
  else if d.kind = 2 then (if thereW t (d.pl, d.sl) = true then [⟨2, d.pl, d.sl, d.bs⟩] else [])
  else if d.kind = 3 then (if sealW t d.pl = true then [⟨3, d.pl, 0, lookL t d.pl⟩] else [])
  else if d.kind = 4 then (if sealW t d.pl = true then [⟨4, d.pl, 0, d.bs⟩] else [])
  else if d.kind = 5 then (if bumpB t = true then [⟨5, 0, 0, []⟩] else []) else []
theorem bump_tr (t : Wd) : (bumpW t).tr = t.tr ++ (if bumpB t = true then [⟨5, 0, 0, []⟩] else []) := by
  unfold bumpW bumpB
  cases hl : t.lost
  · rw [if_neg (by decide)]
    by_cases hc : 18446744073709551615 ≤ t.ctr
    · rw [if_pos hc, decide_eq_false (by omega)]; simp
    · rw [if_neg hc, decide_eq_true (by omega)]
      cases ht : takeOk t
      · simp [(takeW_same t).2.2.2.2.2.2.1]
      · simp
  · simp
theorem did_tr (t : Wd) (d : Dd) : (didW t d).tr = t.tr ++ trX t d := by
  unfold didW trX
  split
  · unfold readW readL
    split
    · rfl
    · simp
  · split
    · split
      · rename_i hth
        unfold writeW; rw [if_pos hth]
        exact (layW_same _ _).2.2.2.2.2.2.1
      · rename_i hth
        unfold writeW; rw [if_neg hth]; simp
    · split
      · unfold lookW lookL
        split
        · rfl
        · simp
      · split
        · unfold sealedW
          split
          · split
            · exact (layW_same _ _).2.2.2.2.2.2.1
            · exact (layW_same _ _).2.2.2.2.2.2.1
          · simp
        · split
          · exact bump_tr t
          · split
            · unfold lieW; split <;> simp
            · split
              · unfold armW; split <;> simp
              · split
                · simp [restartW]
                · split
                  · simp [setW]
                  · simp
theorem trX_cases (t : Wd) (d : Dd) : trX t d = [] ∨ ∃ x, trX t d = [x] ∧ t.lost = false ∧ d.kind ≤ 5 ∧ (d.kind = 1 → x.kind = 1 ∧ x.pl = d.pl ∧ x.bytes = didL t d) ∧ (d.kind = 2 → x.kind = 2 ∧ x.slot = d.sl ∧ x.bytes = d.bs) := by
  have hth : ∀ x, thereW t x = true → t.lost = false := fun x h => by unfold thereW at h; simp at h; exact h.1
  have hse : ∀ i, sealW t i = true → t.lost = false := fun i h => by unfold sealW at h; simp at h; exact h.1
  have hbu : bumpB t = true → t.lost = false := fun h => by unfold bumpB at h; simp at h; exact h.1
  unfold trX
  split
  · rename_i h1
    split
    · rename_i h2
      exact .inr ⟨_, rfl, hth _ h2, by omega, fun _ => ⟨rfl, rfl, by unfold didL; rw [if_pos h1]⟩, fun h => by omega⟩
    · exact .inl rfl
  · split
    · split
      · rename_i h1 h2
        exact .inr ⟨_, rfl, hth _ h2, by omega, fun h => by omega, fun _ => ⟨rfl, rfl, rfl⟩⟩
      · exact .inl rfl
    · split
      · split
        · rename_i h2
          exact .inr ⟨_, rfl, hse _ h2, by omega, fun h => by omega, fun h => by omega⟩
        · exact .inl rfl
      · split
        · split
          · rename_i h2
            exact .inr ⟨_, rfl, hse _ h2, by omega, fun h => by omega, fun h => by omega⟩
          · exact .inl rfl
        · split
          · split
            · rename_i h2
              exact .inr ⟨_, rfl, hbu h2, by omega, fun h => by omega, fun h => by omega⟩
            · exact .inl rfl
          · exact .inl rfl
theorem cut40 (A : Option Addr) (n c k : Nat) (hk : k ≤ c) (w : World) : (Instr.sliceAt 40 (.slice A n c) none (some (.int .i64 (k : Int))) none).run Try.prog w = .ok (.slice A k c) w := by
  have e1 : (Try.prog).underlying 40 = some (.slice ((Try.prog).elem 40)) := by kernel_rfl
  have e2 : (Try.prog).elem 40 = 61 := by kernel_rfl
  have h4 : ((Try.prog).info? 61).map (·.size) = some 4 := by kernel_rfl
  have hrun := run_slice_h (P := Try.prog) (w := w) 40 A n c e1 .i64 (k : Int) (by omega) (by omega)
  rw [e2] at hrun
  rw [run_sliceAt_slice (P := Try.prog) (w := w) 40 _ _ _ _ e1, hrun]
  cases hq : (Try.prog).info? 61 with
  | none => simp [hq] at h4
  | some i =>
    have hs : i.size = 4 := by simpa [hq] using h4
    simp [Go.sizeOf, typeInfo, hq, hs, Result.andThen, sliced]
    intro hc
    cases A with
    | none => rfl
    | some a => simp [add_none]
end Go.Proofs.Ytpbpegoobgfjcaa
