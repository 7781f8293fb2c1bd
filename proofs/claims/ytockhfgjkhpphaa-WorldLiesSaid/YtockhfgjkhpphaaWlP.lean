/- WorldLies: the plain data; a calm World. -/
import Derived.Test.YtockhfgjkhpphaaWtP
import Derived.Deep.LoopGhost
namespace Go.Proofs.Ytockhfgjkhpphaa
open Go.RowKit

/-- a World whose power lasts for ever -/
structure Calm (t : Wd) (n : Nat) : Prop where
  nn : t.n = n
  lost : t.lost = false
  lim : t.lim = false
  len : ∀ x, inR n x = true → (t.sl x).length = 272
theorem Calm.new (n : Nat) : Calm (newW n) n := ⟨rfl, rfl, rfl, fun _ _ => by show z272.length = 272; simp only [z272, List.length_replicate]⟩
section
variable {t u : Wd} {n : Nat} {x : Int × Int}
theorem Calm.there (h : Calm t n) (hx : inR n x = true) : thereW t x = true := there_of h.lost (by rw [h.nn]; exact hx)
theorem Calm.write (h : Calm t n) (hx : inR n x = true) (l : List UInt8) : Calm (writeW t x l) n ∧ (writeW t x l).reads = t.reads ∧ (writeW t x l).lies = t.lies ∧ (writeW t x l).sl = fun y => if y = x then padL (l.take 272) 272 else t.sl y := by
  have hth := h.there hx
  obtain ⟨f1, f2, _, f4, f5⟩ := write_fields (l := l) hth
  obtain ⟨p1, p2, _⟩ := write_power (l := l) hth
  have hl := lay_free h.lim 272
  rw [hl.1] at p1 p2
  have hw : wroteL t x l = padL (l.take 272) 272 := wrote_free h.lim (h.len x hx)
  rw [hw] at f5
  refine ⟨⟨f1.trans h.nn, p2.trans h.lost, p1.trans h.lim, fun y hy => ?_⟩, f4, f2, f5⟩
  rw [f5]
  by_cases e : y = x
  · simp only [if_pos e]; exact pad272 l
  · simp only [if_neg e]; exact h.len y hy
theorem Calm.read (h : Calm t n) (hx : inR n x = true) : Calm (readW t x) n ∧ readL t x = (t.lies t.reads).getD (t.sl x) ∧ (readW t x).sl = t.sl ∧ (readW t x).reads = t.reads + 1 ∧ (readW t x).lies = fun z => if z = (t.reads : Int) then none else t.lies z := by
  have hth := h.there hx
  rw [readW_of hth]
  refine ⟨⟨h.nn, h.lost, h.lim, h.len⟩, ?_, rfl, rfl, rfl⟩
  unfold readL toldL
  rw [if_pos hth]
/-- two Worlds alike, but for one lie -/
structure Twin (i k : Nat) (lb : List UInt8) (t u : Wd) : Prop where
  ct : Calm t 3
  cu : Calm u 3
  sl : t.sl = u.sl
  rt : t.reads = i
  ru : u.reads = i
  lu : ∀ z, u.lies z = none
  lt : ∀ z : Int, t.lies z = if z = (k : Int) ∧ i ≤ k then some lb else none
theorem Twin.start (k : Nat) (la lb : List UInt8) : Twin 0 k lb (lieW (lieW (newW 3) (k : Int) la) (k : Int) lb) (newW 3) := by
  have e1 : lieW (newW 3) (k : Int) la = { newW 3 with lies := fun z => if z = (k : Int) then some la else none, nl := 1 } := by unfold lieW; rw [if_neg (by show ¬ ((k : Int) < ((0 : Nat) : Int)); omega)]; rfl
  have e2 : lieW (lieW (newW 3) (k : Int) la) (k : Int) lb = { newW 3 with lies := fun z => if z = (k : Int) then some lb else (if z = (k : Int) then some la else none), nl := 2 } := by
    rw [e1]; unfold lieW; rw [if_neg (by show ¬ ((k : Int) < ((0 : Nat) : Int)); omega)]
  rw [e2]
  have hc := Calm.new 3
  refine ⟨⟨hc.nn, hc.lost, hc.lim, hc.len⟩, hc, rfl, rfl, rfl, fun _ => rfl, fun z => ?_⟩
  show (if z = (k : Int) then some lb else (if z = (k : Int) then some la else none)) = _
  by_cases e : z = (k : Int)
  · rw [if_pos e, if_pos ⟨e, Nat.zero_le _⟩]
  · rw [if_neg e, if_neg e, if_neg (fun h => e h.1)]
theorem Twin.write {i k : Nat} {lb : List UInt8} (h : Twin i k lb t u) (hx : inR 3 x = true) (l : List UInt8) : Twin i k lb (writeW t x l) (writeW u x l) := by
  obtain ⟨c1, r1, l1, s1⟩ := h.ct.write hx l
  obtain ⟨c2, r2, l2, s2⟩ := h.cu.write hx l
  exact ⟨c1, c2, by rw [s1, s2, h.sl], r1.trans h.rt, r2.trans h.ru, fun z => by rw [l2]; exact h.lu z, fun z => by rw [l1]; exact h.lt z⟩
theorem Twin.read {i k : Nat} {lb : List UInt8} (h : Twin i k lb t u) (hx : inR 3 x = true) : Twin (i + 1) k lb (readW t x) (readW u x) ∧ (i = k → readL t x = lb) ∧ (i ≠ k → readL t x = readL u x) := by
  obtain ⟨c1, r1, s1, n1, l1⟩ := h.ct.read hx
  obtain ⟨c2, r2, s2, n2, l2⟩ := h.cu.read hx
  refine ⟨⟨c1, c2, by rw [s1, s2, h.sl], by rw [n1, h.rt], by rw [n2, h.ru], fun z => ?_, fun z => ?_⟩, fun e => ?_, fun e => ?_⟩
  · rw [l2]; simp only [h.lu]; split <;> rfl
  · rw [l1]; simp only [h.lt, h.rt]
    by_cases e : z = (i : Int)
    · rw [if_pos e, if_neg (by rintro ⟨h1, h2⟩; omega)]
    · rw [if_neg e]
      by_cases e2 : z = (k : Int) ∧ i ≤ k
      · rw [if_pos e2, if_pos ⟨e2.1, by omega⟩]
      · rw [if_neg e2, if_neg (fun h3 => e2 ⟨h3.1, by omega⟩)]
  · subst e
    rw [r1, h.lt, h.rt, if_pos ⟨rfl, Nat.le_refl _⟩]; rfl
  · rw [r1, r2, h.lt, h.rt, if_neg (fun h3 => e (by omega)), h.lu, h.sl]
end
theorem inR3 (p s : Nat) (hp : p < 3) (hs : s < 2) : inR 3 ((p : Int), (s : Int)) = true := by
  unfold inR
  simp only [Bool.and_eq_true, decide_eq_true_eq]
  omega
end Go.Proofs.Ytockhfgjkhpphaa
