/- WorldTells: the plain data. -/
import Derived.Test.YtockhfgjkhpphaaWtP
namespace Go.Proofs.Ytockhfgjkhpphaa
open Go.RowKit

/-- a World whose power lasts for ever, with no lies -/
structure Free (t : Wd) (n : Nat) : Prop where
  nn : t.n = n
  lost : t.lost = false
  lim : t.lim = false
  lies : ∀ z, t.lies z = none
  len : ∀ x, inR n x = true → (t.sl x).length = 272
theorem Free.new (n : Nat) : Free (newW n) n := ⟨rfl, rfl, rfl, fun _ => rfl, fun _ _ => by show z272.length = 272; simp only [z272, List.length_replicate]⟩
section
variable {t : Wd} {n : Nat} {x : Int × Int} {l : List UInt8}
theorem Free.there (h : Free t n) (hx : inR n x = true) : thereW t x = true := there_of h.lost (by rw [h.nn]; exact hx)
theorem Free.write (h : Free t n) (hx : inR n x = true) (l : List UInt8) : Free (writeW t x l) n ∧ writeB t x = true ∧ (writeW t x l).reads = t.reads ∧ (writeW t x l).sl = fun y => if y = x then padL (l.take 272) 272 else t.sl y := by
  have hth := h.there hx
  obtain ⟨f1, f2, _, f4, f5⟩ := write_fields (l := l) hth
  obtain ⟨p1, p2, _⟩ := write_power (l := l) hth
  have hl := lay_free h.lim 272
  rw [hl.1] at p1 p2
  have hw : wroteL t x l = padL (l.take 272) 272 := wrote_free h.lim (h.len x hx)
  rw [hw] at f5
  refine ⟨⟨f1.trans h.nn, p2.trans h.lost, p1.trans h.lim, fun z => by rw [f2]; exact h.lies z, fun y hy => ?_⟩, by rw [writeB_of hth, hl.2]; rfl, f4, f5⟩
  rw [f5]
  by_cases e : y = x
  · simp only [if_pos e]; exact pad272 l
  · simp only [if_neg e]; exact h.len y hy
theorem Free.read (h : Free t n) (hx : inR n x = true) : Free (readW t x) n ∧ readL t x = t.sl x ∧ (readW t x).sl = t.sl ∧ (readW t x).reads = t.reads + 1 := by
  have hth := h.there hx
  refine ⟨?_, read_quiet h.lost (by rw [h.nn]; exact hx) h.lies, by rw [readW_of hth]; rfl, by rw [readW_of hth]; rfl⟩
  rw [readW_of hth]
  refine ⟨h.nn, h.lost, h.lim, fun z => ?_, h.len⟩
  show (if z = _ then none else t.lies z) = none
  rw [h.lies]; split <;> rfl
/-- a lie, then the read that it is of -/
theorem Free.lied (h : Free t n) (hx : inR n x = true) (l : List UInt8) : Free (readW (lieW t (t.reads : Int) l) x) n ∧ readL (lieW t (t.reads : Int) l) x = l ∧ (readW (lieW t (t.reads : Int) l) x).sl = t.sl := by
  have hL : lieW t (t.reads : Int) l = { t with lies := fun z => if z = (t.reads : Int) then some l else t.lies z, nl := t.nl + 1 } := by unfold lieW; rw [if_neg (by omega)]
  have hth : thereW (lieW t (t.reads : Int) l) x = true := there_of (by rw [hL]; exact h.lost) (by rw [hL]; show inR t.n x = true; rw [h.nn]; exact hx)
  have hT : readW (lieW t (t.reads : Int) l) x = tellW (lieW t (t.reads : Int) l) 1 x.1 x.2 ((lieW t (t.reads : Int) l).sl x) := readW_of hth
  refine ⟨?_, ?_, by rw [hT, hL]; rfl⟩
  · rw [hT, hL]
    refine ⟨h.nn, h.lost, h.lim, fun z => ?_, h.len⟩
    show (if z = (t.reads : Int) then none else (if z = (t.reads : Int) then some l else t.lies z)) = none
    by_cases e : z = (t.reads : Int)
    · rw [if_pos e]
    · rw [if_neg e, if_neg e]; exact h.lies z
  · unfold readL toldL
    rw [if_pos hth, hL]
    show (if (t.reads : Int) = (t.reads : Int) then some l else t.lies (t.reads : Int)).getD _ = l
    rw [if_pos rfl]; rfl
end
def wkT1 (x : Int × Int) (la : List UInt8) : Wd := writeW (newW 8) x la
def wkT2 (x y : Int × Int) (la lb : List UInt8) : Wd := writeW (wkT1 x la) y lb
def wkT3 (x y : Int × Int) (la lb : List UInt8) : Wd := readW (wkT2 x y la lb) x
def wkT4 (x y : Int × Int) (la lb ll : List UInt8) : Wd := lieW (wkT3 x y la lb) 1 ll
def wkT5 (x y : Int × Int) (la lb ll : List UInt8) : Wd := readW (wkT4 x y la lb ll) x
def wkT6 (x y : Int × Int) (la lb ll : List UInt8) : Wd := readW (wkT5 x y la lb ll) x
structure Tells (x y : Int × Int) (la lb ll : List UInt8) (v : Int × Int) (E : List UInt8) : Prop where
  b1 : writeB (newW 8) x = true
  b2 : writeB (wkT1 x la) y = true
  r1 : readL (wkT2 x y la lb) x = padL (la.take 272) 272
  r2 : readL (wkT4 x y la lb ll) x = ll
  r3 : readL (wkT5 x y la lb ll) x = padL (la.take 272) 272
  r4 : readL (wkT6 x y la lb ll) v = E
theorem tells_all (x y v : Int × Int) (la lb ll : List UInt8) (hx : inR 8 x = true) (hy : inR 8 y = true) (hv : inR 8 v = true) (hxy : y ≠ x) (hvx : v ≠ x) : Tells x y la lb ll v (if v = y then padL (lb.take 272) 272 else z272) := by
  obtain ⟨f1, b1, e1, s1⟩ := (Free.new 8).write hx la
  obtain ⟨f2, b2, e2, s2⟩ := f1.write hy lb
  obtain ⟨f3, r3, s3, e3⟩ := f2.read hx
  have h1 : ((readW (writeW (writeW (newW 8) x la) y lb) x).reads : Int) = 1 := by rw [e3, e2, e1]; rfl
  obtain ⟨f5, r5, s5⟩ := f3.lied hx ll
  rw [h1] at f5 r5 s5
  obtain ⟨f6, r6, s6, _⟩ := f5.read hx
  obtain ⟨_, r7, _, _⟩ := f6.read hv
  have sx : (writeW (writeW (newW 8) x la) y lb).sl x = padL (la.take 272) 272 := by
    rw [s2]; simp only [if_neg (Ne.symm hxy)]
    rw [s1]; simp only [if_true]
  refine ⟨b1, b2, r3.trans sx, r5, ?_, ?_⟩
  · exact r6.trans (by rw [s5, s3]; exact sx)
  · refine r7.trans ?_
    rw [s6, s5, s3, s2]
    by_cases e : v = y
    · simp only [if_pos e]
    · simp only [if_neg e]
      rw [s1]; simp only [if_neg hvx]; rfl
end Go.Proofs.Ytockhfgjkhpphaa
