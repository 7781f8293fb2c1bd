/- States of four words, as a cipher's rounds turn them, word by word. No program is named here. -/
import Derived.Test.YtleplilcpcgacaaAesF
import Derived.Test.YtleplilcpcgacaaR4Block
namespace Go.Proofs.Ytleplilcpcgacaa

theorem map_getD {β : Type} (f : Nat → β) (n i : Nat) (d : β) (h : i < n) : ((List.range n).map f).getD i d = f i := by
  simp [List.getD, List.getElem?_map, List.getElem?_range h]
/-- a row of words, the first k of which are done -/
def partW (f s : Nat → UInt32) (n k : Nat) : List UInt32 := (List.range n).map fun j => if j < k then f j else s j
section
variable (f s : Nat → UInt32) (n k : Nat)
theorem partW_length : (partW f s n k).length = n := by simp [partW]
theorem partW_set : (cells32 (partW f s n k)).set k (.int .u32 ((f k).toNat : Int)) = cells32 (partW f s n (k + 1)) := by
  have e : (partW f s n k).set k (f k) = partW f s n (k + 1) := by
    refine List.ext_getElem (by rw [List.length_set, partW_length, partW_length]) fun i h1 h2 => ?_
    rw [List.getElem_set]
    simp only [partW, List.getElem_map, List.getElem_range]
    by_cases hi : k = i
    · subst hi; simp
    · rw [if_neg hi]
      by_cases h3 : i < k
      · rw [if_pos h3, if_pos (by omega)]
      · rw [if_neg h3, if_neg (by omega)]
  rw [← e]
  unfold cells32
  rw [List.map_set]
theorem partW_at (h : k < n) : (cells32 (partW f s n k))[k]? = some (.int .u32 ((s k).toNat : Int)) := by
  simp [cells32, partW, List.getElem?_map, List.getElem?_range h]
theorem partW_done : partW f s n n = (List.range n).map f := by
  unfold partW
  refine List.map_congr_left fun j hj => ?_
  rw [if_pos (List.mem_range.1 hj)]
theorem partW_none : partW f s n 0 = (List.range n).map s := by
  unfold partW
  refine List.map_congr_left fun j _ => ?_
  rw [if_neg (by omega)]
end
theorem rangeW_at (f : Nat → UInt32) (n k : Nat) (h : k < n) : (cells32 ((List.range n).map f))[k]? = some (.int .u32 ((f k).toNat : Int)) := by
  simp [cells32, List.getElem?_map, List.getElem?_range h]

/-- a column -/
def wd (l : List UInt8) (j : Nat) : UInt32 := w4 (l.getD (4 * j) 0) (l.getD (4 * j + 1) 0) (l.getD (4 * j + 2) 0) (l.getD (4 * j + 3) 0)
/-- a state -/
def wordsL (l : List UInt8) : List UInt32 := (List.range 4).map (wd l)
theorem wordsL_length (l : List UInt8) : (wordsL l).length = 4 := by simp [wordsL]
theorem wordsL_at (l : List UInt8) (j : Nat) (h : j < 4) : (cells32 (wordsL l))[j]? = some (.int .u32 ((wd l j).toNat : Int)) := rangeW_at _ _ _ h
theorem wordsL_of (f : Nat → UInt32) (l : List UInt8) (h : ∀ j, j < 4 → f j = wd l j) : (List.range 4).map f = wordsL l :=
  List.map_congr_left fun j hj => h j (List.mem_range.1 hj)

theorem add_wd (l m : List UInt8) (j : Nat) (h : j < 4) : wd l j ^^^ wd m j = wd (addL l m 16) j := by
  have e : ∀ i, i < 16 → (addL l m 16).getD i 0 = l.getD i 0 ^^^ m.getD i 0 := fun i hi => map_getD _ _ _ _ hi
  unfold wd
  rw [w4_xor, e _ (by omega), e _ (by omega), e _ (by omega), e _ (by omega)]

/-- a word, each byte gone through the box -/
def subN (bx : List UInt8) (x : UInt32) : UInt32 := w4 (bx.getD (by4 x 0).toNat 0) (bx.getD (by4 x 1).toNat 0) (bx.getD (by4 x 2).toNat 0) (bx.getD (by4 x 3).toNat 0)
theorem by4_w4 (a b c d : UInt8) : by4 (w4 a b c d) 0 = a ∧ by4 (w4 a b c d) 1 = b ∧ by4 (w4 a b c d) 2 = c ∧ by4 (w4 a b c d) 3 = d := by
  have ha := a.toNat_lt; have hb := b.toNat_lt; have hc := c.toNat_lt; have hd := d.toNat_lt
  refine ⟨?_, ?_, ?_, ?_⟩ <;>
  · apply UInt8.toNat_inj.1
    simp only [by4, UInt8.toNat_ofNat', w4_nat]
    omega
theorem sub_w4 (bx : List UInt8) (a b c d : UInt8) : subN bx (w4 a b c d) = w4 (bx.getD a.toNat 0) (bx.getD b.toNat 0) (bx.getD c.toNat 0) (bx.getD d.toNat 0) := by
  unfold subN
  rw [(by4_w4 a b c d).1, (by4_w4 a b c d).2.1, (by4_w4 a b c d).2.2.1, (by4_w4 a b c d).2.2.2]
/-- of four words a byte each -/
def selW (p q r s : UInt32) : UInt32 := (p &&& 4278190080) ||| (q &&& 16711680) ||| (r &&& 65280) ||| (s &&& 255)
theorem sel_w4 (a b c d a1 b1 c1 d1 a2 b2 c2 d2 a3 b3 c3 d3 : UInt8) : selW (w4 a b c d) (w4 a1 b1 c1 d1) (w4 a2 b2 c2 d2) (w4 a3 b3 c3 d3) = w4 a b1 c2 d3 := by
  have e0 : (4278190080 : UInt32) = w4 255 0 0 0 := by decide
  have e1 : (16711680 : UInt32) = w4 0 255 0 0 := by decide
  have e2 : (65280 : UInt32) = w4 0 0 255 0 := by decide
  have e3 : (255 : UInt32) = w4 0 0 0 255 := by decide
  have f1 : ∀ x : UInt8, x &&& 255 = x := fun x => by
    apply UInt8.toNat_inj.1
    rw [UInt8.toNat_and]
    have h := Nat.and_two_pow_sub_one_eq_mod x.toNat 8
    have := x.toNat_lt
    rw [show (255 : UInt8).toNat = 2 ^ 8 - 1 from rfl, h]; omega
  unfold selW
  rw [e0, e1, e2, e3, w4_and, w4_and, w4_and, w4_and, w4_or, w4_or, w4_or]
  simp [f1]
theorem shift_wd (l bx : List UInt8) (j : Nat) (h : j < 4) : subN bx (selW (wd l j) (wd l ((j + 1) % 4)) (wd l ((j + 2) % 4)) (wd l ((j + 3) % 4))) = wd (shiftL l bx 16) j := by
  have e : ∀ i, i < 16 → (shiftL l bx 16).getD i 0 = bx.getD (l.getD (shiftIx i) 0).toNat 0 := fun i hi => map_getD _ _ _ _ hi
  unfold wd
  rw [sel_w4, sub_w4, e _ (by omega), e _ (by omega), e _ (by omega), e _ (by omega)]
  have i0 : shiftIx (4 * j) = 4 * j := by unfold shiftIx; omega
  have i1 : shiftIx (4 * j + 1) = 4 * ((j + 1) % 4) + 1 := by unfold shiftIx; omega
  have i2 : shiftIx (4 * j + 2) = 4 * ((j + 2) % 4) + 2 := by unfold shiftIx; omega
  have i3 : shiftIx (4 * j + 3) = 4 * ((j + 3) % 4) + 3 := by unfold shiftIx; omega
  rw [i0, i1, i2, i3]
/-- a column, mixed -/
def mixW (x : UInt32) : Nat := dblN (x.toNat ^^^ rotN x.toNat 8) ^^^ rotN x.toNat 8 ^^^ rotN x.toNat 16 ^^^ rotN x.toNat 24
theorem mix_w4 (a b c d : UInt8) : mixW (w4 a b c d) = (w4 (xt (a ^^^ b) ^^^ b ^^^ c ^^^ d) (xt (b ^^^ c) ^^^ c ^^^ d ^^^ a) (xt (c ^^^ d) ^^^ d ^^^ a ^^^ b) (xt (d ^^^ a) ^^^ a ^^^ b ^^^ c)).toNat := by
  unfold mixW
  rw [rot8, rot16, rot24, ← UInt32.toNat_xor, w4_xor, dbl_w4, ← UInt32.toNat_xor, ← UInt32.toNat_xor, ← UInt32.toNat_xor, w4_xor, w4_xor, w4_xor]
theorem mix_wd (l : List UInt8) (j : Nat) (h : j < 4) : mixW (wd l j) = (wd (mixL l 16) j).toNat := by
  have e : ∀ i, i < 16 → (mixL l 16).getD i 0 = mixAcc l i 4 := fun i hi => map_getD _ _ _ _ hi
  unfold wd
  rw [mix_w4, e _ (by omega), e _ (by omega), e _ (by omega), e _ (by omega)]
  simp only [mixAcc]
  have q0 : 4 * j / 4 = j := by omega
  have q1 : (4 * j + 1) / 4 = j := by omega
  have q2 : (4 * j + 2) / 4 = j := by omega
  have q3 : (4 * j + 3) / 4 = j := by omega
  have r0 : 4 * j % 4 = 0 := by omega
  have r1 : (4 * j + 1) % 4 = 1 := by omega
  have r2 : (4 * j + 2) % 4 = 2 := by omega
  have r3 : (4 * j + 3) % 4 = 3 := by omega
  rw [q0, q1, q2, q3, r0, r1, r2, r3]
  simp only [mM, Nat.reduceAdd, Nat.reduceSub, Nat.reduceMod, mulU_one, mulU_two, mulU_three, Nat.add_zero, xt_xor]
  generalize l.getD (4 * j) 0 = a
  generalize l.getD (4 * j + 1) 0 = b
  generalize l.getD (4 * j + 2) 0 = c
  generalize l.getD (4 * j + 3) 0 = d
  congr 2 <;> ac_rfl
/-- a column, of which so many bytes are there -/
def colA (b : List UInt8) (j : Nat) : Nat → UInt32
  | 0 => 0
  | c + 1 => UInt32.ofNat ((colA b j c).toNat * 256 % 4294967296 ||| (b.getD (4 * j + c) 0).toNat)
theorem or_low (x : Nat) (y : UInt8) : (x * 256 % 4294967296 ||| y.toNat) = x * 256 % 4294967296 + y.toNat := by
  have h1 : x * 256 % 4294967296 = (x % 16777216) <<< 8 := by rw [Nat.shiftLeft_eq]; omega
  rw [h1, ← Nat.shiftLeft_add_eq_or_of_lt (by simpa using y.toNat_lt)]
theorem colA_nat (b : List UInt8) (j c : Nat) : (colA b j (c + 1)).toNat = (colA b j c).toNat * 256 % 4294967296 + (b.getD (4 * j + c) 0).toNat := by
  have h : (colA b j c).toNat * 256 % 4294967296 + (b.getD (4 * j + c) 0).toNat < 4294967296 := by
    have := (b.getD (4 * j + c) 0).toNat_lt; omega
  show (UInt32.ofNat _).toNat = _
  rw [or_low, UInt32.toNat_ofNat_of_lt' h]
theorem colA_four (b : List UInt8) (j : Nat) : colA b j 4 = wd b j := by
  unfold wd
  apply w4_eq
  have z : (colA b j 0).toNat = 0 := rfl
  have h0 := (b.getD (4 * j + 0) 0).toNat_lt
  have h1 := (b.getD (4 * j + 1) 0).toNat_lt
  have h2 := (b.getD (4 * j + 2) 0).toNat_lt
  have h3 := (b.getD (4 * j + 3) 0).toNat_lt
  rw [colA_nat, colA_nat, colA_nat, colA_nat, z]
  rw [Nat.add_zero] at *
  omega
/-- the columns of the first i bytes -/
def colS (b : List UInt8) (i : Nat) : List UInt32 := (List.range 4).map fun j => colA b j (min 4 (i - 4 * j))
theorem colS_at (b : List UInt8) (i : Nat) (h : i < 16) : (cells32 (colS b i))[i / 4]? = some (.int .u32 ((colA b (i / 4) (i % 4)).toNat : Int)) := by
  unfold colS
  rw [rangeW_at _ _ _ (by omega), show min 4 (i - 4 * (i / 4)) = i % 4 by omega]
theorem colS_set (b : List UInt8) (i : Nat) : (cells32 (colS b i)).set (i / 4) (.int .u32 ((colA b (i / 4) (i % 4 + 1)).toNat : Int)) = cells32 (colS b (i + 1)) := by
  have e : (colS b i).set (i / 4) (colA b (i / 4) (i % 4 + 1)) = colS b (i + 1) := by
    refine List.ext_getElem (by simp [colS]) fun t h1 h2 => ?_
    have ht : t < 4 := by simpa [colS] using h2
    rw [List.getElem_set]
    simp only [colS, List.getElem_map, List.getElem_range]
    by_cases hi : i / 4 = t
    · subst hi; rw [if_pos rfl, show min 4 (i + 1 - 4 * (i / 4)) = i % 4 + 1 by omega]
    · rw [if_neg hi, show min 4 (i + 1 - 4 * t) = min 4 (i - 4 * t) by omega]
  rw [← e]
  unfold cells32
  rw [List.map_set]
theorem colS_none (b : List UInt8) : cells32 (colS b 0) = List.replicate 4 (.int .u32 0) := by simp [colS, colA, cells32]; rfl
theorem colS_done (b : List UInt8) : colS b 16 = wordsL b := by
  unfold colS
  refine wordsL_of _ _ fun j hj => ?_
  rw [show min 4 (16 - 4 * j) = 4 by omega, colA_four]
theorem by4_wd (l : List UInt8) (i : Nat) : by4 (wd l (i / 4)) (i % 4) = l.getD i 0 := by
  unfold wd
  have h := by4_w4 (l.getD (4 * (i / 4)) 0) (l.getD (4 * (i / 4) + 1) 0) (l.getD (4 * (i / 4) + 2) 0) (l.getD (4 * (i / 4) + 3) 0)
  rcases (by omega : i % 4 = 0 ∨ i % 4 = 1 ∨ i % 4 = 2 ∨ i % 4 = 3) with e | e | e | e <;> rw [e]
  · rw [h.1]; congr 1; omega
  · rw [h.2.1]; congr 1; omega
  · rw [h.2.2.1]; congr 1; omega
  · rw [h.2.2.2]; congr 1; omega
theorem range_getD (l : List UInt8) (n : Nat) (h : l.length = n) : ((List.range n).map fun i => l.getD i 0) = l := by
  refine List.ext_getElem (by simp [h]) fun i h1 h2 => ?_
  simp [List.getD, List.getElem?_eq_getElem h2]
end Go.Proofs.Ytleplilcpcgacaa
