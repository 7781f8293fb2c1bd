/- How many bits of a word are 1, as the library's math/bits counts them. No program is named here. -/
import Derived.Test.YtgkeckfiacdpkaaDoorBtP
namespace Go.Proofs.YtgkeckfiacdpkaaDoor
open Go.RowKit

theorem and_cat (p q r s : Nat) (hp : p < 256) (hr : r < 256) : (p + 256 * q) &&& (r + 256 * s) = (p &&& r) + 256 * (q &&& s) := by
  have hpr : p &&& r < 2 ^ 8 := Nat.lt_of_le_of_lt Nat.and_le_left hp
  apply Nat.eq_of_testBit_eq
  intro j
  rw [Nat.testBit_and, Nat.add_comm p, Nat.add_comm r, Nat.add_comm (p &&& r), show (256 : Nat) = 2 ^ 8 from rfl, Nat.testBit_two_pow_mul_add _ hp, Nat.testBit_two_pow_mul_add _ hr, Nat.testBit_two_pow_mul_add _ hpr]
  by_cases h : j < 8
  · rw [if_pos h, if_pos h, if_pos h, Nat.testBit_and]
  · rw [if_neg h, if_neg h, if_neg h, Nat.testBit_and]
/-- a number of its bytes, the lowest first; a mask of one byte, again and again -/
def valB : List Nat → Nat
  | [] => 0
  | b :: r => b + 256 * valB r
def mskB (m : Nat) : Nat → Nat
  | 0 => 0
  | k + 1 => m + 256 * mskB m k
def c1 (b : Nat) : Nat := (b / 2 &&& 85) + (b &&& 85)
def c2 (b : Nat) : Nat := (b / 4 &&& 51) + (b &&& 51)
def c3 (b : Nat) : Nat := (b / 16 + b) &&& 15
theorem c1_all : ∀ b : Fin 256, (∀ u : Fin 2, ((b.val / 2 + 128 * u.val) &&& 85) = (b.val / 2 &&& 85)) ∧ c1 b.val < 256 ∧ (∀ u : Fin 4, ((c1 b.val / 4 + 64 * u.val) &&& 51) = (c1 b.val / 4 &&& 51)) ∧
    c2 (c1 b.val) % 16 ≤ 4 ∧ c2 (c1 b.val) / 16 ≤ 4 ∧ c3 (c2 (c1 b.val)) = ((List.range 8).filter fun j => b.val.testBit j).length ∧ c3 (c2 (c1 b.val)) ≤ 8 := by decide +kernel
theorem c3_all : ∀ a : Fin 69, ∀ u : Fin 5, ((a.val / 16 + 16 * u.val + a.val) &&& 15) = ((a.val / 16 + a.val) &&& 15) := by decide +kernel
theorem one_b (l : List Nat) (hl : ∀ b ∈ l, b < 256) : ((valB l / 2) &&& mskB 85 l.length) + (valB l &&& mskB 85 l.length) = valB (l.map c1) := by
  induction l with
  | nil => rfl
  | cons b r ih =>
    have hb := hl b (by simp)
    have h1 := (c1_all ⟨b, hb⟩).1 ⟨valB r % 2, by omega⟩
    simp only at h1
    have ih' := ih fun x hx => hl x (by simp [hx])
    show (((b + 256 * valB r) / 2) &&& (85 + 256 * mskB 85 r.length)) + ((b + 256 * valB r) &&& (85 + 256 * mskB 85 r.length)) = c1 b + 256 * valB (r.map c1)
    rw [show (b + 256 * valB r) / 2 = (b / 2 + 128 * (valB r % 2)) + 256 * (valB r / 2) by omega, and_cat _ _ _ _ (by omega) (by decide), and_cat _ _ _ _ hb (by decide), h1, ← ih']
    unfold c1
    omega
theorem two_b (l : List Nat) (hl : ∀ b ∈ l, b < 256) : ((valB (l.map c1) / 4) &&& mskB 51 l.length) + (valB (l.map c1) &&& mskB 51 l.length) = valB ((l.map c1).map c2) := by
  induction l with
  | nil => rfl
  | cons b r ih =>
    have hb := hl b (by simp)
    obtain ⟨_, hc, h1, _⟩ := c1_all ⟨b, hb⟩
    have h2 := h1 ⟨valB (r.map c1) % 4, by omega⟩
    simp only at h2 hc
    have ih' := ih fun x hx => hl x (by simp [hx])
    show (((c1 b + 256 * valB (r.map c1)) / 4) &&& (51 + 256 * mskB 51 r.length)) + ((c1 b + 256 * valB (r.map c1)) &&& (51 + 256 * mskB 51 r.length)) = c2 (c1 b) + 256 * valB ((r.map c1).map c2)
    rw [show (c1 b + 256 * valB (r.map c1)) / 4 = (c1 b / 4 + 64 * (valB (r.map c1) % 4)) + 256 * (valB (r.map c1) / 4) by omega, and_cat _ _ _ _ (by omega) (by decide), and_cat _ _ _ _ hc (by decide), h2, ← ih']
    unfold c2
    omega
theorem low_b (l : List Nat) (hl : ∀ a ∈ l, a % 16 ≤ 4 ∧ a / 16 ≤ 4) : valB l % 16 ≤ 4 := by
  cases l with
  | nil => decide
  | cons a r =>
    have := (hl a (by simp)).1
    show (a + 256 * valB r) % 16 ≤ 4
    omega
theorem three_b (l : List Nat) (hl : ∀ a ∈ l, a % 16 ≤ 4 ∧ a / 16 ≤ 4) : ((valB l / 16 + valB l) &&& mskB 15 l.length) = valB (l.map c3) := by
  induction l with
  | nil => rfl
  | cons a r ih =>
    have ha := hl a (by simp)
    have hr : ∀ x ∈ r, x % 16 ≤ 4 ∧ x / 16 ≤ 4 := fun x hx => hl x (by simp [hx])
    have h4 := low_b r hr
    have h1 := c3_all ⟨a, by omega⟩ ⟨valB r % 16, by omega⟩
    simp only at h1
    show (((a + 256 * valB r) / 16 + (a + 256 * valB r)) &&& (15 + 256 * mskB 15 r.length)) = c3 a + 256 * valB (r.map c3)
    rw [show (a + 256 * valB r) / 16 + (a + 256 * valB r) = (a / 16 + 16 * (valB r % 16) + a) + 256 * (valB r / 16 + valB r) by omega, and_cat _ _ _ _ (by omega) (by decide), h1, ih hr]
    rfl
theorem count_cut (x n : Nat) : ((List.range (8 + n)).filter fun j => x.testBit j).length = ((List.range 8).filter fun j => (x % 256).testBit j).length + ((List.range n).filter fun j => (x / 256).testBit j).length := by
  rw [List.range_add, List.filter_append, List.length_append]
  congr 1
  · congr 1
    apply List.filter_congr
    intro j hj
    rw [show (256 : Nat) = 2 ^ 8 from rfl, Nat.testBit_mod_two_pow, decide_eq_true (List.mem_range.1 hj)]; simp
  · rw [List.filter_map, List.length_map]
    congr 1
    apply List.filter_congr
    intro j _
    show x.testBit (8 + j) = _
    rw [show (256 : Nat) = 2 ^ 8 from rfl, Nat.testBit_div_two_pow, Nat.add_comm]
def cb (b : Nat) : Nat := c3 (c2 (c1 b))
theorem cb_count (x : Nat) : ((List.range 8).filter fun j => (x % 256).testBit j).length = cb (x % 256) := ((c1_all ⟨x % 256, Nat.mod_lt _ (by decide)⟩).2.2.2.2.2.1).symm
/-- what the library makes of a word, step by step -/
def oc1 (x : Nat) : Nat := (x / 2 &&& 6148914691236517205) + (x &&& 6148914691236517205)
def oc2 (x : Nat) : Nat := (x / 4 &&& 3689348814741910323) + (x &&& 3689348814741910323)
def oc3 (x : Nat) : Nat := (x / 16 + x) &&& 1085102592571150095
def oc (x : Nat) : Nat := oc3 (oc2 (oc1 x))
set_option maxHeartbeats 1000000 in
theorem ones_all (x : Nat) (hx : x < 2 ^ 64) : ∃ a b c d e f g h, a ≤ 8 ∧ b ≤ 8 ∧ c ≤ 8 ∧ d ≤ 8 ∧ e ≤ 8 ∧ f ≤ 8 ∧ g ≤ 8 ∧ h ≤ 8 ∧
    oc x = a + 256 * (b + 256 * (c + 256 * (d + 256 * (e + 256 * (f + 256 * (g + 256 * h)))))) ∧ (bitsL x).length = a + b + c + d + e + f + g + h ∧ oc2 (oc1 x) ≤ 4919131752989213764 ∧ oc1 x < 2 ^ 64 := by
  obtain ⟨l, hl⟩ : ∃ l : List Nat, l = [x % 256, x / 256 % 256, x / 256 / 256 % 256, x / 256 / 256 / 256 % 256, x / 256 / 256 / 256 / 256 % 256, x / 256 / 256 / 256 / 256 / 256 % 256, x / 256 / 256 / 256 / 256 / 256 / 256 % 256, x / 256 / 256 / 256 / 256 / 256 / 256 / 256 % 256] := ⟨_, rfl⟩
  have hv : valB l = x := by rw [hl]; simp only [valB]; omega
  have hb : ∀ b ∈ l, b < 256 := fun b hb => by
    rw [hl] at hb
    simp only [List.mem_cons, List.not_mem_nil, or_false] at hb
    rcases hb with rfl | rfl | rfl | rfl | rfl | rfl | rfl | rfl <;> exact Nat.mod_lt _ (by decide)
  have hlen : l.length = 8 := by rw [hl]; rfl
  have h1 := one_b l hb
  have h2 := two_b l hb
  have h3 := three_b ((l.map c1).map c2) (fun a ha => by
    obtain ⟨y, hy, rfl⟩ := List.mem_map.1 ha
    obtain ⟨z, hz, rfl⟩ := List.mem_map.1 hy
    have := c1_all ⟨z, hb z hz⟩
    exact ⟨this.2.2.2.1, this.2.2.2.2.1⟩)
  rw [List.length_map, List.length_map, hlen, show mskB 15 8 = 1085102592571150095 from rfl] at h3
  rw [hlen, show mskB 51 8 = 3689348814741910323 from rfl] at h2
  rw [hlen, show mskB 85 8 = 6148914691236517205 from rfl, hv] at h1
  have e1 : oc1 x = valB (l.map c1) := h1
  have e2 : oc2 (oc1 x) = valB ((l.map c1).map c2) := by rw [e1]; exact h2
  have e3 : oc x = valB (((l.map c1).map c2).map c3) := by unfold oc; rw [e2]; exact h3
  have hc : ∀ y, y < 256 → cb y ≤ 8 := fun y hy => (c1_all ⟨y, hy⟩).2.2.2.2.2.2
  have hm : ∀ y : Nat, y % 256 < 256 := fun y => Nat.mod_lt _ (by decide)
  have h68 : ∀ y, y < 256 → c2 (c1 y) ≤ 68 := fun y hy => by have := c1_all ⟨y, hy⟩; have h4 := this.2.2.2.1; have h5 := this.2.2.2.2.1; simp only at h4 h5; omega
  refine ⟨cb _, cb _, cb _, cb _, cb _, cb _, cb _, cb _, hc _ (hm x), hc _ (hm (x / 256)), hc _ (hm (x / 256 / 256)), hc _ (hm (x / 256 / 256 / 256)), hc _ (hm (x / 256 / 256 / 256 / 256)), hc _ (hm (x / 256 / 256 / 256 / 256 / 256)), hc _ (hm (x / 256 / 256 / 256 / 256 / 256 / 256)), hc _ (hm (x / 256 / 256 / 256 / 256 / 256 / 256 / 256)), ?_, ?_, ?_, ?_⟩
  · rw [e3, hl]; rfl
  · unfold bitsL
    rw [show (64 : Nat) = 8 + (8 + (8 + (8 + (8 + (8 + (8 + (8 + 0))))))) from rfl]
    simp only [count_cut, cb_count, List.range_zero, List.filter_nil, List.length_nil]
    omega
  · rw [e2, hl]
    simp only [List.map_cons, List.map_nil, valB]
    have q0 := h68 _ (hm x)
    have q1 := h68 _ (hm (x / 256))
    have q2 := h68 _ (hm (x / 256 / 256))
    have q3 := h68 _ (hm (x / 256 / 256 / 256))
    have q4 := h68 _ (hm (x / 256 / 256 / 256 / 256))
    have q5 := h68 _ (hm (x / 256 / 256 / 256 / 256 / 256))
    have q6 := h68 _ (hm (x / 256 / 256 / 256 / 256 / 256 / 256))
    have q7 := h68 _ (hm (x / 256 / 256 / 256 / 256 / 256 / 256 / 256))
    generalize c2 (c1 (x % 256)) = y0 at *
    generalize c2 (c1 (x / 256 % 256)) = y1 at *
    generalize c2 (c1 (x / 256 / 256 % 256)) = y2 at *
    generalize c2 (c1 (x / 256 / 256 / 256 % 256)) = y3 at *
    generalize c2 (c1 (x / 256 / 256 / 256 / 256 % 256)) = y4 at *
    generalize c2 (c1 (x / 256 / 256 / 256 / 256 / 256 % 256)) = y5 at *
    generalize c2 (c1 (x / 256 / 256 / 256 / 256 / 256 / 256 % 256)) = y6 at *
    generalize c2 (c1 (x / 256 / 256 / 256 / 256 / 256 / 256 / 256 % 256)) = y7 at *
    clear h1 h2 h3 e1 e2 e3 hv hb hlen hl hc hm h68
    omega
  · have i1 : (x / 2 &&& 6148914691236517205) ≤ 6148914691236517205 := Nat.and_le_right
    have i2 : (x &&& 6148914691236517205) ≤ 6148914691236517205 := Nat.and_le_right
    unfold oc1
    omega
section
variable {a b c d e f g h : Nat}
theorem cut_div {q l r m : Nat} (h : q = l + m * r) (hl : l < m) : q / m = r := by
  rw [h, Nat.add_mul_div_left _ _ (by omega), Nat.div_eq_of_lt hl, Nat.zero_add]
theorem fs2 : (a + 256 * (b + 256 * (c + 256 * (d + 256 * (e + 256 * (f + 256 * (g + 256 * h))))))) + (b + 256 * (c + 256 * (d + 256 * (e + 256 * (f + 256 * (g + 256 * h)))))) = (a + b) + 256 * ((b + c) + 256 * ((c + d) + 256 * ((d + e) + 256 * ((e + f) + 256 * ((f + g) + 256 * ((g + h) + 256 * h)))))) := by omega
theorem fs3 : (a + b) + 256 * ((b + c) + 256 * ((c + d) + 256 * ((d + e) + 256 * ((e + f) + 256 * ((f + g) + 256 * ((g + h) + 256 * h)))))) = ((a + b) + 256 * (b + c)) + 65536 * ((c + d) + 256 * ((d + e) + 256 * ((e + f) + 256 * ((f + g) + 256 * ((g + h) + 256 * h))))) := by omega
theorem fs4 : ((a + b) + 256 * ((b + c) + 256 * ((c + d) + 256 * ((d + e) + 256 * ((e + f) + 256 * ((f + g) + 256 * ((g + h) + 256 * h))))))) + ((c + d) + 256 * ((d + e) + 256 * ((e + f) + 256 * ((f + g) + 256 * ((g + h) + 256 * h))))) = (a + b + c + d) + 256 * ((b + c + d + e) + 256 * ((c + d + e + f) + 256 * ((d + e + f + g) + 256 * ((e + f + g + h) + 256 * ((f + g + h) + 256 * ((g + h) + 256 * h)))))) := by omega
theorem fs5 : (a + b + c + d) + 256 * ((b + c + d + e) + 256 * ((c + d + e + f) + 256 * ((d + e + f + g) + 256 * ((e + f + g + h) + 256 * ((f + g + h) + 256 * ((g + h) + 256 * h)))))) = ((a + b + c + d) + 256 * ((b + c + d + e) + 256 * ((c + d + e + f) + 256 * (d + e + f + g)))) + 4294967296 * ((e + f + g + h) + 256 * ((f + g + h) + 256 * ((g + h) + 256 * h))) := by omega
theorem fs6 : ((a + b + c + d) + 256 * ((b + c + d + e) + 256 * ((c + d + e + f) + 256 * ((d + e + f + g) + 256 * ((e + f + g + h) + 256 * ((f + g + h) + 256 * ((g + h) + 256 * h))))))) + ((e + f + g + h) + 256 * ((f + g + h) + 256 * ((g + h) + 256 * h))) = (a + b + c + d + e + f + g + h) + 128 * (2 * ((b + c + d + e + f + g + h) + 256 * ((c + d + e + f + g + h) + 256 * ((d + e + f + g + h) + 256 * ((e + f + g + h) + 256 * ((f + g + h) + 256 * ((g + h) + 256 * h))))))) := by omega
theorem fsR (ha : a ≤ 8) (hb : b ≤ 8) (hc : c ≤ 8) (hd : d ≤ 8) (he : e ≤ 8) (hf : f ≤ 8) (hg : g ≤ 8) (hh : h ≤ 8) : (a + b) + 256 * ((b + c) + 256 * ((c + d) + 256 * ((d + e) + 256 * ((e + f) + 256 * ((f + g) + 256 * ((g + h) + 256 * h)))))) < 2 ^ 64 := by omega
theorem fsS (ha : a ≤ 8) (hb : b ≤ 8) (hc : c ≤ 8) (hd : d ≤ 8) (he : e ≤ 8) (hf : f ≤ 8) (hg : g ≤ 8) (hh : h ≤ 8) : (a + b + c + d) + 256 * ((b + c + d + e) + 256 * ((c + d + e + f) + 256 * ((d + e + f + g) + 256 * ((e + f + g + h) + 256 * ((f + g + h) + 256 * ((g + h) + 256 * h)))))) < 2 ^ 64 := by omega
theorem fsT (ha : a ≤ 8) (hb : b ≤ 8) (hc : c ≤ 8) (hd : d ≤ 8) (he : e ≤ 8) (hf : f ≤ 8) (hg : g ≤ 8) (hh : h ≤ 8) : (a + b + c + d + e + f + g + h) + 128 * (2 * ((b + c + d + e + f + g + h) + 256 * ((c + d + e + f + g + h) + 256 * ((d + e + f + g + h) + 256 * ((e + f + g + h) + 256 * ((f + g + h) + 256 * ((g + h) + 256 * h))))))) < 2 ^ 63 := by omega
theorem fsL (ha : a ≤ 8) (hb : b ≤ 8) (hc : c ≤ 8) (hd : d ≤ 8) (he : e ≤ 8) (hf : f ≤ 8) (hg : g ≤ 8) : (a + b + c + d) + 256 * ((b + c + d + e) + 256 * ((c + d + e + f) + 256 * (d + e + f + g))) < 4294967296 := by omega
theorem fold_sum {q : Nat} (ha : a ≤ 8) (hb : b ≤ 8) (hc : c ≤ 8) (hd : d ≤ 8) (he : e ≤ 8) (hf : f ≤ 8) (hg : g ≤ 8) (hh : h ≤ 8) (hq : q = a + 256 * (b + 256 * (c + 256 * (d + 256 * (e + 256 * (f + 256 * (g + 256 * h))))))) :
    ((q + q / 256) + (q + q / 256) / 65536 + ((q + q / 256) + (q + q / 256) / 65536) / 4294967296) % 128 = a + b + c + d + e + f + g + h ∧ q + q / 256 < 2 ^ 64 ∧ (q + q / 256) + (q + q / 256) / 65536 < 2 ^ 64 ∧ (q + q / 256) + (q + q / 256) / 65536 + ((q + q / 256) + (q + q / 256) / 65536) / 4294967296 < 2 ^ 63 := by
  have e1 : q / 256 = b + 256 * (c + 256 * (d + 256 * (e + 256 * (f + 256 * (g + 256 * h))))) := cut_div hq (by clear hq; omega)
  have e2 : q + q / 256 = (a + b) + 256 * ((b + c) + 256 * ((c + d) + 256 * ((d + e) + 256 * ((e + f) + 256 * ((f + g) + 256 * ((g + h) + 256 * h)))))) := by rw [e1, hq]; exact fs2
  rw [e2]
  have e3 : ((a + b) + 256 * ((b + c) + 256 * ((c + d) + 256 * ((d + e) + 256 * ((e + f) + 256 * ((f + g) + 256 * ((g + h) + 256 * h))))))) / 65536 = (c + d) + 256 * ((d + e) + 256 * ((e + f) + 256 * ((f + g) + 256 * ((g + h) + 256 * h)))) := cut_div fs3 (by clear hq e1 e2; omega)
  rw [e3, fs4]
  have e5 : ((a + b + c + d) + 256 * ((b + c + d + e) + 256 * ((c + d + e + f) + 256 * ((d + e + f + g) + 256 * ((e + f + g + h) + 256 * ((f + g + h) + 256 * ((g + h) + 256 * h))))))) / 4294967296 = (e + f + g + h) + 256 * ((f + g + h) + 256 * ((g + h) + 256 * h)) := cut_div fs5 (fsL ha hb hc hd he hf hg)
  rw [e5, fs6]
  refine ⟨?_, fsR ha hb hc hd he hf hg hh, fsS ha hb hc hd he hf hg hh, fsT ha hb hc hd he hf hg hh⟩
  rw [Nat.add_mul_mod_self_left, Nat.mod_eq_of_lt (by clear hq e1 e2 e3 e5; omega)]
end
theorem ones_count (x : Nat) (hx : x < 2 ^ 64) :
    ((oc x + oc x / 256) + (oc x + oc x / 256) / 65536 + ((oc x + oc x / 256) + (oc x + oc x / 256) / 65536) / 4294967296) % 128 = (bitsL x).length ∧ oc x + oc x / 256 < 2 ^ 64 ∧ (oc x + oc x / 256) + (oc x + oc x / 256) / 65536 < 2 ^ 64 ∧ (oc x + oc x / 256) + (oc x + oc x / 256) / 65536 + ((oc x + oc x / 256) + (oc x + oc x / 256) / 65536) / 4294967296 < 2 ^ 63 ∧ oc2 (oc1 x) ≤ 4919131752989213764 ∧ oc1 x < 2 ^ 64 := by
  obtain ⟨a, b, c, d, e, f, g, h, ha, hb, hc, hd, he, hf, hg, hh, h1, h2, h3, h4⟩ := ones_all x hx
  obtain ⟨k1, k2, k3, k4⟩ := fold_sum ha hb hc hd he hf hg hh h1
  exact ⟨k1.trans h2.symm, k2, k3, k4, h3, h4⟩
end Go.Proofs.YtgkeckfiacdpkaaDoor
