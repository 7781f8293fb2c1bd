/- A key, spread: words, and the rounds' keys. No program is named here. -/
import Derived.Test.YtleplilcpcgacaaAesSt
namespace Go.Proofs.Ytleplilcpcgacaa

def rcon : Nat → UInt8
  | 0 => 1
  | k + 1 => xt (rcon k)
def rl (x : UInt32) : UInt32 := w4 (by4 x 1) (by4 x 2) (by4 x 3) (by4 x 0)
def kg (bx : List UInt8) (m : Nat) (x : UInt32) : UInt32 := if m % 4 = 0 then subN bx (rl x) ^^^ w4 (rcon (m / 4)) 0 0 0 else x
def wl (bx key : List UInt8) : Nat → List UInt32
  | 0 => wordsL key
  | m + 1 => wl bx key m ++ [kg bx m ((wl bx key m).getD (m + 3) 0) ^^^ (wl bx key m).getD m 0]
/-- a word of a key, spread -/
def Wk (bx key : List UInt8) (m : Nat) : UInt32 := (wl bx key 40).getD m 0
section
variable (bx key : List UInt8)
theorem wl_length (m : Nat) : (wl bx key m).length = m + 4 := by
  induction m with
  | zero => exact wordsL_length key
  | succ m ih => simp [wl, ih]
theorem wl_next (m i : Nat) (h : i < m + 4) : (wl bx key (m + 1)).getD i 0 = (wl bx key m).getD i 0 := by
  simp only [wl, List.getD]
  rw [List.getElem?_append_left (by rw [wl_length]; exact h)]
theorem wl_stable (m d i : Nat) (h : i < m + 4) : (wl bx key (m + d)).getD i 0 = (wl bx key m).getD i 0 := by
  induction d with
  | zero => rfl
  | succ d ih => rw [← Nat.add_assoc, wl_next bx key _ i (by omega), ih]
theorem Wk_low (m : Nat) (h : m < 4) : Wk bx key m = wd key m := by
  have h1 := wl_stable bx key 0 40 m (by omega)
  rw [Nat.zero_add] at h1
  unfold Wk
  rw [h1]
  exact map_getD _ _ _ _ h
theorem Wk_step (m : Nat) (h : m < 40) : Wk bx key (m + 4) = kg bx m (Wk bx key (m + 3)) ^^^ Wk bx key m := by
  have e : ∀ n i, n ≤ 40 → i < n + 4 → Wk bx key i = (wl bx key n).getD i 0 := fun n i hn hi => by
    have h1 := wl_stable bx key n (40 - n) i hi
    rw [show n + (40 - n) = 40 by omega] at h1
    exact h1
  rw [e (m + 1) (m + 4) (by omega) (by omega), e m (m + 3) (by omega) (by omega), e m m (by omega) (by omega)]
  simp only [wl, List.getD]
  rw [List.getElem?_append_right (by rw [wl_length]; omega), wl_length]
  simp
/-- a round's key -/
def kch (r : Nat) : List UInt8 := (List.range 16).map fun p => by4 (Wk bx key (4 * r + p / 4)) (p % 4)
theorem kch_length (r : Nat) : (kch bx key r).length = 16 := by simp [kch]
theorem wd_kch (r j : Nat) (h : j < 4) : wd (kch bx key r) j = Wk bx key (4 * r + j) := by
  have e : ∀ p, p < 16 → (kch bx key r).getD p 0 = by4 (Wk bx key (4 * r + p / 4)) (p % 4) := fun p hp => map_getD _ _ _ _ hp
  unfold wd
  rw [e _ (by omega), e _ (by omega), e _ (by omega), e _ (by omega)]
  rw [show 4 * j / 4 = j by omega, show (4 * j + 1) / 4 = j by omega, show (4 * j + 2) / 4 = j by omega, show (4 * j + 3) / 4 = j by omega, show 4 * j % 4 = 0 by omega, show (4 * j + 1) % 4 = 1 by omega, show (4 * j + 2) % 4 = 2 by omega, show (4 * j + 3) % 4 = 3 by omega]
  exact (w4_of _).symm
theorem kch_words (r : Nat) (hr : r < 11) : ((cells32 ((List.range 44).map (Wk bx key))).drop (4 * r)).take 4 = cells32 (wordsL (kch bx key r)) := by
  refine List.ext_getElem (by simp [cells32, wordsL]; omega) fun i h1 h2 => ?_
  have hi : i < 4 := by simpa [cells32, wordsL] using h2
  have e1 := wordsL_at (kch bx key r) i hi
  rw [wd_kch bx key r i hi] at e1
  have e2 := rangeW_at (Wk bx key) 44 (4 * r + i) (by omega)
  rw [List.getElem?_eq_getElem h2] at e1
  have e3 := Option.some.inj e1
  rw [e3, List.getElem_take, List.getElem_drop]
  have hl : 4 * r + i < (cells32 ((List.range 44).map (Wk bx key))).length := by simp [cells32]; omega
  rw [List.getElem?_eq_getElem hl] at e2
  exact Option.some.inj e2
/-- a byte of a key, spread -/
def kby (q : Nat) : UInt8 := by4 (Wk bx key (q / 4)) (q % 4)
theorem kby_low (q : Nat) (h : q < 16) : kby bx key q = key.getD q 0 := by
  unfold kby
  rw [Wk_low bx key _ (by omega), by4_wd]
theorem by4_xor (x y : UInt32) (k : Nat) (hk : k < 4) : by4 (x ^^^ y) k = by4 x k ^^^ by4 y k := by
  conv => lhs; rw [w4_of x, w4_of y, w4_xor]
  have h := by4_w4 (by4 x 0 ^^^ by4 y 0) (by4 x 1 ^^^ by4 y 1) (by4 x 2 ^^^ by4 y 2) (by4 x 3 ^^^ by4 y 3)
  rcases (by omega : k = 0 ∨ k = 1 ∨ k = 2 ∨ k = 3) with rfl | rfl | rfl | rfl
  · exact h.1
  · exact h.2.1
  · exact h.2.2.1
  · exact h.2.2.2
theorem kby_plain (m k : Nat) (hm : m < 40) (hk : k < 4) (h0 : m % 4 ≠ 0) : kby bx key (16 + 4 * m + k) = kby bx key (4 * m + k) ^^^ kby bx key (16 + 4 * m - 4 + k) := by
  unfold kby
  rw [show (16 + 4 * m + k) / 4 = m + 4 by omega, show (16 + 4 * m + k) % 4 = k by omega, show (4 * m + k) / 4 = m by omega, show (4 * m + k) % 4 = k by omega, show (16 + 4 * m - 4 + k) / 4 = m + 3 by omega, show (16 + 4 * m - 4 + k) % 4 = k by omega, Wk_step bx key m hm, by4_xor _ _ _ hk]
  unfold kg
  rw [if_neg h0, UInt8.xor_comm]
theorem kby_round (m k : Nat) (hm : m < 40) (hk : k < 4) (h0 : m % 4 = 0) : kby bx key (16 + 4 * m + k) = kby bx key (4 * m + k) ^^^ (bx.getD (kby bx key (16 + 4 * m - 4 + (k + 1) % 4)).toNat 0 ^^^ (if k = 0 then rcon (m / 4) else 0)) := by
  unfold kby
  rw [show (16 + 4 * m + k) / 4 = m + 4 by omega, show (16 + 4 * m + k) % 4 = k by omega, show (4 * m + k) / 4 = m by omega, show (4 * m + k) % 4 = k by omega, show (16 + 4 * m - 4 + (k + 1) % 4) / 4 = m + 3 by omega, show (16 + 4 * m - 4 + (k + 1) % 4) % 4 = (k + 1) % 4 by omega, Wk_step bx key m hm, by4_xor _ _ _ hk]
  unfold kg
  rw [if_pos h0, by4_xor _ _ _ hk, UInt8.xor_comm]
  unfold rl
  rw [sub_w4]
  generalize Wk bx key (m + 3) = x
  have h := by4_w4 (bx.getD (by4 x 1).toNat 0) (bx.getD (by4 x 2).toNat 0) (bx.getD (by4 x 3).toNat 0) (bx.getD (by4 x 0).toNat 0)
  have h2 := by4_w4 (rcon (m / 4)) 0 0 0
  rcases (by omega : k = 0 ∨ k = 1 ∨ k = 2 ∨ k = 3) with rfl | rfl | rfl | rfl
  · rw [h.1, h2.1]; rfl
  · rw [h.2.1, h2.2.1]; rfl
  · rw [h.2.2.1, h2.2.2.1]; rfl
  · rw [h.2.2.2, h2.2.2.2]; rfl
/-- a key, spread -/
def keysL : List (List UInt8) := (List.range 11).map (kch bx key)
theorem keysL_at (r : Nat) (h : r < 11) : (keysL bx key).getD r [] = kch bx key r := map_getD _ _ _ _ h
theorem kch_kby (r : Nat) : kch bx key r = (List.range 16).map fun p => kby bx key (16 * r + p) := by
  unfold kch kby
  refine List.map_congr_left fun p hp => ?_
  have := List.mem_range.1 hp
  rw [show (16 * r + p) / 4 = 4 * r + p / 4 by omega, show (16 * r + p) % 4 = p % 4 by omega]
end
end Go.Proofs.Ytleplilcpcgacaa
