/- Bytes as entries, over lists: what pieces of 32 tell; what is encoded is decoded as it was. No program is named here. -/
import Derived.Test.YtaedlaeflliibaaEnO
namespace Go.Proofs.Ytaedlaeflliibaa
open Go.RowKit Go.Deep

/-- the j-th piece -/
def pcOf (b : List UInt8) (j : Nat) : List UInt8 := (b.drop (32 * j)).take 32
/-- what the first k pieces tell -/
def entsK (b : List UInt8) (k : Nat) : List En := (List.range k).map fun j => rdE (pcOf b j)
def entsE (b : List UInt8) : List En := entsK b (pcs b.length)
def decOk (b : List UInt8) : Bool := (decide (b.length % 32 = 0) && rightE (entsE b)) && (encL (entsE b) == b)
def decC (b : List UInt8) : Int := if decOk b then 0 else 4
def decR (b : List UInt8) : List En := if decOk b then entsE b else []
theorem entsK_next (b : List UInt8) (k : Nat) : entsK b (k + 1) = entsK b k ++ [rdE (pcOf b k)] := by
  unfold entsK
  rw [List.range_succ, List.map_append]; rfl
theorem entsK_len (b : List UInt8) (k : Nat) : (entsK b k).length = k := by simp [entsK]
theorem pcOf_len (b : List UInt8) (j : Nat) : (pcOf b j).length = pcl b.length j := by simp [pcOf, pcl]
theorem decOk_long {b : List UInt8} (h : 17920 < b.length) : decOk b = false := by
  unfold decOk
  by_cases h32 : b.length % 32 = 0
  · have hl : (entsE b).length = pcs b.length := entsK_len _ _
    have : rightE (entsE b) = false := by
      unfold rightE
      rw [decide_eq_false (by rw [hl]; unfold pcs; omega)]; rfl
    rw [this]; simp
  · rw [decide_eq_false h32]; rfl
theorem decOk_odd {b : List UInt8} (h : b.length % 32 ≠ 0) : decOk b = false := by
  unfold decOk
  rw [decide_eq_false h]; rfl
theorem rd_enc {x : En} (h : okE x = true) : rdE (enc1 x) = x := by
  obtain ⟨nm, z⟩ := x
  have hb := okE_b h
  simp only at hb
  obtain ⟨k, rfl⟩ := Int.eq_ofNat_of_zero_le (show 0 ≤ z by omega)
  have hl : (enc1 (nm, (k : Int))).length = 32 := enc1_len hb.1
  unfold rdE
  rw [if_pos hl]
  have hp : (padL nm 27).length = 27 := by rw [padL_length]; omega
  have e0 : enc1 (nm, (k : Int)) = [UInt8.ofNat nm.length] ++ (padL nm 27 ++ putN k 4) := rfl
  have h1 : (enc1 (nm, (k : Int))).take 1 = [UInt8.ofNat nm.length] := by rw [e0]; simp
  have h2 : ((enc1 (nm, (k : Int))).drop 1).take 27 = padL nm 27 := by
    rw [e0, List.drop_append_of_le_length (by simp)]
    simp only [List.drop_one, List.tail_cons, List.nil_append]
    rw [List.take_append_of_le_length (by rw [hp]; exact Nat.le_refl _), List.take_of_length_le (by rw [hp]; exact Nat.le_refl _)]
  have h3 : ((enc1 (nm, (k : Int))).drop 28).take 4 = putN k 4 := by
    rw [e0, ← List.append_assoc, List.drop_append]
    have e1 : ([UInt8.ofNat nm.length] ++ padL nm 27).length = 28 := by simp [hp]
    rw [List.drop_of_length_le (by rw [e1]; exact Nat.le_refl _), e1, List.nil_append, Nat.sub_self, List.drop_zero, List.take_of_length_le (by rw [putN_length]; exact Nat.le_refl _)]
  have h4 : getN [UInt8.ofNat nm.length] = nm.length := by
    simp only [getN, List.foldl_cons, List.foldl_nil]
    rw [ofNat_toNat]; omega
  have hk32 : k < 4294967296 := by omega
  have h5 : getN (putN k 4) = k := by rw [getN_putN]; exact Nat.mod_eq_of_lt (Nat.lt_of_lt_of_eq hk32 (by decide))
  unfold rd1
  rw [h1, h2, h3, h4, h5]
  have h6 : (padL nm 27).take (min nm.length 27) = nm := by
    rw [show min nm.length 27 = nm.length by omega]
    unfold padL
    rw [List.take_append_of_le_length (Nat.le_refl _), List.take_of_length_le (Nat.le_refl _)]
  rw [h6]
theorem pcOf_enc {l : List En} (h : ∀ x ∈ l, x.1.length ≤ 27) {j : Nat} (hj : j < l.length) : pcOf (encL l) j = enc1 l[j] := by
  induction l generalizing j with
  | nil => simp at hj
  | cons x l ih =>
    have h1 := enc1_len (h x (List.mem_cons_self ..))
    have e : encL (x :: l) = enc1 x ++ encL l := by simp [encL]
    unfold pcOf
    rw [e]
    cases j with
    | zero =>
      rw [Nat.mul_zero, List.drop_zero, List.take_append_of_le_length (by omega), List.take_of_length_le (by omega)]
      rfl
    | succ j =>
      have ih2 := ih (fun y hy => h y (List.mem_cons_of_mem _ hy)) (j := j) (by simpa using hj)
      unfold pcOf at ih2
      rw [List.drop_append, List.drop_of_length_le (by omega), List.nil_append, h1, show 32 * (j + 1) - 32 = 32 * j by omega, ih2]
      rfl
theorem ents_enc {l : List En} (h : rightE l = true) : entsE (encL l) = l := by
  have hall := right_all h
  have hb : ∀ x ∈ l, x.1.length ≤ 27 := fun x hx => (okE_b (hall.2 x hx)).1
  have hl := encL_len hb
  have hp : pcs (encL l).length = l.length := by rw [hl]; unfold pcs; omega
  unfold entsE
  rw [hp]
  refine List.ext_getElem (by rw [entsK_len]) fun j h1 h2 => ?_
  have e : (entsK (encL l) l.length)[j] = rdE (pcOf (encL l) j) := by simp [entsK]
  rw [e, pcOf_enc hb h2]
  exact rd_enc (hall.2 _ (List.getElem_mem h2))
theorem dec_enc {l : List En} (h : rightE l = true) : decC (encL l) = 0 ∧ decR (encL l) = l := by
  have hall := right_all h
  have hl := encL_len fun x hx => (okE_b (hall.2 x hx)).1
  have he := ents_enc h
  have : decOk (encL l) = true := by
    unfold decOk
    rw [he, h, decide_eq_true (by rw [hl]; omega)]
    simp
  unfold decC decR
  rw [this, he]; exact ⟨rfl, rfl⟩
/-- what is decoded is right, and encoded so -/
theorem dec_back {b : List UInt8} (h : decC b = 0) : rightE (decR b) = true ∧ encL (decR b) = b := by
  unfold decC at h
  unfold decR
  cases hd : decOk b with
  | false => rw [hd] at h; cases h
  | true =>
    unfold decOk at hd
    simp only [Bool.and_eq_true] at hd
    exact ⟨hd.1.2, eq_of_beq hd.2⟩
theorem dec_not {b : List UInt8} (h : decC b ≠ 0) : decR b = [] := by
  unfold decC at h
  unfold decR
  cases hd : decOk b with
  | false => rfl
  | true => rw [hd] at h; exact absurd rfl h
end Go.Proofs.Ytaedlaeflliibaa
