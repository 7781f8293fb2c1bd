/- What is known of a file, as plain lists: fields so wide, one behind the other; indexes; spans. No program is named here. -/
import Derived.Test.YtmiobgongddaiaaPure
namespace Go.Proofs.Ytmiobgongddaiaa
open Go.RowKit

/-- numbers as bytes, each so wide, one behind the other; and the way back -/
def encL : List Nat → List Int → List UInt8
  | w :: ws, z :: zs => putN z.toNat w ++ encL ws zs
  | _, _ => []
def decL : List Nat → List UInt8 → List Int
  | [], _ => []
  | w :: ws, b => (getN (b.take w) : Int) :: decL ws (b.drop w)
theorem encL_length : ∀ (ws : List Nat) (zs : List Int), ws.length = zs.length → (encL ws zs).length = ws.sum
  | [], [], _ => rfl
  | w :: ws, z :: zs, h => by
    rw [encL, List.length_append, putN_length, encL_length ws zs (by simpa using h), List.sum_cons]
  | [], _ :: _, h => by cases h
  | _ :: _, [], h => by cases h
theorem decL_length : ∀ (ws : List Nat) (b : List UInt8), (decL ws b).length = ws.length
  | [], _ => rfl
  | w :: ws, b => by rw [decL, List.length_cons, decL_length, List.length_cons]
theorem encL_append : ∀ (ws vs : List Nat) (zs ys : List Int), ws.length = zs.length → encL (ws ++ vs) (zs ++ ys) = encL ws zs ++ encL vs ys
  | [], _, [], _, _ => rfl
  | w :: ws, vs, z :: zs, ys, h => by
    rw [List.cons_append, List.cons_append, encL, encL, encL_append ws vs zs ys (by simpa using h), List.append_assoc]
  | [], _, _ :: _, _, h => by cases h
  | _ :: _, _, [], _, h => by cases h
theorem decL_append : ∀ (ws vs : List Nat) (b : List UInt8), decL (ws ++ vs) b = decL ws b ++ decL vs (b.drop ws.sum)
  | [], _, _ => rfl
  | w :: ws, vs, b => by
    rw [List.cons_append, decL, decL, decL_append ws vs, List.drop_drop, List.sum_cons, List.cons_append]
theorem dec_enc : ∀ (ws : List Nat) (zs : List Int) (t : List UInt8), ws.length = zs.length → (∀ (j w : Nat) (z : Int), ws[j]? = some w → zs[j]? = some z → 0 ≤ z ∧ z.toNat < 256 ^ w) → decL ws (encL ws zs ++ t) = zs
  | [], [], _, _, _ => rfl
  | w :: ws, z :: zs, t, h, hr => by
    obtain ⟨h0, h1⟩ := hr 0 w z rfl rfl
    rw [encL, decL, List.append_assoc, List.take_append_of_le_length (by rw [putN_length]; exact Nat.le_refl _), List.take_of_length_le (by rw [putN_length]; exact Nat.le_refl _), List.drop_append_of_le_length (by rw [putN_length]; exact Nat.le_refl _),
      List.drop_of_length_le (by rw [putN_length]; exact Nat.le_refl _), List.nil_append, dec_enc ws zs t (by simpa using h) (fun j => hr (j + 1)), getN_putN, Nat.mod_eq_of_lt h1, Int.toNat_of_nonneg h0]
  | [], _ :: _, _, h, _ => by cases h
  | _ :: _, [], _, h, _ => by cases h
theorem enc_dec : ∀ (ws : List Nat) (b : List UInt8), ws.sum ≤ b.length → encL ws (decL ws b) = b.take ws.sum
  | [], b, _ => by simp [encL]
  | w :: ws, b, h => by
    rw [List.sum_cons] at h
    have e1 : putN ((getN (b.take w) : Nat) : Int).toNat w = b.take w := by
      have h2 := putN_getN (b.take w)
      rw [List.length_take, Nat.min_eq_left (by omega)] at h2
      rw [Int.toNat_natCast, h2]
    rw [decL, encL, e1, enc_dec ws (b.drop w) (by rw [List.length_drop]; omega), List.sum_cons, List.take_add]
theorem decL_nonneg : ∀ (ws : List Nat) (b : List UInt8), ∀ z ∈ decL ws b, 0 ≤ z
  | [], _, z, h => by cases h
  | w :: ws, b, z, h => by
    rw [decL, List.mem_cons] at h
    rcases h with rfl | h
    · omega
    · exact decL_nonneg ws _ z h
theorem decL_at (ws : List Nat) (b : List UInt8) (j w : Nat) (h : ws[j]? = some w) : (decL ws b)[j]? = some ((getN ((b.drop (ws.take j).sum).take w) : Nat) : Int) := by
  induction ws generalizing b j with
  | nil => cases h
  | cons v ws ih =>
    cases j with
    | zero =>
      simp only [List.getElem?_cons_zero, Option.some.injEq] at h
      subst h
      simp [decL]
    | succ j =>
      simp only [List.getElem?_cons_succ] at h
      rw [decL, List.getElem?_cons_succ, ih _ j h, List.drop_drop, List.take_succ_cons, List.sum_cons]
theorem encL_step (ws : List Nat) (zs : List Int) (j w : Nat) (z : Int) (hl : ws.length = zs.length) (hw : ws[j]? = some w) (hz : zs[j]? = some z) : encL (ws.take (j + 1)) (zs.take (j + 1)) = encL (ws.take j) (zs.take j) ++ putN z.toNat w := by
  have h1 := (List.getElem?_eq_some_iff.1 hw).1
  have h2 := (List.getElem?_eq_some_iff.1 hz).1
  rw [List.take_succ_eq_append_getElem h1, List.take_succ_eq_append_getElem h2, encL_append _ _ _ _ (by simp; omega), (List.getElem?_eq_some_iff.1 hw).2, (List.getElem?_eq_some_iff.1 hz).2]
  simp [encL]
theorem decL_step (ws : List Nat) (b : List UInt8) (j w : Nat) (hw : ws[j]? = some w) : decL (ws.take (j + 1)) b = decL (ws.take j) b ++ [((getN ((b.drop (ws.take j).sum).take w) : Nat) : Int)] := by
  have h1 := (List.getElem?_eq_some_iff.1 hw).1
  rw [List.take_succ_eq_append_getElem h1, decL_append, (List.getElem?_eq_some_iff.1 hw).2]
  simp [decL]

/-- how wide each number of a record is kept, and the most that it may be -/
def wideN : List Nat := [1, 2, 4, 4, 4, 4, 4, 4, 4, 4]
def mostN : List Nat := [3, 65535, 17920, 4095, 4095, 4095, 4095, 4095, 4095, 4095]
def fitB (z : Int) (m : Nat) : Bool := decide (0 ≤ z) && decide (z ≤ (m : Int))
def fitL : List Nat → List Int → Bool
  | m :: ms, z :: zs => fitB z m && fitL ms zs
  | _, _ => true
/-- Right -/
def okN (zs : List Int) : Bool := fitL mostN zs && (!(zs.getD 0 0 == 0) || zs == List.replicate 10 0)
/-- Encode -/
def encN (zs : List Int) : List UInt8 := encL wideN zs ++ List.replicate 29 0
def encA (zs : List Int) : List UInt8 := if okN zs then encN zs else []
def encE (zs : List Int) : Int := if okN zs then 0 else 2
/-- Decode -/
def decB (b : List UInt8) : Bool := decide (b.length = 64) && (okN (decL wideN b) && (encN (decL wideN b) == b))
def decA (b : List UInt8) : List Int := if decB b then decL wideN b else List.replicate 10 0
def decE (b : List UInt8) : Int := if decB b then 0 else 4
theorem fitL_take : ∀ (ms : List Nat) (zs : List Int) (k : Nat) (m : Nat) (z : Int), ms[k]? = some m → zs[k]? = some z → fitL (ms.take (k + 1)) (zs.take (k + 1)) = (fitL (ms.take k) (zs.take k) && fitB z m)
  | [], _, _, _, _, h, _ => by cases h
  | _ :: _, [], _, _, _, _, h => by cases h
  | m' :: ms, z' :: zs, 0, m, z, h, h' => by
    simp only [List.getElem?_cons_zero, Option.some.injEq] at h h'
    subst h h'
    simp [fitL]
  | m' :: ms, z' :: zs, k + 1, m, z, h, h' => by
    simp only [List.getElem?_cons_succ] at h h'
    rw [List.take_succ_cons, List.take_succ_cons, fitL, fitL_take ms zs k m z h h', List.take_succ_cons, List.take_succ_cons, fitL, Bool.and_assoc]
theorem fitL_at : ∀ (ms : List Nat) (zs : List Int) (k : Nat) (m : Nat) (z : Int), fitL ms zs = true → ms[k]? = some m → zs[k]? = some z → 0 ≤ z ∧ z ≤ m
  | [], _, _, _, _, _, h, _ => by cases h
  | _ :: _, [], _, _, _, _, _, h => by cases h
  | m' :: ms, z' :: zs, 0, m, z, hf, h, h' => by
    simp only [List.getElem?_cons_zero, Option.some.injEq] at h h'
    subst h h'
    rw [fitL, Bool.and_eq_true] at hf
    have h1 := hf.1
    unfold fitB at h1
    rw [Bool.and_eq_true, decide_eq_true_eq, decide_eq_true_eq] at h1
    exact h1
  | m' :: ms, z' :: zs, k + 1, m, z, hf, h, h' => by
    simp only [List.getElem?_cons_succ] at h h'
    rw [fitL, Bool.and_eq_true] at hf
    exact fitL_at ms zs k m z hf.2 h h'
theorem fitL_false : ∀ (ms : List Nat) (zs : List Int) (k : Nat) (m : Nat) (z : Int), fitB z m = false → ms[k]? = some m → zs[k]? = some z → fitL ms zs = false := fun ms zs k m z hf h h' => by
  cases hc : fitL ms zs with
  | false => rfl
  | true =>
    have h1 := fitL_at ms zs k m z hc h h'
    unfold fitB at hf
    rw [decide_eq_true h1.1, decide_eq_true h1.2] at hf
    cases hf
theorem encN_length (zs : List Int) (h : zs.length = 10) : (encN zs).length = 64 := by
  unfold encN
  rw [List.length_append, encL_length _ _ (by rw [h]; rfl)]; simp [wideN]
theorem fit_small (ms ws : List Nat) (zs : List Int) (hf : fitL ms zs = true) (hl : ms.length = ws.length) (hm : ∀ (j m w : Nat), ms[j]? = some m → ws[j]? = some w → m < 256 ^ w) : ∀ (j w : Nat) (z : Int), ws[j]? = some w → zs[j]? = some z → 0 ≤ z ∧ z.toNat < 256 ^ w := fun j w z hw hz => by
  have hj := (List.getElem?_eq_some_iff.1 hw).1
  obtain ⟨m, hmj⟩ : ∃ m, ms[j]? = some m := ⟨_, List.getElem?_eq_getElem (by omega)⟩
  have h1 := fitL_at ms zs j m z hf hmj hz
  have h2 := hm j m w hmj hw
  exact ⟨h1.1, by omega⟩
theorem most_wide : ∀ (j m w : Nat), mostN[j]? = some m → wideN[j]? = some w → m < 256 ^ w := fun j m w h h' => by
  have hj : j < 10 := (List.getElem?_eq_some_iff.1 h).1
  have hc : j = 0 ∨ j = 1 ∨ j = 2 ∨ j = 3 ∨ j = 4 ∨ j = 5 ∨ j = 6 ∨ j = 7 ∨ j = 8 ∨ j = 9 := by omega
  rcases hc with rfl | rfl | rfl | rfl | rfl | rfl | rfl | rfl | rfl | rfl <;> (simp [mostN] at h; simp [wideN] at h'; subst h h'; decide)
theorem ok_fit {zs : List Int} (h : okN zs = true) : fitL mostN zs = true := by
  unfold okN at h
  rw [Bool.and_eq_true] at h
  exact h.1
theorem dec_encN (zs : List Int) (hl : zs.length = 10) (hk : okN zs = true) : decL wideN (encN zs) = zs := by
  unfold encN
  exact dec_enc wideN zs _ (by rw [hl]; rfl) (fit_small mostN wideN zs (ok_fit hk) rfl most_wide)
/-- what was written is read -/
theorem decB_enc (zs : List Int) (hl : zs.length = 10) (hk : okN zs = true) : decB (encN zs) = true := by
  unfold decB
  rw [dec_encN zs hl hk, hk, decide_eq_true (encN_length zs hl)]
  simp
theorem decA_enc (zs : List Int) (hl : zs.length = 10) (hk : okN zs = true) : decA (encN zs) = zs := by
  unfold decA
  rw [if_pos (decB_enc zs hl hk), dec_encN zs hl hk]
/-- as the document has it: what is behind the fields is noughts -/
theorem decB_ref (b : List UInt8) (hb : b.length = 64) : decB b = ((b.drop 35 == List.replicate 29 0) && okN (decL wideN b)) := by
  unfold decB
  rw [decide_eq_true hb, Bool.true_and, Bool.and_comm]
  congr 1
  unfold encN
  rw [enc_dec wideN b (by rw [hb]; decide)]
  have e1 : wideN.sum = 35 := rfl
  rw [e1, Bool.eq_iff_iff, beq_iff_eq, beq_iff_eq]
  constructor
  · intro h
    have h2 := List.append_inj (h.trans (List.take_append_drop 35 b).symm) rfl
    exact h2.2.symm
  · intro h
    rw [← h, List.take_append_drop]
theorem enc_inj (zs ys : List Int) (h1 : zs.length = 10) (h2 : ys.length = 10) (k1 : okN zs = true) (k2 : okN ys = true) : (encN zs == encN ys) = (zs == ys) := by
  rw [Bool.eq_iff_iff, beq_iff_eq, beq_iff_eq]
  constructor
  · intro h
    rw [← dec_encN zs h1 k1, h, dec_encN ys h2 k2]
  · rintro rfl; rfl
theorem okN_zero : okN (List.replicate 10 0) = true := by decide
theorem encN_zero : encN (List.replicate 10 0) = List.replicate 64 0 := by decide
theorem enc_free (zs : List Int) (h : zs.length = 10) (k : okN zs = true) : (encN zs == List.replicate 64 0) = (zs.getD 0 0 == 0) ∧ ((zs.getD 0 0 == 0) = (zs == List.replicate 10 0)) := by
  have h3 : (zs.getD 0 0 == 0) = (zs == List.replicate 10 0) := by
    unfold okN at k
    rw [Bool.and_eq_true] at k
    cases hz : zs.getD 0 0 == 0 with
    | true =>
      rw [hz] at k
      have := k.2
      simp only [Bool.not_true, Bool.false_or] at this
      rw [this]
    | false =>
      symm
      rw [beq_eq_false_iff_ne]
      rintro rfl
      cases hz
  rw [← encN_zero, enc_inj zs _ h rfl k okN_zero, h3]
  exact ⟨rfl, rfl⟩

/-- a pointer; an index -/
def ptrB (z : Int) : Bool := fitB z 4095
def idxB (l : List Int) : Bool := decide (l.length ≤ 64) && l.all ptrB
def idxL (l : List Int) : List UInt8 := encL (List.replicate l.length 4) l
def idxN (l : List Int) : List UInt8 := idxL l ++ List.replicate (256 - 4 * l.length) 0
def idxA (l : List Int) : List UInt8 := if idxB l then idxN l else []
def idxE (l : List Int) : Int := if idxB l then 0 else 2
def ptrL (b : List UInt8) : List Int := decL (List.replicate 64 4) b
def ptrK (b : List UInt8) : Bool := decide (b.length = 256) && (ptrL b).all ptrB
def ptrA (b : List UInt8) : List Int := if ptrK b then ptrL b else []
def ptrE (b : List UInt8) : Int := if ptrK b then 0 else 4
theorem sum_rep (n k : Nat) : (List.replicate n k).sum = n * k := by
  induction n with
  | zero => simp
  | succ n ih => rw [List.replicate_succ, List.sum_cons, ih, Nat.succ_mul, Nat.add_comm]
theorem idxL_length (l : List Int) : (idxL l).length = 4 * l.length := by
  unfold idxL
  rw [encL_length _ _ (by simp), sum_rep, Nat.mul_comm]
theorem idxN_length (l : List Int) (h : l.length ≤ 64) : (idxN l).length = 256 := by
  unfold idxN
  rw [List.length_append, idxL_length, List.length_replicate]; omega
theorem idxL_snoc (l : List Int) (z : Int) : idxL (l ++ [z]) = idxL l ++ putN z.toNat 4 := by
  unfold idxL
  rw [List.length_append, List.length_singleton, List.replicate_succ', encL_append _ _ _ _ (by simp)]
  simp [encL]
theorem encL_zeros (n : Nat) : encL (List.replicate n 4) (List.replicate n 0) = List.replicate (4 * n) 0 := by
  induction n with
  | zero => rfl
  | succ n ih =>
    rw [List.replicate_succ, List.replicate_succ, encL, ih, show (0 : Int).toNat = 0 from rfl, show putN 0 4 = List.replicate 4 0 from rfl, List.replicate_append_replicate]
    congr 1
    omega
theorem ptr_idx (l : List Int) (h : l.length ≤ 64) (hk : l.all ptrB = true) : ptrL (idxN l) = l ++ List.replicate (64 - l.length) 0 := by
  have e1 : idxN l = encL (List.replicate 64 4) (l ++ List.replicate (64 - l.length) 0) ++ [] := by
    rw [List.append_nil, show List.replicate 64 4 = List.replicate l.length 4 ++ List.replicate (64 - l.length) 4 by rw [List.replicate_append_replicate]; congr 1; omega, encL_append _ _ _ _ (by simp), encL_zeros]
    unfold idxN idxL
    congr 2
    omega
  unfold ptrL
  rw [e1]
  refine dec_enc _ _ _ (by simp; omega) fun j w z hw hz => ?_
  obtain ⟨_, rfl⟩ := List.mem_replicate.1 (List.mem_of_getElem? hw)
  have hm : z ∈ l ++ List.replicate (64 - l.length) 0 := List.mem_of_getElem? hz
  rw [List.mem_append] at hm
  rcases hm with hm | hm
  · have h1 := List.all_eq_true.1 hk z hm
    unfold ptrB fitB at h1
    rw [Bool.and_eq_true, decide_eq_true_eq, decide_eq_true_eq] at h1
    exact ⟨h1.1, by omega⟩
  · obtain ⟨_, rfl⟩ := List.mem_replicate.1 hm
    exact ⟨by omega, by decide⟩
theorem ptrK_idx (l : List Int) (hb : idxB l = true) : ptrK (idxN l) = true := by
  unfold idxB at hb
  rw [Bool.and_eq_true, decide_eq_true_eq] at hb
  unfold ptrK
  rw [ptr_idx l hb.1 hb.2, decide_eq_true (idxN_length l hb.1), Bool.true_and, List.all_append, hb.2, Bool.true_and]
  rw [List.all_eq_true]
  intro z hz
  obtain ⟨_, rfl⟩ := List.mem_replicate.1 hz
  rfl
theorem ptrA_idx (l : List Int) (hb : idxB l = true) : ptrA (idxN l) = l ++ List.replicate (64 - l.length) 0 := by
  unfold ptrA
  rw [if_pos (ptrK_idx l hb)]
  unfold idxB at hb
  rw [Bool.and_eq_true, decide_eq_true_eq] at hb
  exact ptr_idx l hb.1 hb.2

/-- a block's bytes of those from at to end; spans -/
structure Sp where
  k : Nat
  f : Nat
  t : Nat
deriving DecidableEq
def spN (at_ end_ k : Nat) : Sp := ⟨k, at_ - 256 * k, min (end_ - 256 * k) 256⟩
def spsN (at_ end_ : Nat) : List Sp := (List.range ((end_ + 255) / 256 - at_ / 256)).map fun j => spN at_ end_ (at_ / 256 + j)
def spB (z n : Int) : Bool := decide (0 ≤ z) && decide (1 ≤ n) && decide (z ≤ 17920) && decide (n ≤ 17920)
def spA (z n : Int) : List Sp := if spB z n then spsN z.toNat (z.toNat + n.toNat) else []
def blkN (z : Int) : Nat := (min z.toNat 17920 + 255) / 256
end Go.Proofs.Ytmiobgongddaiaa
