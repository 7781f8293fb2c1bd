/- Blocks that differ are enciphered to others: each step of a round can be undone. No program is named here. -/
import Derived.Test.YtleplilcpcgacaaAesKey
import Derived.Test.YtleplilcpcgacaaAesBox
namespace Go.Proofs.Ytleplilcpcgacaa

theorem xor_left_inj {a b c : UInt8} (h : a ^^^ c = b ^^^ c) : a = b := by
  have h2 := congrArg (· ^^^ c) h
  simp only [UInt8.xor_assoc, UInt8.xor_self, UInt8.xor_zero] at h2
  exact h2
theorem list_ext16 {a b : List UInt8} (ha : a.length = 16) (hb : b.length = 16) (h : ∀ i, i < 16 → a.getD i 0 = b.getD i 0) : a = b := by
  refine List.ext_getElem (by omega) fun i h1 h2 => ?_
  have := h i (by omega)
  simpa [List.getD, List.getElem?_eq_getElem h1, List.getElem?_eq_getElem h2] using this
theorem addL_inj {a b k : List UInt8} (ha : a.length = 16) (hb : b.length = 16) (h : addL a k 16 = addL b k 16) : a = b := by
  refine list_ext16 ha hb fun i hi => ?_
  have e : ∀ l : List UInt8, (addL l k 16).getD i 0 = l.getD i 0 ^^^ k.getD i 0 := fun l => map_getD (fun i => l.getD i 0 ^^^ k.getD i 0) 16 i 0 hi
  have h1 := e a
  rw [h, e b] at h1
  exact (xor_left_inj h1).symm
/-- where a byte goes to -/
theorem shiftIx_onto (i : Nat) (h : i < 16) : ∃ p, p < 16 ∧ shiftIx p = i := by
  have : ∀ i, i < 16 → ∃ p, p < 16 ∧ shiftIx p = i := by decide
  exact this i h
theorem box_inj_check : allB (fun i => allB (fun j => !(boxR i == boxR j) || Nat.beq i j) 256) 256 = true := by decide +kernel
theorem boxB_inj {x y : UInt8} (h : boxB.getD x.toNat 0 = boxB.getD y.toNat 0) : x = y := by
  have e : ∀ z : UInt8, boxB.getD z.toNat 0 = boxR z.toNat := fun z => map_getD boxR 256 z.toNat 0 z.toNat_lt
  rw [e, e] at h
  have hc := allB_at (allB_at box_inj_check x.toNat x.toNat_lt) y.toNat y.toNat_lt
  rw [h] at hc
  simp only [beq_self_eq_true, Bool.not_true, Bool.false_or] at hc
  exact UInt8.toNat_inj.1 (Nat.eq_of_beq_eq_true hc)
theorem shiftL_inj {a b : List UInt8} (ha : a.length = 16) (hb : b.length = 16) (h : shiftL a boxB 16 = shiftL b boxB 16) : a = b := by
  refine list_ext16 ha hb fun i hi => ?_
  obtain ⟨p, hp, rfl⟩ := shiftIx_onto i hi
  have e : ∀ l : List UInt8, (shiftL l boxB 16).getD p 0 = boxB.getD (l.getD (shiftIx p) 0).toNat 0 := fun l => map_getD (fun p => boxB.getD (l.getD (shiftIx p) 0).toNat 0) 16 p 0 hp
  have h1 := e a
  rw [h, e b] at h1
  exact (boxB_inj h1).symm
/-- a column, mixed -/
def mixC (a b c d : UInt8) : UInt8 := xt a ^^^ (xt b ^^^ b) ^^^ c ^^^ d
theorem mixL_at (l : List UInt8) (j : Nat) (h : j < 4) : (mixL l 16).getD (4 * j) 0 = mixC (l.getD (4 * j) 0) (l.getD (4 * j + 1) 0) (l.getD (4 * j + 2) 0) (l.getD (4 * j + 3) 0) ∧
    (mixL l 16).getD (4 * j + 1) 0 = mixC (l.getD (4 * j + 1) 0) (l.getD (4 * j + 2) 0) (l.getD (4 * j + 3) 0) (l.getD (4 * j) 0) ∧
    (mixL l 16).getD (4 * j + 2) 0 = mixC (l.getD (4 * j + 2) 0) (l.getD (4 * j + 3) 0) (l.getD (4 * j) 0) (l.getD (4 * j + 1) 0) ∧
    (mixL l 16).getD (4 * j + 3) 0 = mixC (l.getD (4 * j + 3) 0) (l.getD (4 * j) 0) (l.getD (4 * j + 1) 0) (l.getD (4 * j + 2) 0) := by
  have e : ∀ i, i < 16 → (mixL l 16).getD i 0 = mixAcc l i 4 := fun i hi => map_getD (fun p => mixAcc l p 4) 16 i 0 hi
  rw [e _ (by omega), e _ (by omega), e _ (by omega), e _ (by omega)]
  simp only [mixAcc]
  have q0 : 4 * j / 4 = j := by omega
  have q1 : (4 * j + 1) / 4 = j := by omega
  have q2 : (4 * j + 2) / 4 = j := by omega
  have q3 : (4 * j + 3) / 4 = j := by omega
  have r0 : 4 * j % 4 = 0 := by omega
  have r1 : (4 * j + 1) % 4 = 1 := by omega
  have r2 : (4 * j + 2) % 4 = 2 := by omega
  have r3 : (4 * j + 3) % 4 = 3 := by omega
  rw [q0, q1, q2, q3, r0, r1, r2, r3]
  simp only [mM, Nat.reduceAdd, Nat.reduceSub, Nat.reduceMod, mulU_one, mulU_two, mulU_three, Nat.add_zero]
  unfold mixC
  refine ⟨?_, ?_, ?_, ?_⟩ <;> simp <;> ac_rfl
theorem xor_lc (a b c : UInt8) : a ^^^ (b ^^^ c) = b ^^^ (a ^^^ c) := by ac_rfl
theorem xor_cl (a b : UInt8) : a ^^^ (a ^^^ b) = b := by rw [← UInt8.xor_assoc, UInt8.xor_self]; simp
/-- twice: 5 and 4 -/
def twoC (a c : UInt8) : UInt8 := xt (xt a) ^^^ a ^^^ xt (xt c)
theorem mix_twice (a b c d : UInt8) : mixC (mixC a b c d) (mixC b c d a) (mixC c d a b) (mixC d a b c) = twoC a c := by
  unfold mixC twoC
  simp only [xt_xor]
  generalize xt (xt a) = a2
  generalize xt (xt b) = b2
  generalize xt (xt c) = c2
  generalize xt (xt d) = d2
  generalize xt a = a1
  generalize xt b = b1
  generalize xt c = c1
  generalize xt d = d1
  simp only [UInt8.xor_comm, xor_lc, xor_cl, UInt8.xor_self, UInt8.xor_zero]
theorem two_twice (a c : UInt8) : twoC (twoC a c) (twoC c a) = a := by
  unfold twoC
  simp only [xt_xor]
  generalize xt (xt (xt (xt a))) = a4
  generalize xt (xt (xt (xt c))) = c4
  generalize xt (xt a) = a2
  generalize xt (xt c) = c2
  simp only [UInt8.xor_comm, xor_lc, xor_cl, UInt8.xor_self, UInt8.xor_zero]
/-- a column's first byte, of what it was mixed to -/
def unC (a b c d : UInt8) : UInt8 := twoC (mixC a b c d) (mixC c d a b)
theorem un_mix (a b c d : UInt8) : unC (mixC a b c d) (mixC b c d a) (mixC c d a b) (mixC d a b c) = a := by
  unfold unC
  rw [mix_twice, mix_twice, two_twice]
theorem mixL_inj {a b : List UInt8} (ha : a.length = 16) (hb : b.length = 16) (h : mixL a 16 = mixL b 16) : a = b := by
  refine list_ext16 ha hb fun i hi => ?_
  obtain ⟨j, hj⟩ : ∃ j, j = i / 4 := ⟨_, rfl⟩
  have hA := mixL_at a j (by omega)
  have hB := mixL_at b j (by omega)
  rw [h] at hA
  have e0 := hA.1.symm.trans hB.1
  have e1 := hA.2.1.symm.trans hB.2.1
  have e2 := hA.2.2.1.symm.trans hB.2.2.1
  have e3 := hA.2.2.2.symm.trans hB.2.2.2
  have f : ∀ {p q r s p' q' r' s' : UInt8}, mixC p q r s = mixC p' q' r' s' → mixC q r s p = mixC q' r' s' p' → mixC r s p q = mixC r' s' p' q' → mixC s p q r = mixC s' p' q' r' → p = p' := fun {p q r s p' q' r' s'} h0 h1 h2 h3 => by
    have h4 := un_mix p q r s
    rw [h0, h1, h2, h3, un_mix] at h4
    exact h4.symm
  rcases (by omega : i = 4 * j ∨ i = 4 * j + 1 ∨ i = 4 * j + 2 ∨ i = 4 * j + 3) with hi2 | hi2 | hi2 | hi2 <;> rw [hi2]
  · exact f e0 e1 e2 e3
  · exact f e1 e2 e3 e0
  · exact f e2 e3 e0 e1
  · exact f e3 e0 e1 e2
theorem rounds_inj {ks : List (List UInt8)} {a b : List UInt8} (ha : a.length = 16) (hb : b.length = 16) : ∀ r, roundsL ks boxB a r = roundsL ks boxB b r → a = b
  | 0, h => addL_inj ha hb h
  | r + 1, h => by
    refine rounds_inj (ks := ks) ha hb r ?_
    have la : ∀ x : List UInt8, (roundsL ks boxB x r).length = 16 := fun x => roundsL_length ks boxB x r
    have h2 : roundL ks boxB (roundsL ks boxB a r) (r + 1) = roundL ks boxB (roundsL ks boxB b r) (r + 1) := h
    unfold roundL at h2
    split at h2
    · have h3 := addL_inj (mixL_length _ _) (mixL_length _ _) h2
      exact shiftL_inj (la a) (la b) (mixL_inj (shiftL_length _ _ _) (shiftL_length _ _ _) h3)
    · have h3 := addL_inj (shiftL_length _ _ _) (shiftL_length _ _ _) h2
      exact shiftL_inj (la a) (la b) h3
theorem blockL_inj {ks : List (List UInt8)} {a b : List UInt8} (ha : a.length = 16) (hb : b.length = 16) (h : blockL ks boxB a = blockL ks boxB b) : a = b := rounds_inj ha hb 10 h
end Go.Proofs.Ytleplilcpcgacaa
