/- The law BitsTwice. -/
import Derived.Test.YtgkeckfiacdpkaaDoorBtK
namespace Go.Proofs.YtgkeckfiacdpkaaDoor
open Go.RowKit Go.Shelf

section
set_option maxRecDepth 100000
set_option maxHeartbeats 2000000
theorem law_bitsTwice (A : Option Addr) (n c : Nat) (b : List UInt8) (z1 z2 : Int) (x y : Bool) (w : World) (ha' : Bs w w.heap.size A n c b ∧ c ≤ 140737488351232) (hz1 : (Lit.int .u16 z1).wf = true) (hz2 : (Lit.int .u16 z2).wf = true) (hT : TabD w ∧ 0 < w.heap.size) :
    Calls Tryd.prog 8 #[.slice A n c, .int .u16 z1, .int .u16 z2, .bool x, .bool y] w fun e w' => e = .returned (.bool true) ∧ Below w.heap.size w w' := by
  obtain ⟨ha, _⟩ := ha'
  have HB : Kp _ := ⟨ha⟩
  have hlen := ha.len
  have b1 := u16_b hz1
  have b2 := u16_b hz2
  obtain ⟨i, rfl⟩ := Int.eq_ofNat_of_zero_le b1.1
  obtain ⟨k, rfl⟩ := Int.eq_ofNat_of_zero_le b2.1
  have hi : i ≤ 65535 := by omega
  have hk : k ≤ 65535 := by omega
  have HLn : Kp (b.length = n) := ⟨hlen⟩
  clear hz1 hz2 b1 b2 ha hlen
  have HT : Kp _ := ⟨hT.1⟩
  have HP : Kp _ := ⟨hT.2⟩
  have HBel : Kp (Below w.heap.size w w) := ⟨Below.refl _ _⟩
  by_cases hbig : 100 < n ∨ n = 0
  · rcases hbig with hbig | hbig
    all_goals
      try subst hbig
      go_enter Tryd.func8, Tryd.ntmps8
      go_wp2_with fail
      refine (known12_any _ HP.out HT.out).mono ?_
      rintro e x1 ⟨rfl, hb⟩
      replace HT : Kp _ := ⟨HT.out.below hb HP.out⟩
      replace HP : Kp _ := ⟨Nat.lt_of_lt_of_le HP.out hb.size⟩
      replace HBel : Kp _ := ⟨HBel.out.trans (hb.mono HBel.out.size)⟩
      clear hb
      go_wp2
      go_ret
      exact ⟨rfl, HBel.out⟩
  have hn0 : 0 < n := by omega
  have hn1 : n ≤ 100 := by omega
  have hn2 : ¬ (100 < n) := by omega
  have hn3 : ¬ n = 0 := by omega
  have hn4 : decide (100 < (n : Int)) = false := decide_eq_false (by omega)
  have hn5 : ((n : Int) == 0) = false := by rw [beq_eq_false_iff_ne]; omega
  obtain ⟨p, hp⟩ : ∃ p, p = i % (8 * n) := ⟨_, rfl⟩
  obtain ⟨q, hq⟩ : ∃ q, q = k % (8 * n) := ⟨_, rfl⟩
  have hpl : p < 8 * n := by rw [hp]; exact Nat.mod_lt _ (by omega)
  have hql : q < 8 * n := by rw [hq]; exact Nat.mod_lt _ (by omega)
  have rp : (i : Int) % (8 * (n : Int)) = (p : Int) := by rw [hp]; rfl
  have rq : (k : Int) % (8 * (n : Int)) = (q : Int) := by rw [hq]; rfl
  have e1 : ∀ l : List UInt8, l.length = n → ∀ t, setI l (p : Int) t = setb l p t := fun l hl t => setI_nat (by omega) t
  have e2 : ∀ l : List UInt8, l.length = n → ∀ t, setI l (q : Int) t = setb l q t := fun l hl t => setI_nat (by omega) t
  obtain ⟨bc, hbc⟩ : ∃ l, l = setI (setI b (p : Int) x) (q : Int) y := ⟨_, rfl⟩
  obtain ⟨bd, hbd⟩ : ∃ l, l = setI (setI b (q : Int) y) (p : Int) x := ⟨_, rfl⟩
  have hlc : bc.length = n := by rw [hbc, setI_length, setI_length]; exact HLn.out
  have hld : bd.length = n := by rw [hbd, setI_length, setI_length]; exact HLn.out
  have hbc2 : bc = setb (setb b p x) q y := by rw [hbc, e1 b HLn.out, e2 _ (by rw [setb_length]; exact HLn.out)]
  have hbd2 : bd = setb (setb b q y) p x := by rw [hbd, e2 b HLn.out, e1 _ (by rw [setb_length]; exact HLn.out)]
  have gc : ∀ j, gb bc j = if q = j then y else if p = j then x else gb b j := fun j => by
    rw [hbc2, gb_setb _ _ _ _ (by rw [setb_length, HLn.out]; exact hql), gb_setb _ _ _ _ (by rw [HLn.out]; exact hpl)]
  have gd : ∀ j, gb bd j = if p = j then x else if q = j then y else gb b j := fun j => by
    rw [hbd2, gb_setb _ _ _ _ (by rw [setb_length, HLn.out]; exact hpl), gb_setb _ _ _ _ (by rw [HLn.out]; exact hql)]
  have HSc : Kp (∀ l, l = setI b (p : Int) x → setI l (q : Int) y = bc) := ⟨fun l h => by rw [h, hbc]⟩
  have HSd : Kp (∀ l, l = setI b (q : Int) y → setI l (p : Int) x = bd) := ⟨fun l h => by rw [h, hbd]⟩
  have G1 : Kp (gbI bc (q : Int) = y) := ⟨by rw [gbI_nat, gc, if_pos rfl]⟩
  have G2 : Kp (gbI bd (p : Int) = x) := ⟨by rw [gbI_nat, gd, if_pos rfl]⟩
  have G3 : Kp (p ≠ q → gbI bc (p : Int) = x) := ⟨fun h => by rw [gbI_nat, gc, if_neg (fun e => h e.symm), if_pos rfl]⟩
  have G4 : Kp (p ≠ q → (bc == bd) = true) := ⟨fun h => by
    rw [beq_iff_eq]
    refine bits_ext (by rw [hlc, hld]) fun j _ => ?_
    rw [gc, gd]
    by_cases h1 : q = j
    · rw [if_pos h1, if_neg (by omega), if_pos h1]
    · rw [if_neg h1, if_neg h1]⟩
  have G5 : Kp ((b == b) = true) := ⟨by simp⟩
  clear hbc hbd hbc2 hbd2 gc gd e1 e2 hp hq hbig hlc hld HLn
  go_enter Tryd.func8, Tryd.ntmps8
  go_wp2_with fail
  refine (cop_any A n c b w HB.out (by omega)).mono ?_
  rintro e x0 ⟨v, rfl, hown, hb⟩
  obtain ⟨Aw, cw, rfl, hrow⟩ := Bs.of_own hown
  clear hown
  replace HB : Kp _ := ⟨HB.out.next hb (Nat.le_refl _)⟩
  replace HT : Kp _ := ⟨HT.out.below hb HP.out⟩
  replace HP : Kp _ := ⟨Nat.lt_of_lt_of_le HP.out hb.size⟩
  replace HBel : Kp _ := ⟨HBel.out.trans (hb.mono HBel.out.size)⟩
  clear hb
  have HW : Kp _ := ⟨hrow⟩
  clear hrow
  have HCl : Kp _ := ⟨set_any A n c (p : Int) x b _ HB.out (by omega) (by omega)⟩
  go_wp2_with fail
  refine HCl.out.mono ?_
  rintro e x1 ⟨As1, cs1, rfl, hrow, hb⟩
  clear HCl
  replace HB : Kp _ := ⟨HB.out.next hb (Nat.le_refl _)⟩
  replace HW : Kp _ := ⟨HW.out.next hb (Nat.le_refl _)⟩
  replace HT : Kp _ := ⟨HT.out.below hb HP.out⟩
  replace HP : Kp _ := ⟨Nat.lt_of_lt_of_le HP.out hb.size⟩
  replace HBel : Kp _ := ⟨HBel.out.trans (hb.mono HBel.out.size)⟩
  clear hb
  have Hs1 : Kp _ := ⟨hrow⟩
  clear hrow
  have HCl : Kp _ := ⟨set_any As1 n cs1 (q : Int) y (setI b (p : Int) x) _ Hs1.out (by omega) (by omega)⟩
  go_wp2_with fail
  refine HCl.out.mono ?_
  rintro e x2 ⟨As2, cs2, rfl, hrow, hb⟩
  clear HCl
  replace HB : Kp _ := ⟨HB.out.next hb (Nat.le_refl _)⟩
  replace HW : Kp _ := ⟨HW.out.next hb (Nat.le_refl _)⟩
  replace Hs1 : Kp _ := ⟨Hs1.out.next hb (Nat.le_refl _)⟩
  replace HT : Kp _ := ⟨HT.out.below hb HP.out⟩
  replace HP : Kp _ := ⟨Nat.lt_of_lt_of_le HP.out hb.size⟩
  replace HBel : Kp _ := ⟨HBel.out.trans (hb.mono HBel.out.size)⟩
  clear hb
  have Hs2 : Kp _ := ⟨hrow⟩
  clear hrow
  rw [HSc.out _ rfl] at Hs2
  clear Hs1
  have HCl : Kp _ := ⟨set_any A n c (q : Int) y b _ HB.out (by omega) (by omega)⟩
  go_wp2_with fail
  refine HCl.out.mono ?_
  rintro e x3 ⟨As3, cs3, rfl, hrow, hb⟩
  clear HCl
  replace HB : Kp _ := ⟨HB.out.next hb (Nat.le_refl _)⟩
  replace HW : Kp _ := ⟨HW.out.next hb (Nat.le_refl _)⟩
  replace Hs2 : Kp _ := ⟨Hs2.out.next hb (Nat.le_refl _)⟩
  replace HT : Kp _ := ⟨HT.out.below hb HP.out⟩
  replace HP : Kp _ := ⟨Nat.lt_of_lt_of_le HP.out hb.size⟩
  replace HBel : Kp _ := ⟨HBel.out.trans (hb.mono HBel.out.size)⟩
  clear hb
  have Hs3 : Kp _ := ⟨hrow⟩
  clear hrow
  have HCl : Kp _ := ⟨set_any As3 n cs3 (p : Int) x (setI b (q : Int) y) _ Hs3.out (by omega) (by omega)⟩
  go_wp2_with fail
  refine HCl.out.mono ?_
  rintro e x4 ⟨As4, cs4, rfl, hrow, hb⟩
  clear HCl
  replace HB : Kp _ := ⟨HB.out.next hb (Nat.le_refl _)⟩
  replace HW : Kp _ := ⟨HW.out.next hb (Nat.le_refl _)⟩
  replace Hs2 : Kp _ := ⟨Hs2.out.next hb (Nat.le_refl _)⟩
  replace Hs3 : Kp _ := ⟨Hs3.out.next hb (Nat.le_refl _)⟩
  replace HT : Kp _ := ⟨HT.out.below hb HP.out⟩
  replace HP : Kp _ := ⟨Nat.lt_of_lt_of_le HP.out hb.size⟩
  replace HBel : Kp _ := ⟨HBel.out.trans (hb.mono HBel.out.size)⟩
  clear hb
  have Hs4 : Kp _ := ⟨hrow⟩
  clear hrow
  rw [HSd.out _ rfl] at Hs4
  clear Hs3 HSc HSd
  by_cases hpq : p = q
  · subst hpq
    clear rq
    have hcall := get_any As2 n cs2 (p : Int) bc _ _ Hs2.out (by omega)
    rw [G1.out] at hcall
    have HCl : Kp _ := ⟨hcall⟩
    clear hcall
    go_wp2_with fail
    refine HCl.out.mono ?_
    rintro e x5 ⟨rfl, mD, rfl⟩
    have hb := below_drewN x4 x4.heap.size mD
    replace HB : Kp _ := ⟨HB.out.next hb (Nat.le_refl _)⟩
    replace HW : Kp _ := ⟨HW.out.next hb (Nat.le_refl _)⟩
    replace Hs2 : Kp _ := ⟨Hs2.out.next hb (Nat.le_refl _)⟩
    replace Hs4 : Kp _ := ⟨Hs4.out.next hb (Nat.le_refl _)⟩
    replace HT : Kp _ := ⟨HT.out.below hb HP.out⟩
    replace HP : Kp _ := ⟨Nat.lt_of_lt_of_le HP.out hb.size⟩
    replace HBel : Kp _ := ⟨HBel.out.trans (hb.mono HBel.out.size)⟩
    clear hb
    clear HCl
    generalize x4.drewN mD = x5 at *
    have hcall := get_any As4 n cs4 (p : Int) bd _ _ Hs4.out (by omega)
    rw [G2.out] at hcall
    have HCl : Kp _ := ⟨hcall⟩
    clear hcall
    go_wp2_with fail
    refine HCl.out.mono ?_
    rintro e x6 ⟨rfl, mD, rfl⟩
    have hb := below_drewN x5 x5.heap.size mD
    replace HB : Kp _ := ⟨HB.out.next hb (Nat.le_refl _)⟩
    replace HW : Kp _ := ⟨HW.out.next hb (Nat.le_refl _)⟩
    replace Hs2 : Kp _ := ⟨Hs2.out.next hb (Nat.le_refl _)⟩
    replace Hs4 : Kp _ := ⟨Hs4.out.next hb (Nat.le_refl _)⟩
    replace HT : Kp _ := ⟨HT.out.below hb HP.out⟩
    replace HP : Kp _ := ⟨Nat.lt_of_lt_of_le HP.out hb.size⟩
    replace HBel : Kp _ := ⟨HBel.out.trans (hb.mono HBel.out.size)⟩
    clear hb
    clear HCl
    generalize x5.drewN mD = x6 at *
    have hcall := same_any A Aw n c n cw b b _ _ _ HB.out HW.out
    rw [G5.out] at hcall
    have HCl : Kp _ := ⟨hcall⟩
    clear hcall
    go_wp2_with fail
    refine HCl.out.mono ?_
    rintro e x7 ⟨rfl, rfl⟩
    clear HCl
    go_wp2_with fail
    refine (known12_any _ HP.out HT.out).mono ?_
    rintro e x8 ⟨rfl, hb⟩
    replace HB : Kp _ := ⟨HB.out.next hb (Nat.le_refl _)⟩
    replace HW : Kp _ := ⟨HW.out.next hb (Nat.le_refl _)⟩
    replace Hs2 : Kp _ := ⟨Hs2.out.next hb (Nat.le_refl _)⟩
    replace Hs4 : Kp _ := ⟨Hs4.out.next hb (Nat.le_refl _)⟩
    replace HT : Kp _ := ⟨HT.out.below hb HP.out⟩
    replace HP : Kp _ := ⟨Nat.lt_of_lt_of_le HP.out hb.size⟩
    replace HBel : Kp _ := ⟨HBel.out.trans (hb.mono HBel.out.size)⟩
    clear hb
    go_wp2
    go_ret
    exact ⟨rfl, HBel.out⟩
  · have hpqI : ¬ ((p : Int) = (q : Int)) := by omega
    have G3' : Kp _ := ⟨G3.out hpq⟩
    have G4' : Kp _ := ⟨G4.out hpq⟩
    clear G3 G4
    have hcall := same_any As2 As4 n cs2 n cs4 bc bd _ _ _ Hs2.out Hs4.out
    rw [G4'.out] at hcall
    have HCl : Kp _ := ⟨hcall⟩
    clear hcall
    go_wp2_with fail
    refine HCl.out.mono ?_
    rintro e x5 ⟨rfl, rfl⟩
    clear HCl
    have hcall := same_any A Aw n c n cw b b _ _ _ HB.out HW.out
    rw [G5.out] at hcall
    have HCl : Kp _ := ⟨hcall⟩
    clear hcall
    go_wp2_with fail
    refine HCl.out.mono ?_
    rintro e x6 ⟨rfl, rfl⟩
    clear HCl
    have hcall := get_any As2 n cs2 (p : Int) bc _ _ Hs2.out (by omega)
    rw [G3'.out] at hcall
    have HCl : Kp _ := ⟨hcall⟩
    clear hcall
    go_wp2_with fail
    refine HCl.out.mono ?_
    rintro e x7 ⟨rfl, mD, rfl⟩
    have hb := below_drewN x4 x4.heap.size mD
    replace HB : Kp _ := ⟨HB.out.next hb (Nat.le_refl _)⟩
    replace HW : Kp _ := ⟨HW.out.next hb (Nat.le_refl _)⟩
    replace Hs2 : Kp _ := ⟨Hs2.out.next hb (Nat.le_refl _)⟩
    replace Hs4 : Kp _ := ⟨Hs4.out.next hb (Nat.le_refl _)⟩
    replace HT : Kp _ := ⟨HT.out.below hb HP.out⟩
    replace HP : Kp _ := ⟨Nat.lt_of_lt_of_le HP.out hb.size⟩
    replace HBel : Kp _ := ⟨HBel.out.trans (hb.mono HBel.out.size)⟩
    clear hb
    clear HCl
    generalize x4.drewN mD = x7 at *
    have hcall := get_any As2 n cs2 (q : Int) bc _ _ Hs2.out (by omega)
    rw [G1.out] at hcall
    have HCl : Kp _ := ⟨hcall⟩
    clear hcall
    go_wp2_with fail
    refine HCl.out.mono ?_
    rintro e x8 ⟨rfl, mD, rfl⟩
    have hb := below_drewN x7 x7.heap.size mD
    replace HB : Kp _ := ⟨HB.out.next hb (Nat.le_refl _)⟩
    replace HW : Kp _ := ⟨HW.out.next hb (Nat.le_refl _)⟩
    replace Hs2 : Kp _ := ⟨Hs2.out.next hb (Nat.le_refl _)⟩
    replace Hs4 : Kp _ := ⟨Hs4.out.next hb (Nat.le_refl _)⟩
    replace HT : Kp _ := ⟨HT.out.below hb HP.out⟩
    replace HP : Kp _ := ⟨Nat.lt_of_lt_of_le HP.out hb.size⟩
    replace HBel : Kp _ := ⟨HBel.out.trans (hb.mono HBel.out.size)⟩
    clear hb
    clear HCl
    generalize x7.drewN mD = x8 at *
    go_wp2_with fail
    refine (known12_any _ HP.out HT.out).mono ?_
    rintro e x9 ⟨rfl, hb⟩
    replace HB : Kp _ := ⟨HB.out.next hb (Nat.le_refl _)⟩
    replace HW : Kp _ := ⟨HW.out.next hb (Nat.le_refl _)⟩
    replace Hs2 : Kp _ := ⟨Hs2.out.next hb (Nat.le_refl _)⟩
    replace Hs4 : Kp _ := ⟨Hs4.out.next hb (Nat.le_refl _)⟩
    replace HT : Kp _ := ⟨HT.out.below hb HP.out⟩
    replace HP : Kp _ := ⟨Nat.lt_of_lt_of_le HP.out hb.size⟩
    replace HBel : Kp _ := ⟨HBel.out.trans (hb.mono HBel.out.size)⟩
    clear hb
    go_wp2
    go_ret
    exact ⟨rfl, HBel.out⟩
end
end Go.Proofs.YtgkeckfiacdpkaaDoor
