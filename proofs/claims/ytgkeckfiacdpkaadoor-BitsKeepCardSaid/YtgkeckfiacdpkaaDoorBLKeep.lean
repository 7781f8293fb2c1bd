/- The law BitsKeep. -/
import Derived.Test.YtgkeckfiacdpkaaDoorBtK
namespace Go.Proofs.YtgkeckfiacdpkaaDoor
open Go.RowKit Go.Shelf

theorem pick_succ (p : Nat → Bool) (f t : Nat) : (pickL p f (t + 1)).length = (pickL p f t).length + if decide (f ≤ t) && p t then 1 else 0 := by
  unfold pickL
  rw [List.range_succ, List.filter_append, List.length_append]
  congr 1
  by_cases h : (decide (f ≤ t) && p t) = true
  · rw [if_pos h, List.filter_cons, if_pos h]; rfl
  · rw [if_neg h, List.filter_cons, if_neg h]; rfl
theorem pick_split (p : Nat → Bool) (y d : Nat) : (pickL p 0 y).length + (pickL p y (y + d)).length = (pickL p 0 (y + d)).length := by
  induction d with
  | zero =>
    show (pickL p 0 y).length + (pickL p y y).length = (pickL p 0 y).length
    rw [pick_empty (p := p) (f := y) (t := y) (Nat.le_refl _)]; rfl
  | succ d ih =>
    rw [show y + (d + 1) = (y + d) + 1 by omega, pick_succ, pick_succ, ← ih, decide_eq_true (show y ≤ y + d by omega), decide_eq_true (show 0 ≤ y + d by omega)]
    omega
theorem pick_turn (p p' : Nat → Bool) (x : Nat) (t : Bool) (h : ∀ j, p' j = if x = j then t else p j) (T : Nat) :
    (pickL p' 0 T).length + (if x < T ∧ p x = true then 1 else 0) = (pickL p 0 T).length + (if x < T ∧ t = true then 1 else 0) := by
  induction T with
  | zero => simp [pickL]
  | succ T ih =>
    rw [pick_succ, pick_succ, h T, decide_eq_true (Nat.zero_le T), Bool.true_and, Bool.true_and]
    by_cases hx : x = T
    · subst hx
      rw [if_pos rfl]
      have e1 : ¬ (x < x ∧ p x = true) := by omega
      have e2 : ¬ (x < x ∧ t = true) := by omega
      rw [if_neg e1, if_neg e2] at ih
      cases hp : p x <;> cases t <;> simp <;> omega
    · rw [if_neg hx]
      by_cases hl : x < T
      · have e1 : (x < T + 1 ∧ p x = true) ↔ (x < T ∧ p x = true) := ⟨fun h => ⟨hl, h.2⟩, fun h => ⟨by omega, h.2⟩⟩
        have e2 : (x < T + 1 ∧ t = true) ↔ (x < T ∧ t = true) := ⟨fun h => ⟨hl, h.2⟩, fun h => ⟨by omega, h.2⟩⟩
        simp only [e1, e2]
        omega
      · have e1 : ¬ (x < T + 1 ∧ p x = true) := by omega
        have e2 : ¬ (x < T + 1 ∧ t = true) := by omega
        have e3 : ¬ (x < T ∧ p x = true) := by omega
        have e4 : ¬ (x < T ∧ t = true) := by omega
        rw [if_neg e3, if_neg e4] at ih
        rw [if_neg e1, if_neg e2]
        omega
section
set_option maxRecDepth 100000
set_option maxHeartbeats 16000000
theorem law_bitsKeep (A : Option Addr) (n c : Nat) (b : List UInt8) (z1 z2 : Int) (t : Bool) (w : World) (ha' : Bs w w.heap.size A n c b ∧ c ≤ 140737488351232) (hz1 : (Lit.int .u16 z1).wf = true) (hz2 : (Lit.int .u16 z2).wf = true) (hT : TabD w ∧ 0 < w.heap.size) :
    Calls Tryd.prog 4 #[.slice A n c, .int .u16 z1, .int .u16 z2, .bool t] w fun e w' => e = .returned (.bool true) ∧ Below w.heap.size w w' := by
  obtain ⟨ha, _⟩ := ha'
  have HB : Kp _ := ⟨ha⟩
  have hlen := ha.len
  have b1 := u16_b hz1
  have b2 := u16_b hz2
  obtain ⟨i, rfl⟩ := Int.eq_ofNat_of_zero_le b1.1
  obtain ⟨k, rfl⟩ := Int.eq_ofNat_of_zero_le b2.1
  have hi : i ≤ 65535 := by omega
  have hk : k ≤ 65535 := by omega
  have HLn : Kp (b.length = n) := ⟨hlen⟩
  clear hz1 hz2 b1 b2 ha hlen
  have HT : Kp _ := ⟨hT.1⟩
  have HP : Kp _ := ⟨hT.2⟩
  have HBel : Kp (Below w.heap.size w w) := ⟨Below.refl _ _⟩
  by_cases hbig : 200 < n ∨ n = 0
  · rcases hbig with hbig | hbig
    all_goals
      try subst hbig
      go_enter Tryd.func4, Tryd.ntmps4
      go_wp2_with fail
      refine (known12_any _ HP.out HT.out).mono ?_
      rintro e x1 ⟨rfl, hb⟩
      replace HT : Kp _ := ⟨HT.out.below hb HP.out⟩
      replace HP : Kp _ := ⟨Nat.lt_of_lt_of_le HP.out hb.size⟩
      replace HBel : Kp _ := ⟨HBel.out.trans (hb.mono HBel.out.size)⟩
      clear hb
      go_wp2
      go_ret
      exact ⟨rfl, HBel.out⟩
  have hn0 : 0 < n := by omega
  have hn1 : n ≤ 200 := by omega
  have hn2 : ¬ (200 < n) := by omega
  have hn3 : ¬ n = 0 := by omega
  have hn4 : decide (200 < (n : Int)) = false := decide_eq_false (by omega)
  have hn5 : ((n : Int) == 0) = false := by rw [beq_eq_false_iff_ne]; omega
  obtain ⟨p, hp⟩ : ∃ p, p = i % (8 * n) := ⟨_, rfl⟩
  obtain ⟨q, hq⟩ : ∃ q, q = k % (8 * n) := ⟨_, rfl⟩
  have hpl : p < 8 * n := by rw [hp]; exact Nat.mod_lt _ (by omega)
  have hql : q < 8 * n := by rw [hq]; exact Nat.mod_lt _ (by omega)
  have rp : (i : Int) % (8 * (n : Int)) = (p : Int) := by rw [hp]; rfl
  have rq : (k : Int) % (8 * (n : Int)) = (q : Int) := by rw [hq]; rfl
  obtain ⟨bc, hbc⟩ : ∃ l, l = setI b (p : Int) t := ⟨_, rfl⟩
  have hlc : bc.length = n := by rw [hbc, setI_length]; exact HLn.out
  have hbc2 : bc = setb b p t := by rw [hbc]; exact setI_nat (by rw [HLn.out]; exact hpl) t
  have gc : ∀ j, gb bc j = if p = j then t else gb b j := fun j => by rw [hbc2, gb_setb _ _ _ _ (by rw [HLn.out]; exact hpl)]
  obtain ⟨m0, hm0⟩ : ∃ m, m = (fullL b 0 (8 * n)).length := ⟨_, rfl⟩
  obtain ⟨m1, hm1⟩ : ∃ m, m = (fullL bc 0 (8 * n)).length := ⟨_, rfl⟩
  obtain ⟨m2, hm2⟩ : ∃ m, m = (fullL b 0 q).length := ⟨_, rfl⟩
  obtain ⟨m3, hm3⟩ : ∃ m, m = (fullL b q (8 * n)).length := ⟨_, rfl⟩
  have hturn := pick_turn (fun j => gb b j) (fun j => gb bc j) p t gc (8 * n)
  have hspl := pick_split (fun j => gb b j) q (8 * n - q)
  rw [show q + (8 * n - q) = 8 * n by omega] at hspl
  change (fullL bc 0 (8 * n)).length + _ = (fullL b 0 (8 * n)).length + _ at hturn
  change (fullL b 0 q).length + (fullL b q (8 * n)).length = (fullL b 0 (8 * n)).length at hspl
  rw [← hm0, ← hm1] at hturn
  rw [← hm0, ← hm2, ← hm3] at hspl
  have hmb : m0 ≤ 8 * n := by rw [hm0]; exact pick_length_le _ _ _
  have hT8 : hiN n (8 * (n : Int)) = 8 * n := by unfold hiN; omega
  have hTq : hiN n (q : Int) = q := by unfold hiN; omega
  have HC : Kp (∀ (X : World) (A' : Option Addr) (c' : Nat), Bs X X.heap.size A' n c' bc → Calls Tryd.prog 20 #[.slice A' n c', .int .i64 0, .int .i64 (8 * (n : Int))] X fun e X' => e = .returned (.int .i64 (m1 : Int)) ∧ Below X.heap.size X X') := ⟨fun X A' c' h => by
    have h9 := counts_any A' n c' bc 0 (8 * (n : Int)) X h (by omega) (by omega) (by omega)
    rw [hT8, show (0 : Int).toNat = 0 from rfl, ← hm1] at h9
    exact h9⟩
  have HCb : Kp (∀ (X : World), Bs X X.heap.size A n c b → Calls Tryd.prog 20 #[.slice A n c, .int .i64 0, .int .i64 (8 * (n : Int))] X fun e X' => e = .returned (.int .i64 (m0 : Int)) ∧ Below X.heap.size X X') := ⟨fun X h => by
    have h9 := counts_any A n c b 0 (8 * (n : Int)) X h (by omega) (by omega) (by omega)
    rw [hT8, show (0 : Int).toNat = 0 from rfl, ← hm0] at h9
    exact h9⟩
  have HCw : Kp (∀ (X : World), Bs X X.heap.size A n c b → Calls Tryd.prog 20 #[.slice A n c, .int .i64 0, .int .i64 (q : Int)] X fun e X' => e = .returned (.int .i64 (m2 : Int)) ∧ Below X.heap.size X X') := ⟨fun X h => by
    have h9 := counts_any A n c b 0 (q : Int) X h (by omega) (by omega) (by omega)
    rw [hTq, show (0 : Int).toNat = 0 from rfl, ← hm2] at h9
    exact h9⟩
  have HCh : Kp (∀ (X : World), Bs X X.heap.size A n c b → Calls Tryd.prog 20 #[.slice A n c, .int .i64 (q : Int), .int .i64 (8 * (n : Int))] X fun e X' => e = .returned (.int .i64 (m3 : Int)) ∧ Below X.heap.size X X') := ⟨fun X h => by
    have h9 := counts_any A n c b (q : Int) (8 * (n : Int)) X h (by omega) (by omega) (by omega)
    rw [hT8, show (q : Int).toNat = q by omega, ← hm3] at h9
    exact h9⟩
  have HSc : Kp (∀ l, l = setI b (p : Int) t → l = bc) := ⟨fun l h => by rw [h, hbc]⟩
  have G1 : Kp (gbI bc (p : Int) = t) := ⟨by rw [gbI_nat, gc, if_pos rfl]⟩
  have G3 : Kp (p ≠ q → gbI bc (q : Int) = gbI b (q : Int)) := ⟨fun h => by rw [gbI_nat, gbI_nat, gc, if_neg h]⟩
  obtain ⟨was, hwas⟩ : ∃ v, v = gb b p := ⟨_, rfl⟩
  have G2 : Kp (gbI b (p : Int) = was) := ⟨by rw [gbI_nat, hwas]⟩
  have G4 : Kp (∀ l, l = setI bc (p : Int) was → l = b) := ⟨fun l h => by
    rw [h, setI_nat (by rw [hlc]; exact hpl)]
    refine bits_ext (by rw [setb_length, hlc, HLn.out]) fun j _ => ?_
    rw [gb_setb _ _ _ _ (by rw [hlc]; exact hpl), gc]
    by_cases h1 : p = j
    · subst h1; rw [if_pos rfl, hwas]
    · rw [if_neg h1, if_neg h1]⟩
  have hsp : ((m2 : Int) + (m3 : Int) == (m0 : Int)) = true := by rw [beq_iff_eq]; omega
  rw [← hwas] at hturn
  obtain ⟨gq, hgq⟩ : ∃ v, v = gbI b (q : Int) := ⟨_, rfl⟩
  have G5 : Kp (gbI b (q : Int) = gq) := ⟨hgq.symm⟩
  rw [← hgq] at G3
  have hm1b : m1 ≤ 8 * n := by rw [hm1]; exact pick_length_le _ _ _
  have hm2b : m2 ≤ 8 * n := by omega
  have hm3b : m3 ≤ 8 * n := by omega
  clear hbc2 gc hp hq hbig hlc HLn hm0 hm1 hm2 hm3 hT8 hTq hwas hspl hgq
  cases t with
  | true =>
    cases was with
    | true =>
      simp [hpl] at hturn
      have hc1 : ((m1 : Int) == (m0 : Int)) = true := by rw [beq_iff_eq]; omega
      clear hturn
      by_cases hpq : p = q
      · subst hpq
        have hpp : ((p : Int) != (p : Int)) = false := by simp
        go_enter Tryd.func4, Tryd.ntmps4
        have hcall := get_any A n c (p : Int) b _ _ HB.out (by omega)
        rw [G2.out] at hcall
        have HCl : Kp _ := ⟨hcall⟩
        clear hcall
        go_wp2_with fail
        refine HCl.out.mono ?_
        rintro e x1 ⟨rfl, mD, rfl⟩
        have hb := below_drewN w w.heap.size mD
        replace HB : Kp _ := ⟨HB.out.next hb (Nat.le_refl _)⟩
        replace HT : Kp _ := ⟨HT.out.below hb HP.out⟩
        replace HP : Kp _ := ⟨Nat.lt_of_lt_of_le HP.out hb.size⟩
        replace HBel : Kp _ := ⟨HBel.out.trans (hb.mono HBel.out.size)⟩
        clear hb
        clear HCl
        generalize w.drewN mD = x1 at *
        have HCl : Kp _ := ⟨set_any A n c (p : Int) true b _ HB.out (by omega) (by omega)⟩
        go_wp2_with fail
        refine HCl.out.mono ?_
        rintro e x2 ⟨As1, cs1, rfl, hrow, hb⟩
        clear HCl
        replace HB : Kp _ := ⟨HB.out.next hb (Nat.le_refl _)⟩
        replace HT : Kp _ := ⟨HT.out.below hb HP.out⟩
        replace HP : Kp _ := ⟨Nat.lt_of_lt_of_le HP.out hb.size⟩
        replace HBel : Kp _ := ⟨HBel.out.trans (hb.mono HBel.out.size)⟩
        clear hb
        have Hs1 : Kp _ := ⟨hrow⟩
        clear hrow
        rw [HSc.out _ rfl] at Hs1
        have hcall := get_any As1 n cs1 (p : Int) bc _ _ Hs1.out (by omega)
        rw [G1.out] at hcall
        have HCl : Kp _ := ⟨hcall⟩
        clear hcall
        go_wp2_with fail
        refine HCl.out.mono ?_
        rintro e x3 ⟨rfl, mD, rfl⟩
        have hb := below_drewN x2 x2.heap.size mD
        replace HB : Kp _ := ⟨HB.out.next hb (Nat.le_refl _)⟩
        replace Hs1 : Kp _ := ⟨Hs1.out.next hb (Nat.le_refl _)⟩
        replace HT : Kp _ := ⟨HT.out.below hb HP.out⟩
        replace HP : Kp _ := ⟨Nat.lt_of_lt_of_le HP.out hb.size⟩
        replace HBel : Kp _ := ⟨HBel.out.trans (hb.mono HBel.out.size)⟩
        clear hb
        clear HCl
        generalize x2.drewN mD = x3 at *
        have HCl : Kp _ := ⟨set_any As1 n cs1 (p : Int) true bc _ Hs1.out (by omega) (by omega)⟩
        go_wp2_with fail
        refine HCl.out.mono ?_
        rintro e x4 ⟨As2, cs2, rfl, hrow, hb⟩
        clear HCl
        replace HB : Kp _ := ⟨HB.out.next hb (Nat.le_refl _)⟩
        replace Hs1 : Kp _ := ⟨Hs1.out.next hb (Nat.le_refl _)⟩
        replace HT : Kp _ := ⟨HT.out.below hb HP.out⟩
        replace HP : Kp _ := ⟨Nat.lt_of_lt_of_le HP.out hb.size⟩
        replace HBel : Kp _ := ⟨HBel.out.trans (hb.mono HBel.out.size)⟩
        clear hb
        have Hs2 : Kp _ := ⟨hrow⟩
        clear hrow
        rw [G4.out _ rfl] at Hs2
        have hcall := same_any As2 A n cs2 n c _ _ _ _ _ Hs2.out HB.out
        rw [beq_self_eq_true] at hcall
        have HCq : Kp _ := ⟨hcall⟩
        clear hcall
        go_wp2_with fail
        refine (HCq.out).mono ?_
        rintro e x5 ⟨rfl, rfl⟩
        clear HCq Hs2
        go_wp2_with fail
        refine (HC.out _ _ _ Hs1.out).mono ?_
        rintro e x6 ⟨rfl, hb⟩
        replace HB : Kp _ := ⟨HB.out.next hb (Nat.le_refl _)⟩
        replace Hs1 : Kp _ := ⟨Hs1.out.next hb (Nat.le_refl _)⟩
        replace HT : Kp _ := ⟨HT.out.below hb HP.out⟩
        replace HP : Kp _ := ⟨Nat.lt_of_lt_of_le HP.out hb.size⟩
        replace HBel : Kp _ := ⟨HBel.out.trans (hb.mono HBel.out.size)⟩
        clear hb
        go_wp2_with fail
        refine (HCb.out _ HB.out).mono ?_
        rintro e x7 ⟨rfl, hb⟩
        replace HB : Kp _ := ⟨HB.out.next hb (Nat.le_refl _)⟩
        replace Hs1 : Kp _ := ⟨Hs1.out.next hb (Nat.le_refl _)⟩
        replace HT : Kp _ := ⟨HT.out.below hb HP.out⟩
        replace HP : Kp _ := ⟨Nat.lt_of_lt_of_le HP.out hb.size⟩
        replace HBel : Kp _ := ⟨HBel.out.trans (hb.mono HBel.out.size)⟩
        clear hb
        go_wp2_with fail
        refine (HCw.out _ HB.out).mono ?_
        rintro e x8 ⟨rfl, hb⟩
        replace HB : Kp _ := ⟨HB.out.next hb (Nat.le_refl _)⟩
        replace Hs1 : Kp _ := ⟨Hs1.out.next hb (Nat.le_refl _)⟩
        replace HT : Kp _ := ⟨HT.out.below hb HP.out⟩
        replace HP : Kp _ := ⟨Nat.lt_of_lt_of_le HP.out hb.size⟩
        replace HBel : Kp _ := ⟨HBel.out.trans (hb.mono HBel.out.size)⟩
        clear hb
        go_wp2_with fail
        refine (HCh.out _ HB.out).mono ?_
        rintro e x9 ⟨rfl, hb⟩
        replace HB : Kp _ := ⟨HB.out.next hb (Nat.le_refl _)⟩
        replace Hs1 : Kp _ := ⟨Hs1.out.next hb (Nat.le_refl _)⟩
        replace HT : Kp _ := ⟨HT.out.below hb HP.out⟩
        replace HP : Kp _ := ⟨Nat.lt_of_lt_of_le HP.out hb.size⟩
        replace HBel : Kp _ := ⟨HBel.out.trans (hb.mono HBel.out.size)⟩
        clear hb
        go_wp2_with fail
        refine (HCb.out _ HB.out).mono ?_
        rintro e x10 ⟨rfl, hb⟩
        replace HB : Kp _ := ⟨HB.out.next hb (Nat.le_refl _)⟩
        replace Hs1 : Kp _ := ⟨Hs1.out.next hb (Nat.le_refl _)⟩
        replace HT : Kp _ := ⟨HT.out.below hb HP.out⟩
        replace HP : Kp _ := ⟨Nat.lt_of_lt_of_le HP.out hb.size⟩
        replace HBel : Kp _ := ⟨HBel.out.trans (hb.mono HBel.out.size)⟩
        clear hb
        go_wp2_with fail
        refine (known12_any _ HP.out HT.out).mono ?_
        rintro e x11 ⟨rfl, hb⟩
        replace HB : Kp _ := ⟨HB.out.next hb (Nat.le_refl _)⟩
        replace Hs1 : Kp _ := ⟨Hs1.out.next hb (Nat.le_refl _)⟩
        replace HT : Kp _ := ⟨HT.out.below hb HP.out⟩
        replace HP : Kp _ := ⟨Nat.lt_of_lt_of_le HP.out hb.size⟩
        replace HBel : Kp _ := ⟨HBel.out.trans (hb.mono HBel.out.size)⟩
        clear hb
        go_wp2
        go_ret
        exact ⟨rfl, HBel.out⟩
      · have hpqI : ¬ ((p : Int) = (q : Int)) := by omega
        have hpqd : ((p : Int) != (q : Int)) = true := by simp; omega
        have G3' : Kp _ := ⟨G3.out hpq⟩
        clear G3
        go_enter Tryd.func4, Tryd.ntmps4
        have hcall := get_any A n c (p : Int) b _ _ HB.out (by omega)
        rw [G2.out] at hcall
        have HCl : Kp _ := ⟨hcall⟩
        clear hcall
        go_wp2_with fail
        refine HCl.out.mono ?_
        rintro e x1 ⟨rfl, mD, rfl⟩
        have hb := below_drewN w w.heap.size mD
        replace HB : Kp _ := ⟨HB.out.next hb (Nat.le_refl _)⟩
        replace HT : Kp _ := ⟨HT.out.below hb HP.out⟩
        replace HP : Kp _ := ⟨Nat.lt_of_lt_of_le HP.out hb.size⟩
        replace HBel : Kp _ := ⟨HBel.out.trans (hb.mono HBel.out.size)⟩
        clear hb
        clear HCl
        generalize w.drewN mD = x1 at *
        have HCl : Kp _ := ⟨set_any A n c (p : Int) true b _ HB.out (by omega) (by omega)⟩
        go_wp2_with fail
        refine HCl.out.mono ?_
        rintro e x2 ⟨As1, cs1, rfl, hrow, hb⟩
        clear HCl
        replace HB : Kp _ := ⟨HB.out.next hb (Nat.le_refl _)⟩
        replace HT : Kp _ := ⟨HT.out.below hb HP.out⟩
        replace HP : Kp _ := ⟨Nat.lt_of_lt_of_le HP.out hb.size⟩
        replace HBel : Kp _ := ⟨HBel.out.trans (hb.mono HBel.out.size)⟩
        clear hb
        have Hs1 : Kp _ := ⟨hrow⟩
        clear hrow
        rw [HSc.out _ rfl] at Hs1
        have hcall := get_any As1 n cs1 (p : Int) bc _ _ Hs1.out (by omega)
        rw [G1.out] at hcall
        have HCl : Kp _ := ⟨hcall⟩
        clear hcall
        go_wp2_with fail
        refine HCl.out.mono ?_
        rintro e x3 ⟨rfl, mD, rfl⟩
        have hb := below_drewN x2 x2.heap.size mD
        replace HB : Kp _ := ⟨HB.out.next hb (Nat.le_refl _)⟩
        replace Hs1 : Kp _ := ⟨Hs1.out.next hb (Nat.le_refl _)⟩
        replace HT : Kp _ := ⟨HT.out.below hb HP.out⟩
        replace HP : Kp _ := ⟨Nat.lt_of_lt_of_le HP.out hb.size⟩
        replace HBel : Kp _ := ⟨HBel.out.trans (hb.mono HBel.out.size)⟩
        clear hb
        clear HCl
        generalize x2.drewN mD = x3 at *
        have hcall := get_any As1 n cs1 (q : Int) bc _ _ Hs1.out (by omega)
        rw [G3'.out] at hcall
        have HCl : Kp _ := ⟨hcall⟩
        clear hcall
        go_wp2_with fail
        refine HCl.out.mono ?_
        rintro e x4 ⟨rfl, mD, rfl⟩
        have hb := below_drewN x3 x3.heap.size mD
        replace HB : Kp _ := ⟨HB.out.next hb (Nat.le_refl _)⟩
        replace Hs1 : Kp _ := ⟨Hs1.out.next hb (Nat.le_refl _)⟩
        replace HT : Kp _ := ⟨HT.out.below hb HP.out⟩
        replace HP : Kp _ := ⟨Nat.lt_of_lt_of_le HP.out hb.size⟩
        replace HBel : Kp _ := ⟨HBel.out.trans (hb.mono HBel.out.size)⟩
        clear hb
        clear HCl
        generalize x3.drewN mD = x4 at *
        have hcall := get_any A n c (q : Int) b _ _ HB.out (by omega)
        rw [G5.out] at hcall
        have HCl : Kp _ := ⟨hcall⟩
        clear hcall
        go_wp2_with fail
        refine HCl.out.mono ?_
        rintro e x5 ⟨rfl, mD, rfl⟩
        have hb := below_drewN x4 x4.heap.size mD
        replace HB : Kp _ := ⟨HB.out.next hb (Nat.le_refl _)⟩
        replace Hs1 : Kp _ := ⟨Hs1.out.next hb (Nat.le_refl _)⟩
        replace HT : Kp _ := ⟨HT.out.below hb HP.out⟩
        replace HP : Kp _ := ⟨Nat.lt_of_lt_of_le HP.out hb.size⟩
        replace HBel : Kp _ := ⟨HBel.out.trans (hb.mono HBel.out.size)⟩
        clear hb
        clear HCl
        generalize x4.drewN mD = x5 at *
        have HCl : Kp _ := ⟨set_any As1 n cs1 (p : Int) true bc _ Hs1.out (by omega) (by omega)⟩
        go_wp2_with fail
        refine HCl.out.mono ?_
        rintro e x6 ⟨As2, cs2, rfl, hrow, hb⟩
        clear HCl
        replace HB : Kp _ := ⟨HB.out.next hb (Nat.le_refl _)⟩
        replace Hs1 : Kp _ := ⟨Hs1.out.next hb (Nat.le_refl _)⟩
        replace HT : Kp _ := ⟨HT.out.below hb HP.out⟩
        replace HP : Kp _ := ⟨Nat.lt_of_lt_of_le HP.out hb.size⟩
        replace HBel : Kp _ := ⟨HBel.out.trans (hb.mono HBel.out.size)⟩
        clear hb
        have Hs2 : Kp _ := ⟨hrow⟩
        clear hrow
        rw [G4.out _ rfl] at Hs2
        have hcall := same_any As2 A n cs2 n c _ _ _ _ _ Hs2.out HB.out
        rw [beq_self_eq_true] at hcall
        have HCq : Kp _ := ⟨hcall⟩
        clear hcall
        go_wp2_with fail
        refine (HCq.out).mono ?_
        rintro e x7 ⟨rfl, rfl⟩
        clear HCq Hs2
        go_wp2_with fail
        refine (HC.out _ _ _ Hs1.out).mono ?_
        rintro e x8 ⟨rfl, hb⟩
        replace HB : Kp _ := ⟨HB.out.next hb (Nat.le_refl _)⟩
        replace Hs1 : Kp _ := ⟨Hs1.out.next hb (Nat.le_refl _)⟩
        replace HT : Kp _ := ⟨HT.out.below hb HP.out⟩
        replace HP : Kp _ := ⟨Nat.lt_of_lt_of_le HP.out hb.size⟩
        replace HBel : Kp _ := ⟨HBel.out.trans (hb.mono HBel.out.size)⟩
        clear hb
        go_wp2_with fail
        refine (HCb.out _ HB.out).mono ?_
        rintro e x9 ⟨rfl, hb⟩
        replace HB : Kp _ := ⟨HB.out.next hb (Nat.le_refl _)⟩
        replace Hs1 : Kp _ := ⟨Hs1.out.next hb (Nat.le_refl _)⟩
        replace HT : Kp _ := ⟨HT.out.below hb HP.out⟩
        replace HP : Kp _ := ⟨Nat.lt_of_lt_of_le HP.out hb.size⟩
        replace HBel : Kp _ := ⟨HBel.out.trans (hb.mono HBel.out.size)⟩
        clear hb
        go_wp2_with fail
        refine (HCw.out _ HB.out).mono ?_
        rintro e x10 ⟨rfl, hb⟩
        replace HB : Kp _ := ⟨HB.out.next hb (Nat.le_refl _)⟩
        replace Hs1 : Kp _ := ⟨Hs1.out.next hb (Nat.le_refl _)⟩
        replace HT : Kp _ := ⟨HT.out.below hb HP.out⟩
        replace HP : Kp _ := ⟨Nat.lt_of_lt_of_le HP.out hb.size⟩
        replace HBel : Kp _ := ⟨HBel.out.trans (hb.mono HBel.out.size)⟩
        clear hb
        go_wp2_with fail
        refine (HCh.out _ HB.out).mono ?_
        rintro e x11 ⟨rfl, hb⟩
        replace HB : Kp _ := ⟨HB.out.next hb (Nat.le_refl _)⟩
        replace Hs1 : Kp _ := ⟨Hs1.out.next hb (Nat.le_refl _)⟩
        replace HT : Kp _ := ⟨HT.out.below hb HP.out⟩
        replace HP : Kp _ := ⟨Nat.lt_of_lt_of_le HP.out hb.size⟩
        replace HBel : Kp _ := ⟨HBel.out.trans (hb.mono HBel.out.size)⟩
        clear hb
        go_wp2_with fail
        refine (HCb.out _ HB.out).mono ?_
        rintro e x12 ⟨rfl, hb⟩
        replace HB : Kp _ := ⟨HB.out.next hb (Nat.le_refl _)⟩
        replace Hs1 : Kp _ := ⟨Hs1.out.next hb (Nat.le_refl _)⟩
        replace HT : Kp _ := ⟨HT.out.below hb HP.out⟩
        replace HP : Kp _ := ⟨Nat.lt_of_lt_of_le HP.out hb.size⟩
        replace HBel : Kp _ := ⟨HBel.out.trans (hb.mono HBel.out.size)⟩
        clear hb
        go_wp2_with fail
        refine (known12_any _ HP.out HT.out).mono ?_
        rintro e x13 ⟨rfl, hb⟩
        replace HB : Kp _ := ⟨HB.out.next hb (Nat.le_refl _)⟩
        replace Hs1 : Kp _ := ⟨Hs1.out.next hb (Nat.le_refl _)⟩
        replace HT : Kp _ := ⟨HT.out.below hb HP.out⟩
        replace HP : Kp _ := ⟨Nat.lt_of_lt_of_le HP.out hb.size⟩
        replace HBel : Kp _ := ⟨HBel.out.trans (hb.mono HBel.out.size)⟩
        clear hb
        go_wp2
        go_ret
        exact ⟨rfl, HBel.out⟩
    | false =>
      simp [hpl] at hturn
      have hc1 : ((m1 : Int) == (m0 : Int) + 1) = true := by rw [beq_iff_eq]; omega
      clear hturn
      by_cases hpq : p = q
      · subst hpq
        have hpp : ((p : Int) != (p : Int)) = false := by simp
        go_enter Tryd.func4, Tryd.ntmps4
        have hcall := get_any A n c (p : Int) b _ _ HB.out (by omega)
        rw [G2.out] at hcall
        have HCl : Kp _ := ⟨hcall⟩
        clear hcall
        go_wp2_with fail
        refine HCl.out.mono ?_
        rintro e x1 ⟨rfl, mD, rfl⟩
        have hb := below_drewN w w.heap.size mD
        replace HB : Kp _ := ⟨HB.out.next hb (Nat.le_refl _)⟩
        replace HT : Kp _ := ⟨HT.out.below hb HP.out⟩
        replace HP : Kp _ := ⟨Nat.lt_of_lt_of_le HP.out hb.size⟩
        replace HBel : Kp _ := ⟨HBel.out.trans (hb.mono HBel.out.size)⟩
        clear hb
        clear HCl
        generalize w.drewN mD = x1 at *
        have HCl : Kp _ := ⟨set_any A n c (p : Int) true b _ HB.out (by omega) (by omega)⟩
        go_wp2_with fail
        refine HCl.out.mono ?_
        rintro e x2 ⟨As1, cs1, rfl, hrow, hb⟩
        clear HCl
        replace HB : Kp _ := ⟨HB.out.next hb (Nat.le_refl _)⟩
        replace HT : Kp _ := ⟨HT.out.below hb HP.out⟩
        replace HP : Kp _ := ⟨Nat.lt_of_lt_of_le HP.out hb.size⟩
        replace HBel : Kp _ := ⟨HBel.out.trans (hb.mono HBel.out.size)⟩
        clear hb
        have Hs1 : Kp _ := ⟨hrow⟩
        clear hrow
        rw [HSc.out _ rfl] at Hs1
        have hcall := get_any As1 n cs1 (p : Int) bc _ _ Hs1.out (by omega)
        rw [G1.out] at hcall
        have HCl : Kp _ := ⟨hcall⟩
        clear hcall
        go_wp2_with fail
        refine HCl.out.mono ?_
        rintro e x3 ⟨rfl, mD, rfl⟩
        have hb := below_drewN x2 x2.heap.size mD
        replace HB : Kp _ := ⟨HB.out.next hb (Nat.le_refl _)⟩
        replace Hs1 : Kp _ := ⟨Hs1.out.next hb (Nat.le_refl _)⟩
        replace HT : Kp _ := ⟨HT.out.below hb HP.out⟩
        replace HP : Kp _ := ⟨Nat.lt_of_lt_of_le HP.out hb.size⟩
        replace HBel : Kp _ := ⟨HBel.out.trans (hb.mono HBel.out.size)⟩
        clear hb
        clear HCl
        generalize x2.drewN mD = x3 at *
        have HCl : Kp _ := ⟨set_any As1 n cs1 (p : Int) false bc _ Hs1.out (by omega) (by omega)⟩
        go_wp2_with fail
        refine HCl.out.mono ?_
        rintro e x4 ⟨As2, cs2, rfl, hrow, hb⟩
        clear HCl
        replace HB : Kp _ := ⟨HB.out.next hb (Nat.le_refl _)⟩
        replace Hs1 : Kp _ := ⟨Hs1.out.next hb (Nat.le_refl _)⟩
        replace HT : Kp _ := ⟨HT.out.below hb HP.out⟩
        replace HP : Kp _ := ⟨Nat.lt_of_lt_of_le HP.out hb.size⟩
        replace HBel : Kp _ := ⟨HBel.out.trans (hb.mono HBel.out.size)⟩
        clear hb
        have Hs2 : Kp _ := ⟨hrow⟩
        clear hrow
        rw [G4.out _ rfl] at Hs2
        have hcall := same_any As2 A n cs2 n c _ _ _ _ _ Hs2.out HB.out
        rw [beq_self_eq_true] at hcall
        have HCq : Kp _ := ⟨hcall⟩
        clear hcall
        go_wp2_with fail
        refine (HCq.out).mono ?_
        rintro e x5 ⟨rfl, rfl⟩
        clear HCq Hs2
        go_wp2_with fail
        refine (HC.out _ _ _ Hs1.out).mono ?_
        rintro e x6 ⟨rfl, hb⟩
        replace HB : Kp _ := ⟨HB.out.next hb (Nat.le_refl _)⟩
        replace Hs1 : Kp _ := ⟨Hs1.out.next hb (Nat.le_refl _)⟩
        replace HT : Kp _ := ⟨HT.out.below hb HP.out⟩
        replace HP : Kp _ := ⟨Nat.lt_of_lt_of_le HP.out hb.size⟩
        replace HBel : Kp _ := ⟨HBel.out.trans (hb.mono HBel.out.size)⟩
        clear hb
        go_wp2_with fail
        refine (HCb.out _ HB.out).mono ?_
        rintro e x7 ⟨rfl, hb⟩
        replace HB : Kp _ := ⟨HB.out.next hb (Nat.le_refl _)⟩
        replace Hs1 : Kp _ := ⟨Hs1.out.next hb (Nat.le_refl _)⟩
        replace HT : Kp _ := ⟨HT.out.below hb HP.out⟩
        replace HP : Kp _ := ⟨Nat.lt_of_lt_of_le HP.out hb.size⟩
        replace HBel : Kp _ := ⟨HBel.out.trans (hb.mono HBel.out.size)⟩
        clear hb
        go_wp2_with fail
        refine (HCw.out _ HB.out).mono ?_
        rintro e x8 ⟨rfl, hb⟩
        replace HB : Kp _ := ⟨HB.out.next hb (Nat.le_refl _)⟩
        replace Hs1 : Kp _ := ⟨Hs1.out.next hb (Nat.le_refl _)⟩
        replace HT : Kp _ := ⟨HT.out.below hb HP.out⟩
        replace HP : Kp _ := ⟨Nat.lt_of_lt_of_le HP.out hb.size⟩
        replace HBel : Kp _ := ⟨HBel.out.trans (hb.mono HBel.out.size)⟩
        clear hb
        go_wp2_with fail
        refine (HCh.out _ HB.out).mono ?_
        rintro e x9 ⟨rfl, hb⟩
        replace HB : Kp _ := ⟨HB.out.next hb (Nat.le_refl _)⟩
        replace Hs1 : Kp _ := ⟨Hs1.out.next hb (Nat.le_refl _)⟩
        replace HT : Kp _ := ⟨HT.out.below hb HP.out⟩
        replace HP : Kp _ := ⟨Nat.lt_of_lt_of_le HP.out hb.size⟩
        replace HBel : Kp _ := ⟨HBel.out.trans (hb.mono HBel.out.size)⟩
        clear hb
        go_wp2_with fail
        refine (HCb.out _ HB.out).mono ?_
        rintro e x10 ⟨rfl, hb⟩
        replace HB : Kp _ := ⟨HB.out.next hb (Nat.le_refl _)⟩
        replace Hs1 : Kp _ := ⟨Hs1.out.next hb (Nat.le_refl _)⟩
        replace HT : Kp _ := ⟨HT.out.below hb HP.out⟩
        replace HP : Kp _ := ⟨Nat.lt_of_lt_of_le HP.out hb.size⟩
        replace HBel : Kp _ := ⟨HBel.out.trans (hb.mono HBel.out.size)⟩
        clear hb
        go_wp2_with fail
        refine (known12_any _ HP.out HT.out).mono ?_
        rintro e x11 ⟨rfl, hb⟩
        replace HB : Kp _ := ⟨HB.out.next hb (Nat.le_refl _)⟩
        replace Hs1 : Kp _ := ⟨Hs1.out.next hb (Nat.le_refl _)⟩
        replace HT : Kp _ := ⟨HT.out.below hb HP.out⟩
        replace HP : Kp _ := ⟨Nat.lt_of_lt_of_le HP.out hb.size⟩
        replace HBel : Kp _ := ⟨HBel.out.trans (hb.mono HBel.out.size)⟩
        clear hb
        go_wp2
        go_ret
        exact ⟨rfl, HBel.out⟩
      · have hpqI : ¬ ((p : Int) = (q : Int)) := by omega
        have hpqd : ((p : Int) != (q : Int)) = true := by simp; omega
        have G3' : Kp _ := ⟨G3.out hpq⟩
        clear G3
        go_enter Tryd.func4, Tryd.ntmps4
        have hcall := get_any A n c (p : Int) b _ _ HB.out (by omega)
        rw [G2.out] at hcall
        have HCl : Kp _ := ⟨hcall⟩
        clear hcall
        go_wp2_with fail
        refine HCl.out.mono ?_
        rintro e x1 ⟨rfl, mD, rfl⟩
        have hb := below_drewN w w.heap.size mD
        replace HB : Kp _ := ⟨HB.out.next hb (Nat.le_refl _)⟩
        replace HT : Kp _ := ⟨HT.out.below hb HP.out⟩
        replace HP : Kp _ := ⟨Nat.lt_of_lt_of_le HP.out hb.size⟩
        replace HBel : Kp _ := ⟨HBel.out.trans (hb.mono HBel.out.size)⟩
        clear hb
        clear HCl
        generalize w.drewN mD = x1 at *
        have HCl : Kp _ := ⟨set_any A n c (p : Int) true b _ HB.out (by omega) (by omega)⟩
        go_wp2_with fail
        refine HCl.out.mono ?_
        rintro e x2 ⟨As1, cs1, rfl, hrow, hb⟩
        clear HCl
        replace HB : Kp _ := ⟨HB.out.next hb (Nat.le_refl _)⟩
        replace HT : Kp _ := ⟨HT.out.below hb HP.out⟩
        replace HP : Kp _ := ⟨Nat.lt_of_lt_of_le HP.out hb.size⟩
        replace HBel : Kp _ := ⟨HBel.out.trans (hb.mono HBel.out.size)⟩
        clear hb
        have Hs1 : Kp _ := ⟨hrow⟩
        clear hrow
        rw [HSc.out _ rfl] at Hs1
        have hcall := get_any As1 n cs1 (p : Int) bc _ _ Hs1.out (by omega)
        rw [G1.out] at hcall
        have HCl : Kp _ := ⟨hcall⟩
        clear hcall
        go_wp2_with fail
        refine HCl.out.mono ?_
        rintro e x3 ⟨rfl, mD, rfl⟩
        have hb := below_drewN x2 x2.heap.size mD
        replace HB : Kp _ := ⟨HB.out.next hb (Nat.le_refl _)⟩
        replace Hs1 : Kp _ := ⟨Hs1.out.next hb (Nat.le_refl _)⟩
        replace HT : Kp _ := ⟨HT.out.below hb HP.out⟩
        replace HP : Kp _ := ⟨Nat.lt_of_lt_of_le HP.out hb.size⟩
        replace HBel : Kp _ := ⟨HBel.out.trans (hb.mono HBel.out.size)⟩
        clear hb
        clear HCl
        generalize x2.drewN mD = x3 at *
        have hcall := get_any As1 n cs1 (q : Int) bc _ _ Hs1.out (by omega)
        rw [G3'.out] at hcall
        have HCl : Kp _ := ⟨hcall⟩
        clear hcall
        go_wp2_with fail
        refine HCl.out.mono ?_
        rintro e x4 ⟨rfl, mD, rfl⟩
        have hb := below_drewN x3 x3.heap.size mD
        replace HB : Kp _ := ⟨HB.out.next hb (Nat.le_refl _)⟩
        replace Hs1 : Kp _ := ⟨Hs1.out.next hb (Nat.le_refl _)⟩
        replace HT : Kp _ := ⟨HT.out.below hb HP.out⟩
        replace HP : Kp _ := ⟨Nat.lt_of_lt_of_le HP.out hb.size⟩
        replace HBel : Kp _ := ⟨HBel.out.trans (hb.mono HBel.out.size)⟩
        clear hb
        clear HCl
        generalize x3.drewN mD = x4 at *
        have hcall := get_any A n c (q : Int) b _ _ HB.out (by omega)
        rw [G5.out] at hcall
        have HCl : Kp _ := ⟨hcall⟩
        clear hcall
        go_wp2_with fail
        refine HCl.out.mono ?_
        rintro e x5 ⟨rfl, mD, rfl⟩
        have hb := below_drewN x4 x4.heap.size mD
        replace HB : Kp _ := ⟨HB.out.next hb (Nat.le_refl _)⟩
        replace Hs1 : Kp _ := ⟨Hs1.out.next hb (Nat.le_refl _)⟩
        replace HT : Kp _ := ⟨HT.out.below hb HP.out⟩
        replace HP : Kp _ := ⟨Nat.lt_of_lt_of_le HP.out hb.size⟩
        replace HBel : Kp _ := ⟨HBel.out.trans (hb.mono HBel.out.size)⟩
        clear hb
        clear HCl
        generalize x4.drewN mD = x5 at *
        have HCl : Kp _ := ⟨set_any As1 n cs1 (p : Int) false bc _ Hs1.out (by omega) (by omega)⟩
        go_wp2_with fail
        refine HCl.out.mono ?_
        rintro e x6 ⟨As2, cs2, rfl, hrow, hb⟩
        clear HCl
        replace HB : Kp _ := ⟨HB.out.next hb (Nat.le_refl _)⟩
        replace Hs1 : Kp _ := ⟨Hs1.out.next hb (Nat.le_refl _)⟩
        replace HT : Kp _ := ⟨HT.out.below hb HP.out⟩
        replace HP : Kp _ := ⟨Nat.lt_of_lt_of_le HP.out hb.size⟩
        replace HBel : Kp _ := ⟨HBel.out.trans (hb.mono HBel.out.size)⟩
        clear hb
        have Hs2 : Kp _ := ⟨hrow⟩
        clear hrow
        rw [G4.out _ rfl] at Hs2
        have hcall := same_any As2 A n cs2 n c _ _ _ _ _ Hs2.out HB.out
        rw [beq_self_eq_true] at hcall
        have HCq : Kp _ := ⟨hcall⟩
        clear hcall
        go_wp2_with fail
        refine (HCq.out).mono ?_
        rintro e x7 ⟨rfl, rfl⟩
        clear HCq Hs2
        go_wp2_with fail
        refine (HC.out _ _ _ Hs1.out).mono ?_
        rintro e x8 ⟨rfl, hb⟩
        replace HB : Kp _ := ⟨HB.out.next hb (Nat.le_refl _)⟩
        replace Hs1 : Kp _ := ⟨Hs1.out.next hb (Nat.le_refl _)⟩
        replace HT : Kp _ := ⟨HT.out.below hb HP.out⟩
        replace HP : Kp _ := ⟨Nat.lt_of_lt_of_le HP.out hb.size⟩
        replace HBel : Kp _ := ⟨HBel.out.trans (hb.mono HBel.out.size)⟩
        clear hb
        go_wp2_with fail
        refine (HCb.out _ HB.out).mono ?_
        rintro e x9 ⟨rfl, hb⟩
        replace HB : Kp _ := ⟨HB.out.next hb (Nat.le_refl _)⟩
        replace Hs1 : Kp _ := ⟨Hs1.out.next hb (Nat.le_refl _)⟩
        replace HT : Kp _ := ⟨HT.out.below hb HP.out⟩
        replace HP : Kp _ := ⟨Nat.lt_of_lt_of_le HP.out hb.size⟩
        replace HBel : Kp _ := ⟨HBel.out.trans (hb.mono HBel.out.size)⟩
        clear hb
        go_wp2_with fail
        refine (HCw.out _ HB.out).mono ?_
        rintro e x10 ⟨rfl, hb⟩
        replace HB : Kp _ := ⟨HB.out.next hb (Nat.le_refl _)⟩
        replace Hs1 : Kp _ := ⟨Hs1.out.next hb (Nat.le_refl _)⟩
        replace HT : Kp _ := ⟨HT.out.below hb HP.out⟩
        replace HP : Kp _ := ⟨Nat.lt_of_lt_of_le HP.out hb.size⟩
        replace HBel : Kp _ := ⟨HBel.out.trans (hb.mono HBel.out.size)⟩
        clear hb
        go_wp2_with fail
        refine (HCh.out _ HB.out).mono ?_
        rintro e x11 ⟨rfl, hb⟩
        replace HB : Kp _ := ⟨HB.out.next hb (Nat.le_refl _)⟩
        replace Hs1 : Kp _ := ⟨Hs1.out.next hb (Nat.le_refl _)⟩
        replace HT : Kp _ := ⟨HT.out.below hb HP.out⟩
        replace HP : Kp _ := ⟨Nat.lt_of_lt_of_le HP.out hb.size⟩
        replace HBel : Kp _ := ⟨HBel.out.trans (hb.mono HBel.out.size)⟩
        clear hb
        go_wp2_with fail
        refine (HCb.out _ HB.out).mono ?_
        rintro e x12 ⟨rfl, hb⟩
        replace HB : Kp _ := ⟨HB.out.next hb (Nat.le_refl _)⟩
        replace Hs1 : Kp _ := ⟨Hs1.out.next hb (Nat.le_refl _)⟩
        replace HT : Kp _ := ⟨HT.out.below hb HP.out⟩
        replace HP : Kp _ := ⟨Nat.lt_of_lt_of_le HP.out hb.size⟩
        replace HBel : Kp _ := ⟨HBel.out.trans (hb.mono HBel.out.size)⟩
        clear hb
        go_wp2_with fail
        refine (known12_any _ HP.out HT.out).mono ?_
        rintro e x13 ⟨rfl, hb⟩
        replace HB : Kp _ := ⟨HB.out.next hb (Nat.le_refl _)⟩
        replace Hs1 : Kp _ := ⟨Hs1.out.next hb (Nat.le_refl _)⟩
        replace HT : Kp _ := ⟨HT.out.below hb HP.out⟩
        replace HP : Kp _ := ⟨Nat.lt_of_lt_of_le HP.out hb.size⟩
        replace HBel : Kp _ := ⟨HBel.out.trans (hb.mono HBel.out.size)⟩
        clear hb
        go_wp2
        go_ret
        exact ⟨rfl, HBel.out⟩
  | false =>
    cases was with
    | true =>
      simp [hpl] at hturn
      have hc1 : ((m1 : Int) == (m0 : Int) + -1) = true := by rw [beq_iff_eq]; omega
      have hc2 : ((m1 : Int) == (m0 : Int) - 1) = true := by rw [beq_iff_eq]; omega
      clear hturn
      by_cases hpq : p = q
      · subst hpq
        have hpp : ((p : Int) != (p : Int)) = false := by simp
        go_enter Tryd.func4, Tryd.ntmps4
        have hcall := get_any A n c (p : Int) b _ _ HB.out (by omega)
        rw [G2.out] at hcall
        have HCl : Kp _ := ⟨hcall⟩
        clear hcall
        go_wp2_with fail
        refine HCl.out.mono ?_
        rintro e x1 ⟨rfl, mD, rfl⟩
        have hb := below_drewN w w.heap.size mD
        replace HB : Kp _ := ⟨HB.out.next hb (Nat.le_refl _)⟩
        replace HT : Kp _ := ⟨HT.out.below hb HP.out⟩
        replace HP : Kp _ := ⟨Nat.lt_of_lt_of_le HP.out hb.size⟩
        replace HBel : Kp _ := ⟨HBel.out.trans (hb.mono HBel.out.size)⟩
        clear hb
        clear HCl
        generalize w.drewN mD = x1 at *
        have HCl : Kp _ := ⟨set_any A n c (p : Int) false b _ HB.out (by omega) (by omega)⟩
        go_wp2_with fail
        refine HCl.out.mono ?_
        rintro e x2 ⟨As1, cs1, rfl, hrow, hb⟩
        clear HCl
        replace HB : Kp _ := ⟨HB.out.next hb (Nat.le_refl _)⟩
        replace HT : Kp _ := ⟨HT.out.below hb HP.out⟩
        replace HP : Kp _ := ⟨Nat.lt_of_lt_of_le HP.out hb.size⟩
        replace HBel : Kp _ := ⟨HBel.out.trans (hb.mono HBel.out.size)⟩
        clear hb
        have Hs1 : Kp _ := ⟨hrow⟩
        clear hrow
        rw [HSc.out _ rfl] at Hs1
        have hcall := get_any As1 n cs1 (p : Int) bc _ _ Hs1.out (by omega)
        rw [G1.out] at hcall
        have HCl : Kp _ := ⟨hcall⟩
        clear hcall
        go_wp2_with fail
        refine HCl.out.mono ?_
        rintro e x3 ⟨rfl, mD, rfl⟩
        have hb := below_drewN x2 x2.heap.size mD
        replace HB : Kp _ := ⟨HB.out.next hb (Nat.le_refl _)⟩
        replace Hs1 : Kp _ := ⟨Hs1.out.next hb (Nat.le_refl _)⟩
        replace HT : Kp _ := ⟨HT.out.below hb HP.out⟩
        replace HP : Kp _ := ⟨Nat.lt_of_lt_of_le HP.out hb.size⟩
        replace HBel : Kp _ := ⟨HBel.out.trans (hb.mono HBel.out.size)⟩
        clear hb
        clear HCl
        generalize x2.drewN mD = x3 at *
        have HCl : Kp _ := ⟨set_any As1 n cs1 (p : Int) true bc _ Hs1.out (by omega) (by omega)⟩
        go_wp2_with fail
        refine HCl.out.mono ?_
        rintro e x4 ⟨As2, cs2, rfl, hrow, hb⟩
        clear HCl
        replace HB : Kp _ := ⟨HB.out.next hb (Nat.le_refl _)⟩
        replace Hs1 : Kp _ := ⟨Hs1.out.next hb (Nat.le_refl _)⟩
        replace HT : Kp _ := ⟨HT.out.below hb HP.out⟩
        replace HP : Kp _ := ⟨Nat.lt_of_lt_of_le HP.out hb.size⟩
        replace HBel : Kp _ := ⟨HBel.out.trans (hb.mono HBel.out.size)⟩
        clear hb
        have Hs2 : Kp _ := ⟨hrow⟩
        clear hrow
        rw [G4.out _ rfl] at Hs2
        have hcall := same_any As2 A n cs2 n c _ _ _ _ _ Hs2.out HB.out
        rw [beq_self_eq_true] at hcall
        have HCq : Kp _ := ⟨hcall⟩
        clear hcall
        go_wp2_with fail
        refine (HCq.out).mono ?_
        rintro e x5 ⟨rfl, rfl⟩
        clear HCq Hs2
        go_wp2_with fail
        refine (HC.out _ _ _ Hs1.out).mono ?_
        rintro e x6 ⟨rfl, hb⟩
        replace HB : Kp _ := ⟨HB.out.next hb (Nat.le_refl _)⟩
        replace Hs1 : Kp _ := ⟨Hs1.out.next hb (Nat.le_refl _)⟩
        replace HT : Kp _ := ⟨HT.out.below hb HP.out⟩
        replace HP : Kp _ := ⟨Nat.lt_of_lt_of_le HP.out hb.size⟩
        replace HBel : Kp _ := ⟨HBel.out.trans (hb.mono HBel.out.size)⟩
        clear hb
        go_wp2_with fail
        refine (HCb.out _ HB.out).mono ?_
        rintro e x7 ⟨rfl, hb⟩
        replace HB : Kp _ := ⟨HB.out.next hb (Nat.le_refl _)⟩
        replace Hs1 : Kp _ := ⟨Hs1.out.next hb (Nat.le_refl _)⟩
        replace HT : Kp _ := ⟨HT.out.below hb HP.out⟩
        replace HP : Kp _ := ⟨Nat.lt_of_lt_of_le HP.out hb.size⟩
        replace HBel : Kp _ := ⟨HBel.out.trans (hb.mono HBel.out.size)⟩
        clear hb
        go_wp2_with fail
        refine (HCw.out _ HB.out).mono ?_
        rintro e x8 ⟨rfl, hb⟩
        replace HB : Kp _ := ⟨HB.out.next hb (Nat.le_refl _)⟩
        replace Hs1 : Kp _ := ⟨Hs1.out.next hb (Nat.le_refl _)⟩
        replace HT : Kp _ := ⟨HT.out.below hb HP.out⟩
        replace HP : Kp _ := ⟨Nat.lt_of_lt_of_le HP.out hb.size⟩
        replace HBel : Kp _ := ⟨HBel.out.trans (hb.mono HBel.out.size)⟩
        clear hb
        go_wp2_with fail
        refine (HCh.out _ HB.out).mono ?_
        rintro e x9 ⟨rfl, hb⟩
        replace HB : Kp _ := ⟨HB.out.next hb (Nat.le_refl _)⟩
        replace Hs1 : Kp _ := ⟨Hs1.out.next hb (Nat.le_refl _)⟩
        replace HT : Kp _ := ⟨HT.out.below hb HP.out⟩
        replace HP : Kp _ := ⟨Nat.lt_of_lt_of_le HP.out hb.size⟩
        replace HBel : Kp _ := ⟨HBel.out.trans (hb.mono HBel.out.size)⟩
        clear hb
        go_wp2_with fail
        refine (HCb.out _ HB.out).mono ?_
        rintro e x10 ⟨rfl, hb⟩
        replace HB : Kp _ := ⟨HB.out.next hb (Nat.le_refl _)⟩
        replace Hs1 : Kp _ := ⟨Hs1.out.next hb (Nat.le_refl _)⟩
        replace HT : Kp _ := ⟨HT.out.below hb HP.out⟩
        replace HP : Kp _ := ⟨Nat.lt_of_lt_of_le HP.out hb.size⟩
        replace HBel : Kp _ := ⟨HBel.out.trans (hb.mono HBel.out.size)⟩
        clear hb
        go_wp2_with fail
        refine (known12_any _ HP.out HT.out).mono ?_
        rintro e x11 ⟨rfl, hb⟩
        replace HB : Kp _ := ⟨HB.out.next hb (Nat.le_refl _)⟩
        replace Hs1 : Kp _ := ⟨Hs1.out.next hb (Nat.le_refl _)⟩
        replace HT : Kp _ := ⟨HT.out.below hb HP.out⟩
        replace HP : Kp _ := ⟨Nat.lt_of_lt_of_le HP.out hb.size⟩
        replace HBel : Kp _ := ⟨HBel.out.trans (hb.mono HBel.out.size)⟩
        clear hb
        go_wp2
        go_ret
        exact ⟨rfl, HBel.out⟩
      · have hpqI : ¬ ((p : Int) = (q : Int)) := by omega
        have hpqd : ((p : Int) != (q : Int)) = true := by simp; omega
        have G3' : Kp _ := ⟨G3.out hpq⟩
        clear G3
        go_enter Tryd.func4, Tryd.ntmps4
        have hcall := get_any A n c (p : Int) b _ _ HB.out (by omega)
        rw [G2.out] at hcall
        have HCl : Kp _ := ⟨hcall⟩
        clear hcall
        go_wp2_with fail
        refine HCl.out.mono ?_
        rintro e x1 ⟨rfl, mD, rfl⟩
        have hb := below_drewN w w.heap.size mD
        replace HB : Kp _ := ⟨HB.out.next hb (Nat.le_refl _)⟩
        replace HT : Kp _ := ⟨HT.out.below hb HP.out⟩
        replace HP : Kp _ := ⟨Nat.lt_of_lt_of_le HP.out hb.size⟩
        replace HBel : Kp _ := ⟨HBel.out.trans (hb.mono HBel.out.size)⟩
        clear hb
        clear HCl
        generalize w.drewN mD = x1 at *
        have HCl : Kp _ := ⟨set_any A n c (p : Int) false b _ HB.out (by omega) (by omega)⟩
        go_wp2_with fail
        refine HCl.out.mono ?_
        rintro e x2 ⟨As1, cs1, rfl, hrow, hb⟩
        clear HCl
        replace HB : Kp _ := ⟨HB.out.next hb (Nat.le_refl _)⟩
        replace HT : Kp _ := ⟨HT.out.below hb HP.out⟩
        replace HP : Kp _ := ⟨Nat.lt_of_lt_of_le HP.out hb.size⟩
        replace HBel : Kp _ := ⟨HBel.out.trans (hb.mono HBel.out.size)⟩
        clear hb
        have Hs1 : Kp _ := ⟨hrow⟩
        clear hrow
        rw [HSc.out _ rfl] at Hs1
        have hcall := get_any As1 n cs1 (p : Int) bc _ _ Hs1.out (by omega)
        rw [G1.out] at hcall
        have HCl : Kp _ := ⟨hcall⟩
        clear hcall
        go_wp2_with fail
        refine HCl.out.mono ?_
        rintro e x3 ⟨rfl, mD, rfl⟩
        have hb := below_drewN x2 x2.heap.size mD
        replace HB : Kp _ := ⟨HB.out.next hb (Nat.le_refl _)⟩
        replace Hs1 : Kp _ := ⟨Hs1.out.next hb (Nat.le_refl _)⟩
        replace HT : Kp _ := ⟨HT.out.below hb HP.out⟩
        replace HP : Kp _ := ⟨Nat.lt_of_lt_of_le HP.out hb.size⟩
        replace HBel : Kp _ := ⟨HBel.out.trans (hb.mono HBel.out.size)⟩
        clear hb
        clear HCl
        generalize x2.drewN mD = x3 at *
        have hcall := get_any As1 n cs1 (q : Int) bc _ _ Hs1.out (by omega)
        rw [G3'.out] at hcall
        have HCl : Kp _ := ⟨hcall⟩
        clear hcall
        go_wp2_with fail
        refine HCl.out.mono ?_
        rintro e x4 ⟨rfl, mD, rfl⟩
        have hb := below_drewN x3 x3.heap.size mD
        replace HB : Kp _ := ⟨HB.out.next hb (Nat.le_refl _)⟩
        replace Hs1 : Kp _ := ⟨Hs1.out.next hb (Nat.le_refl _)⟩
        replace HT : Kp _ := ⟨HT.out.below hb HP.out⟩
        replace HP : Kp _ := ⟨Nat.lt_of_lt_of_le HP.out hb.size⟩
        replace HBel : Kp _ := ⟨HBel.out.trans (hb.mono HBel.out.size)⟩
        clear hb
        clear HCl
        generalize x3.drewN mD = x4 at *
        have hcall := get_any A n c (q : Int) b _ _ HB.out (by omega)
        rw [G5.out] at hcall
        have HCl : Kp _ := ⟨hcall⟩
        clear hcall
        go_wp2_with fail
        refine HCl.out.mono ?_
        rintro e x5 ⟨rfl, mD, rfl⟩
        have hb := below_drewN x4 x4.heap.size mD
        replace HB : Kp _ := ⟨HB.out.next hb (Nat.le_refl _)⟩
        replace Hs1 : Kp _ := ⟨Hs1.out.next hb (Nat.le_refl _)⟩
        replace HT : Kp _ := ⟨HT.out.below hb HP.out⟩
        replace HP : Kp _ := ⟨Nat.lt_of_lt_of_le HP.out hb.size⟩
        replace HBel : Kp _ := ⟨HBel.out.trans (hb.mono HBel.out.size)⟩
        clear hb
        clear HCl
        generalize x4.drewN mD = x5 at *
        have HCl : Kp _ := ⟨set_any As1 n cs1 (p : Int) true bc _ Hs1.out (by omega) (by omega)⟩
        go_wp2_with fail
        refine HCl.out.mono ?_
        rintro e x6 ⟨As2, cs2, rfl, hrow, hb⟩
        clear HCl
        replace HB : Kp _ := ⟨HB.out.next hb (Nat.le_refl _)⟩
        replace Hs1 : Kp _ := ⟨Hs1.out.next hb (Nat.le_refl _)⟩
        replace HT : Kp _ := ⟨HT.out.below hb HP.out⟩
        replace HP : Kp _ := ⟨Nat.lt_of_lt_of_le HP.out hb.size⟩
        replace HBel : Kp _ := ⟨HBel.out.trans (hb.mono HBel.out.size)⟩
        clear hb
        have Hs2 : Kp _ := ⟨hrow⟩
        clear hrow
        rw [G4.out _ rfl] at Hs2
        have hcall := same_any As2 A n cs2 n c _ _ _ _ _ Hs2.out HB.out
        rw [beq_self_eq_true] at hcall
        have HCq : Kp _ := ⟨hcall⟩
        clear hcall
        go_wp2_with fail
        refine (HCq.out).mono ?_
        rintro e x7 ⟨rfl, rfl⟩
        clear HCq Hs2
        go_wp2_with fail
        refine (HC.out _ _ _ Hs1.out).mono ?_
        rintro e x8 ⟨rfl, hb⟩
        replace HB : Kp _ := ⟨HB.out.next hb (Nat.le_refl _)⟩
        replace Hs1 : Kp _ := ⟨Hs1.out.next hb (Nat.le_refl _)⟩
        replace HT : Kp _ := ⟨HT.out.below hb HP.out⟩
        replace HP : Kp _ := ⟨Nat.lt_of_lt_of_le HP.out hb.size⟩
        replace HBel : Kp _ := ⟨HBel.out.trans (hb.mono HBel.out.size)⟩
        clear hb
        go_wp2_with fail
        refine (HCb.out _ HB.out).mono ?_
        rintro e x9 ⟨rfl, hb⟩
        replace HB : Kp _ := ⟨HB.out.next hb (Nat.le_refl _)⟩
        replace Hs1 : Kp _ := ⟨Hs1.out.next hb (Nat.le_refl _)⟩
        replace HT : Kp _ := ⟨HT.out.below hb HP.out⟩
        replace HP : Kp _ := ⟨Nat.lt_of_lt_of_le HP.out hb.size⟩
        replace HBel : Kp _ := ⟨HBel.out.trans (hb.mono HBel.out.size)⟩
        clear hb
        go_wp2_with fail
        refine (HCw.out _ HB.out).mono ?_
        rintro e x10 ⟨rfl, hb⟩
        replace HB : Kp _ := ⟨HB.out.next hb (Nat.le_refl _)⟩
        replace Hs1 : Kp _ := ⟨Hs1.out.next hb (Nat.le_refl _)⟩
        replace HT : Kp _ := ⟨HT.out.below hb HP.out⟩
        replace HP : Kp _ := ⟨Nat.lt_of_lt_of_le HP.out hb.size⟩
        replace HBel : Kp _ := ⟨HBel.out.trans (hb.mono HBel.out.size)⟩
        clear hb
        go_wp2_with fail
        refine (HCh.out _ HB.out).mono ?_
        rintro e x11 ⟨rfl, hb⟩
        replace HB : Kp _ := ⟨HB.out.next hb (Nat.le_refl _)⟩
        replace Hs1 : Kp _ := ⟨Hs1.out.next hb (Nat.le_refl _)⟩
        replace HT : Kp _ := ⟨HT.out.below hb HP.out⟩
        replace HP : Kp _ := ⟨Nat.lt_of_lt_of_le HP.out hb.size⟩
        replace HBel : Kp _ := ⟨HBel.out.trans (hb.mono HBel.out.size)⟩
        clear hb
        go_wp2_with fail
        refine (HCb.out _ HB.out).mono ?_
        rintro e x12 ⟨rfl, hb⟩
        replace HB : Kp _ := ⟨HB.out.next hb (Nat.le_refl _)⟩
        replace Hs1 : Kp _ := ⟨Hs1.out.next hb (Nat.le_refl _)⟩
        replace HT : Kp _ := ⟨HT.out.below hb HP.out⟩
        replace HP : Kp _ := ⟨Nat.lt_of_lt_of_le HP.out hb.size⟩
        replace HBel : Kp _ := ⟨HBel.out.trans (hb.mono HBel.out.size)⟩
        clear hb
        go_wp2_with fail
        refine (known12_any _ HP.out HT.out).mono ?_
        rintro e x13 ⟨rfl, hb⟩
        replace HB : Kp _ := ⟨HB.out.next hb (Nat.le_refl _)⟩
        replace Hs1 : Kp _ := ⟨Hs1.out.next hb (Nat.le_refl _)⟩
        replace HT : Kp _ := ⟨HT.out.below hb HP.out⟩
        replace HP : Kp _ := ⟨Nat.lt_of_lt_of_le HP.out hb.size⟩
        replace HBel : Kp _ := ⟨HBel.out.trans (hb.mono HBel.out.size)⟩
        clear hb
        go_wp2
        go_ret
        exact ⟨rfl, HBel.out⟩
    | false =>
      simp [hpl] at hturn
      have hc1 : ((m1 : Int) == (m0 : Int)) = true := by rw [beq_iff_eq]; omega
      clear hturn
      by_cases hpq : p = q
      · subst hpq
        have hpp : ((p : Int) != (p : Int)) = false := by simp
        go_enter Tryd.func4, Tryd.ntmps4
        have hcall := get_any A n c (p : Int) b _ _ HB.out (by omega)
        rw [G2.out] at hcall
        have HCl : Kp _ := ⟨hcall⟩
        clear hcall
        go_wp2_with fail
        refine HCl.out.mono ?_
        rintro e x1 ⟨rfl, mD, rfl⟩
        have hb := below_drewN w w.heap.size mD
        replace HB : Kp _ := ⟨HB.out.next hb (Nat.le_refl _)⟩
        replace HT : Kp _ := ⟨HT.out.below hb HP.out⟩
        replace HP : Kp _ := ⟨Nat.lt_of_lt_of_le HP.out hb.size⟩
        replace HBel : Kp _ := ⟨HBel.out.trans (hb.mono HBel.out.size)⟩
        clear hb
        clear HCl
        generalize w.drewN mD = x1 at *
        have HCl : Kp _ := ⟨set_any A n c (p : Int) false b _ HB.out (by omega) (by omega)⟩
        go_wp2_with fail
        refine HCl.out.mono ?_
        rintro e x2 ⟨As1, cs1, rfl, hrow, hb⟩
        clear HCl
        replace HB : Kp _ := ⟨HB.out.next hb (Nat.le_refl _)⟩
        replace HT : Kp _ := ⟨HT.out.below hb HP.out⟩
        replace HP : Kp _ := ⟨Nat.lt_of_lt_of_le HP.out hb.size⟩
        replace HBel : Kp _ := ⟨HBel.out.trans (hb.mono HBel.out.size)⟩
        clear hb
        have Hs1 : Kp _ := ⟨hrow⟩
        clear hrow
        rw [HSc.out _ rfl] at Hs1
        have hcall := get_any As1 n cs1 (p : Int) bc _ _ Hs1.out (by omega)
        rw [G1.out] at hcall
        have HCl : Kp _ := ⟨hcall⟩
        clear hcall
        go_wp2_with fail
        refine HCl.out.mono ?_
        rintro e x3 ⟨rfl, mD, rfl⟩
        have hb := below_drewN x2 x2.heap.size mD
        replace HB : Kp _ := ⟨HB.out.next hb (Nat.le_refl _)⟩
        replace Hs1 : Kp _ := ⟨Hs1.out.next hb (Nat.le_refl _)⟩
        replace HT : Kp _ := ⟨HT.out.below hb HP.out⟩
        replace HP : Kp _ := ⟨Nat.lt_of_lt_of_le HP.out hb.size⟩
        replace HBel : Kp _ := ⟨HBel.out.trans (hb.mono HBel.out.size)⟩
        clear hb
        clear HCl
        generalize x2.drewN mD = x3 at *
        have HCl : Kp _ := ⟨set_any As1 n cs1 (p : Int) false bc _ Hs1.out (by omega) (by omega)⟩
        go_wp2_with fail
        refine HCl.out.mono ?_
        rintro e x4 ⟨As2, cs2, rfl, hrow, hb⟩
        clear HCl
        replace HB : Kp _ := ⟨HB.out.next hb (Nat.le_refl _)⟩
        replace Hs1 : Kp _ := ⟨Hs1.out.next hb (Nat.le_refl _)⟩
        replace HT : Kp _ := ⟨HT.out.below hb HP.out⟩
        replace HP : Kp _ := ⟨Nat.lt_of_lt_of_le HP.out hb.size⟩
        replace HBel : Kp _ := ⟨HBel.out.trans (hb.mono HBel.out.size)⟩
        clear hb
        have Hs2 : Kp _ := ⟨hrow⟩
        clear hrow
        rw [G4.out _ rfl] at Hs2
        have hcall := same_any As2 A n cs2 n c _ _ _ _ _ Hs2.out HB.out
        rw [beq_self_eq_true] at hcall
        have HCq : Kp _ := ⟨hcall⟩
        clear hcall
        go_wp2_with fail
        refine (HCq.out).mono ?_
        rintro e x5 ⟨rfl, rfl⟩
        clear HCq Hs2
        go_wp2_with fail
        refine (HC.out _ _ _ Hs1.out).mono ?_
        rintro e x6 ⟨rfl, hb⟩
        replace HB : Kp _ := ⟨HB.out.next hb (Nat.le_refl _)⟩
        replace Hs1 : Kp _ := ⟨Hs1.out.next hb (Nat.le_refl _)⟩
        replace HT : Kp _ := ⟨HT.out.below hb HP.out⟩
        replace HP : Kp _ := ⟨Nat.lt_of_lt_of_le HP.out hb.size⟩
        replace HBel : Kp _ := ⟨HBel.out.trans (hb.mono HBel.out.size)⟩
        clear hb
        go_wp2_with fail
        refine (HCb.out _ HB.out).mono ?_
        rintro e x7 ⟨rfl, hb⟩
        replace HB : Kp _ := ⟨HB.out.next hb (Nat.le_refl _)⟩
        replace Hs1 : Kp _ := ⟨Hs1.out.next hb (Nat.le_refl _)⟩
        replace HT : Kp _ := ⟨HT.out.below hb HP.out⟩
        replace HP : Kp _ := ⟨Nat.lt_of_lt_of_le HP.out hb.size⟩
        replace HBel : Kp _ := ⟨HBel.out.trans (hb.mono HBel.out.size)⟩
        clear hb
        go_wp2_with fail
        refine (HCw.out _ HB.out).mono ?_
        rintro e x8 ⟨rfl, hb⟩
        replace HB : Kp _ := ⟨HB.out.next hb (Nat.le_refl _)⟩
        replace Hs1 : Kp _ := ⟨Hs1.out.next hb (Nat.le_refl _)⟩
        replace HT : Kp _ := ⟨HT.out.below hb HP.out⟩
        replace HP : Kp _ := ⟨Nat.lt_of_lt_of_le HP.out hb.size⟩
        replace HBel : Kp _ := ⟨HBel.out.trans (hb.mono HBel.out.size)⟩
        clear hb
        go_wp2_with fail
        refine (HCh.out _ HB.out).mono ?_
        rintro e x9 ⟨rfl, hb⟩
        replace HB : Kp _ := ⟨HB.out.next hb (Nat.le_refl _)⟩
        replace Hs1 : Kp _ := ⟨Hs1.out.next hb (Nat.le_refl _)⟩
        replace HT : Kp _ := ⟨HT.out.below hb HP.out⟩
        replace HP : Kp _ := ⟨Nat.lt_of_lt_of_le HP.out hb.size⟩
        replace HBel : Kp _ := ⟨HBel.out.trans (hb.mono HBel.out.size)⟩
        clear hb
        go_wp2_with fail
        refine (HCb.out _ HB.out).mono ?_
        rintro e x10 ⟨rfl, hb⟩
        replace HB : Kp _ := ⟨HB.out.next hb (Nat.le_refl _)⟩
        replace Hs1 : Kp _ := ⟨Hs1.out.next hb (Nat.le_refl _)⟩
        replace HT : Kp _ := ⟨HT.out.below hb HP.out⟩
        replace HP : Kp _ := ⟨Nat.lt_of_lt_of_le HP.out hb.size⟩
        replace HBel : Kp _ := ⟨HBel.out.trans (hb.mono HBel.out.size)⟩
        clear hb
        go_wp2_with fail
        refine (known12_any _ HP.out HT.out).mono ?_
        rintro e x11 ⟨rfl, hb⟩
        replace HB : Kp _ := ⟨HB.out.next hb (Nat.le_refl _)⟩
        replace Hs1 : Kp _ := ⟨Hs1.out.next hb (Nat.le_refl _)⟩
        replace HT : Kp _ := ⟨HT.out.below hb HP.out⟩
        replace HP : Kp _ := ⟨Nat.lt_of_lt_of_le HP.out hb.size⟩
        replace HBel : Kp _ := ⟨HBel.out.trans (hb.mono HBel.out.size)⟩
        clear hb
        go_wp2
        go_ret
        exact ⟨rfl, HBel.out⟩
      · have hpqI : ¬ ((p : Int) = (q : Int)) := by omega
        have hpqd : ((p : Int) != (q : Int)) = true := by simp; omega
        have G3' : Kp _ := ⟨G3.out hpq⟩
        clear G3
        go_enter Tryd.func4, Tryd.ntmps4
        have hcall := get_any A n c (p : Int) b _ _ HB.out (by omega)
        rw [G2.out] at hcall
        have HCl : Kp _ := ⟨hcall⟩
        clear hcall
        go_wp2_with fail
        refine HCl.out.mono ?_
        rintro e x1 ⟨rfl, mD, rfl⟩
        have hb := below_drewN w w.heap.size mD
        replace HB : Kp _ := ⟨HB.out.next hb (Nat.le_refl _)⟩
        replace HT : Kp _ := ⟨HT.out.below hb HP.out⟩
        replace HP : Kp _ := ⟨Nat.lt_of_lt_of_le HP.out hb.size⟩
        replace HBel : Kp _ := ⟨HBel.out.trans (hb.mono HBel.out.size)⟩
        clear hb
        clear HCl
        generalize w.drewN mD = x1 at *
        have HCl : Kp _ := ⟨set_any A n c (p : Int) false b _ HB.out (by omega) (by omega)⟩
        go_wp2_with fail
        refine HCl.out.mono ?_
        rintro e x2 ⟨As1, cs1, rfl, hrow, hb⟩
        clear HCl
        replace HB : Kp _ := ⟨HB.out.next hb (Nat.le_refl _)⟩
        replace HT : Kp _ := ⟨HT.out.below hb HP.out⟩
        replace HP : Kp _ := ⟨Nat.lt_of_lt_of_le HP.out hb.size⟩
        replace HBel : Kp _ := ⟨HBel.out.trans (hb.mono HBel.out.size)⟩
        clear hb
        have Hs1 : Kp _ := ⟨hrow⟩
        clear hrow
        rw [HSc.out _ rfl] at Hs1
        have hcall := get_any As1 n cs1 (p : Int) bc _ _ Hs1.out (by omega)
        rw [G1.out] at hcall
        have HCl : Kp _ := ⟨hcall⟩
        clear hcall
        go_wp2_with fail
        refine HCl.out.mono ?_
        rintro e x3 ⟨rfl, mD, rfl⟩
        have hb := below_drewN x2 x2.heap.size mD
        replace HB : Kp _ := ⟨HB.out.next hb (Nat.le_refl _)⟩
        replace Hs1 : Kp _ := ⟨Hs1.out.next hb (Nat.le_refl _)⟩
        replace HT : Kp _ := ⟨HT.out.below hb HP.out⟩
        replace HP : Kp _ := ⟨Nat.lt_of_lt_of_le HP.out hb.size⟩
        replace HBel : Kp _ := ⟨HBel.out.trans (hb.mono HBel.out.size)⟩
        clear hb
        clear HCl
        generalize x2.drewN mD = x3 at *
        have hcall := get_any As1 n cs1 (q : Int) bc _ _ Hs1.out (by omega)
        rw [G3'.out] at hcall
        have HCl : Kp _ := ⟨hcall⟩
        clear hcall
        go_wp2_with fail
        refine HCl.out.mono ?_
        rintro e x4 ⟨rfl, mD, rfl⟩
        have hb := below_drewN x3 x3.heap.size mD
        replace HB : Kp _ := ⟨HB.out.next hb (Nat.le_refl _)⟩
        replace Hs1 : Kp _ := ⟨Hs1.out.next hb (Nat.le_refl _)⟩
        replace HT : Kp _ := ⟨HT.out.below hb HP.out⟩
        replace HP : Kp _ := ⟨Nat.lt_of_lt_of_le HP.out hb.size⟩
        replace HBel : Kp _ := ⟨HBel.out.trans (hb.mono HBel.out.size)⟩
        clear hb
        clear HCl
        generalize x3.drewN mD = x4 at *
        have hcall := get_any A n c (q : Int) b _ _ HB.out (by omega)
        rw [G5.out] at hcall
        have HCl : Kp _ := ⟨hcall⟩
        clear hcall
        go_wp2_with fail
        refine HCl.out.mono ?_
        rintro e x5 ⟨rfl, mD, rfl⟩
        have hb := below_drewN x4 x4.heap.size mD
        replace HB : Kp _ := ⟨HB.out.next hb (Nat.le_refl _)⟩
        replace Hs1 : Kp _ := ⟨Hs1.out.next hb (Nat.le_refl _)⟩
        replace HT : Kp _ := ⟨HT.out.below hb HP.out⟩
        replace HP : Kp _ := ⟨Nat.lt_of_lt_of_le HP.out hb.size⟩
        replace HBel : Kp _ := ⟨HBel.out.trans (hb.mono HBel.out.size)⟩
        clear hb
        clear HCl
        generalize x4.drewN mD = x5 at *
        have HCl : Kp _ := ⟨set_any As1 n cs1 (p : Int) false bc _ Hs1.out (by omega) (by omega)⟩
        go_wp2_with fail
        refine HCl.out.mono ?_
        rintro e x6 ⟨As2, cs2, rfl, hrow, hb⟩
        clear HCl
        replace HB : Kp _ := ⟨HB.out.next hb (Nat.le_refl _)⟩
        replace Hs1 : Kp _ := ⟨Hs1.out.next hb (Nat.le_refl _)⟩
        replace HT : Kp _ := ⟨HT.out.below hb HP.out⟩
        replace HP : Kp _ := ⟨Nat.lt_of_lt_of_le HP.out hb.size⟩
        replace HBel : Kp _ := ⟨HBel.out.trans (hb.mono HBel.out.size)⟩
        clear hb
        have Hs2 : Kp _ := ⟨hrow⟩
        clear hrow
        rw [G4.out _ rfl] at Hs2
        have hcall := same_any As2 A n cs2 n c _ _ _ _ _ Hs2.out HB.out
        rw [beq_self_eq_true] at hcall
        have HCq : Kp _ := ⟨hcall⟩
        clear hcall
        go_wp2_with fail
        refine (HCq.out).mono ?_
        rintro e x7 ⟨rfl, rfl⟩
        clear HCq Hs2
        go_wp2_with fail
        refine (HC.out _ _ _ Hs1.out).mono ?_
        rintro e x8 ⟨rfl, hb⟩
        replace HB : Kp _ := ⟨HB.out.next hb (Nat.le_refl _)⟩
        replace Hs1 : Kp _ := ⟨Hs1.out.next hb (Nat.le_refl _)⟩
        replace HT : Kp _ := ⟨HT.out.below hb HP.out⟩
        replace HP : Kp _ := ⟨Nat.lt_of_lt_of_le HP.out hb.size⟩
        replace HBel : Kp _ := ⟨HBel.out.trans (hb.mono HBel.out.size)⟩
        clear hb
        go_wp2_with fail
        refine (HCb.out _ HB.out).mono ?_
        rintro e x9 ⟨rfl, hb⟩
        replace HB : Kp _ := ⟨HB.out.next hb (Nat.le_refl _)⟩
        replace Hs1 : Kp _ := ⟨Hs1.out.next hb (Nat.le_refl _)⟩
        replace HT : Kp _ := ⟨HT.out.below hb HP.out⟩
        replace HP : Kp _ := ⟨Nat.lt_of_lt_of_le HP.out hb.size⟩
        replace HBel : Kp _ := ⟨HBel.out.trans (hb.mono HBel.out.size)⟩
        clear hb
        go_wp2_with fail
        refine (HCw.out _ HB.out).mono ?_
        rintro e x10 ⟨rfl, hb⟩
        replace HB : Kp _ := ⟨HB.out.next hb (Nat.le_refl _)⟩
        replace Hs1 : Kp _ := ⟨Hs1.out.next hb (Nat.le_refl _)⟩
        replace HT : Kp _ := ⟨HT.out.below hb HP.out⟩
        replace HP : Kp _ := ⟨Nat.lt_of_lt_of_le HP.out hb.size⟩
        replace HBel : Kp _ := ⟨HBel.out.trans (hb.mono HBel.out.size)⟩
        clear hb
        go_wp2_with fail
        refine (HCh.out _ HB.out).mono ?_
        rintro e x11 ⟨rfl, hb⟩
        replace HB : Kp _ := ⟨HB.out.next hb (Nat.le_refl _)⟩
        replace Hs1 : Kp _ := ⟨Hs1.out.next hb (Nat.le_refl _)⟩
        replace HT : Kp _ := ⟨HT.out.below hb HP.out⟩
        replace HP : Kp _ := ⟨Nat.lt_of_lt_of_le HP.out hb.size⟩
        replace HBel : Kp _ := ⟨HBel.out.trans (hb.mono HBel.out.size)⟩
        clear hb
        go_wp2_with fail
        refine (HCb.out _ HB.out).mono ?_
        rintro e x12 ⟨rfl, hb⟩
        replace HB : Kp _ := ⟨HB.out.next hb (Nat.le_refl _)⟩
        replace Hs1 : Kp _ := ⟨Hs1.out.next hb (Nat.le_refl _)⟩
        replace HT : Kp _ := ⟨HT.out.below hb HP.out⟩
        replace HP : Kp _ := ⟨Nat.lt_of_lt_of_le HP.out hb.size⟩
        replace HBel : Kp _ := ⟨HBel.out.trans (hb.mono HBel.out.size)⟩
        clear hb
        go_wp2_with fail
        refine (known12_any _ HP.out HT.out).mono ?_
        rintro e x13 ⟨rfl, hb⟩
        replace HB : Kp _ := ⟨HB.out.next hb (Nat.le_refl _)⟩
        replace Hs1 : Kp _ := ⟨Hs1.out.next hb (Nat.le_refl _)⟩
        replace HT : Kp _ := ⟨HT.out.below hb HP.out⟩
        replace HP : Kp _ := ⟨Nat.lt_of_lt_of_le HP.out hb.size⟩
        replace HBel : Kp _ := ⟨HBel.out.trans (hb.mono HBel.out.size)⟩
        clear hb
        go_wp2
        go_ret
        exact ⟨rfl, HBel.out⟩
end
end Go.Proofs.YtgkeckfiacdpkaaDoor
