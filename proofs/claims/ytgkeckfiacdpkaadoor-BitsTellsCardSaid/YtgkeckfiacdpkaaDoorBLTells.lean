/- The law BitsTells. -/
import Derived.Test.YtgkeckfiacdpkaaDoorBtK
namespace Go.Proofs.YtgkeckfiacdpkaaDoor
open Go.RowKit Go.Shelf

section
set_option maxRecDepth 100000
set_option maxHeartbeats 2000000
theorem law_bitsTells (A : Option Addr) (n c : Nat) (b : List UInt8) (z1 z2 z3 z4 : Int) (w : World) (ha' : Bs w w.heap.size A n c b ∧ c ≤ 140737488351232) (hz1 : (Lit.int .i64 z1).wf = true) (hz2 : (Lit.int .i64 z2).wf = true) (hz3 : (Lit.int .i64 z3).wf = true) (hz4 : (Lit.int .i64 z4).wf = true) (hT : TabD w ∧ 0 < w.heap.size) :
    Calls Tryd.prog 3 #[.slice A n c, .int .i64 z1, .int .i64 z2, .int .i64 z3, .int .i64 z4] w fun e w' => e = .returned (.bool true) ∧ Below w.heap.size w w' := by
  obtain ⟨ha, _⟩ := ha'
  have HB : Kp _ := ⟨ha⟩
  have b1 := i64_b hz1
  have b2 := i64_b hz2
  have b3 := i64_b hz3
  have b4 := i64_b hz4
  clear hz1 hz2 hz3 hz4 ha
  have HT : Kp _ := ⟨hT.1⟩
  have HP : Kp _ := ⟨hT.2⟩
  have HBel : Kp (Below w.heap.size w w) := ⟨Below.refl _ _⟩
  by_cases hbig : 200 < n
  · have hbd : decide (200 < (n : Int)) = true := decide_eq_true (by omega)
    go_enter Tryd.func3, Tryd.ntmps3
    go_wp2_with fail
    refine (known12_any _ HP.out HT.out).mono ?_
    rintro e x1 ⟨rfl, hb⟩
    replace HT : Kp _ := ⟨HT.out.below hb HP.out⟩
    replace HP : Kp _ := ⟨Nat.lt_of_lt_of_le HP.out hb.size⟩
    replace HBel : Kp _ := ⟨HBel.out.trans (hb.mono HBel.out.size)⟩
    clear hb
    go_wp2
    go_ret
    exact ⟨rfl, HBel.out⟩
  have hn : n ≤ 4294967296 := by omega
  have hbd : decide (200 < (n : Int)) = false := decide_eq_false (by omega)
  have HS1 : Kp _ := ⟨fun (X : World) (h1 : 0 < X.heap.size) (h2 : TabD X) (h3 : Bs X X.heap.size A n c b) => some_all A n c b z2 z3 z4 X h1 h2 h3 hn b3.2 b4.2 b2.2⟩
  have HS2 : Kp _ := ⟨fun (X : World) (h3 : Bs X X.heap.size A n c b) => refsome_all A n c b z2 z3 z4 X h3 hn⟩
  have HF1 : Kp _ := ⟨fun (X : World) (h1 : 0 < X.heap.size) (h2 : TabD X) (h3 : Bs X X.heap.size A n c b) => first_any A n c b z3 z4 X h1 h2 h3 hn b3.2 b4.2⟩
  have HF2 : Kp _ := ⟨fun (X : World) (h3 : Bs X X.heap.size A n c b) => reffirst_any A n c b z3 z4 X h3 hn⟩
  have HC1 : Kp _ := ⟨fun (X : World) (h3 : Bs X X.heap.size A n c b) => counts_any A n c b z3 z4 X h3 hn b3.2 b4.2⟩
  have HC2 : Kp _ := ⟨fun (X : World) (h3 : Bs X X.heap.size A n c b) => refcount_any A n c b z3 z4 X h3 hn⟩
  have HG1 : Kp _ := ⟨fun (X : World) (h3 : Bs X X.heap.size A n c b) => get_any A n c z1 b X _ h3 b1.2⟩
  have HG2 : Kp _ := ⟨fun (X : World) (h3 : Bs X X.heap.size A n c b) => refget_any A n c z1 b X _ h3 hn b1.2⟩
  have HT1 : Kp _ := ⟨fun (X : World) (h3 : Bs X X.heap.size A n c b) (t : Bool) => set_any A n c z1 t b X h3 hn b1.2⟩
  have HT2 : Kp _ := ⟨fun (X : World) (h3 : Bs X X.heap.size A n c b) (t : Bool) => refset_any A n c z1 t b X h3 hn b1.2⟩
  have HW1 : Kp _ := ⟨fun X => wide_any z2 X b2.1 b2.2⟩
  have HW2 : Kp _ := ⟨fun X => refwide_any z2 X b2.1 b2.2⟩
  generalize resZ (freeL b z3.toNat (hiN n z4)) z2.toNat = rz at *
  generalize intsL (resL (freeL b z3.toNat (hiN n z4)) z2.toNat) = rl at *
  generalize firstI (freeL b z3.toNat (hiN n z4)) = fi at *
  generalize ((fullL b z3.toNat (hiN n z4)).length : Int) = fc at *
  generalize (((z2.toNat + 7) / 8 : Nat) : Int) = wd at *
  generalize gbI b z1 = gv at *
  have HSt : Kp _ := ⟨fun t => (setI_length b z1 t)⟩
  generalize setI b z1 true = st at *
  generalize setI b z1 false = sf at *
  clear b1 b2 b3 b4 hbig hn HSt
  go_enter Tryd.func3, Tryd.ntmps3
  go_wp2_with fail
  refine (HS1.out _ HP.out HT.out HB.out).mono ?_
  rintro e x1 ⟨A1, m1, c1, rfl, hrow, hb⟩
  replace HB : Kp _ := ⟨HB.out.next hb (Nat.le_refl _)⟩
  replace HT : Kp _ := ⟨HT.out.below hb HP.out⟩
  replace HP : Kp _ := ⟨Nat.lt_of_lt_of_le HP.out hb.size⟩
  replace HBel : Kp _ := ⟨HBel.out.trans (hb.mono HBel.out.size)⟩
  clear hb
  have HZ1 : Kp _ := ⟨hrow⟩
  clear hrow
  go_wp2_with fail
  refine (HS2.out _ HB.out).mono ?_
  rintro e x2 ⟨A2, m2, c2, rfl, hrow, hb⟩
  replace HB : Kp _ := ⟨HB.out.next hb (Nat.le_refl _)⟩
  replace HZ1 : Kp _ := ⟨(HZ1.out.below hb).more hb.size⟩
  replace HT : Kp _ := ⟨HT.out.below hb HP.out⟩
  replace HP : Kp _ := ⟨Nat.lt_of_lt_of_le HP.out hb.size⟩
  replace HBel : Kp _ := ⟨HBel.out.trans (hb.mono HBel.out.size)⟩
  clear hb
  have HZ2 : Kp _ := ⟨hrow⟩
  clear hrow HS1 HS2
  go_wp2_with fail
  refine (HG1.out _ HB.out).mono ?_
  rintro e x3 ⟨rfl, mD, rfl⟩
  have hb := below_drewN x2 x2.heap.size mD
  replace HB : Kp _ := ⟨HB.out.next hb (Nat.le_refl _)⟩
  replace HZ1 : Kp _ := ⟨(HZ1.out.below hb).more hb.size⟩
  replace HZ2 : Kp _ := ⟨(HZ2.out.below hb).more hb.size⟩
  replace HT : Kp _ := ⟨HT.out.below hb HP.out⟩
  replace HP : Kp _ := ⟨Nat.lt_of_lt_of_le HP.out hb.size⟩
  replace HBel : Kp _ := ⟨HBel.out.trans (hb.mono HBel.out.size)⟩
  clear hb
  generalize x2.drewN mD = x3 at *
  go_wp2_with fail
  refine (HG2.out _ HB.out).mono ?_
  rintro e x4 ⟨rfl, rfl⟩
  go_wp2_with fail
  refine (HT1.out _ HB.out true).mono ?_
  rintro e x5 ⟨As1a, cs1a, rfl, hrow, hb⟩
  replace HB : Kp _ := ⟨HB.out.next hb (Nat.le_refl _)⟩
  replace HZ1 : Kp _ := ⟨(HZ1.out.below hb).more hb.size⟩
  replace HZ2 : Kp _ := ⟨(HZ2.out.below hb).more hb.size⟩
  replace HT : Kp _ := ⟨HT.out.below hb HP.out⟩
  replace HP : Kp _ := ⟨Nat.lt_of_lt_of_le HP.out hb.size⟩
  replace HBel : Kp _ := ⟨HBel.out.trans (hb.mono HBel.out.size)⟩
  clear hb
  have Hs1a : Kp _ := ⟨hrow⟩
  clear hrow
  go_wp2_with fail
  refine (HT2.out _ HB.out true).mono ?_
  rintro e x6 ⟨As1b, cs1b, rfl, hrow, hb⟩
  replace HB : Kp _ := ⟨HB.out.next hb (Nat.le_refl _)⟩
  replace Hs1a : Kp _ := ⟨Hs1a.out.next hb (Nat.le_refl _)⟩
  replace HZ1 : Kp _ := ⟨(HZ1.out.below hb).more hb.size⟩
  replace HZ2 : Kp _ := ⟨(HZ2.out.below hb).more hb.size⟩
  replace HT : Kp _ := ⟨HT.out.below hb HP.out⟩
  replace HP : Kp _ := ⟨Nat.lt_of_lt_of_le HP.out hb.size⟩
  replace HBel : Kp _ := ⟨HBel.out.trans (hb.mono HBel.out.size)⟩
  clear hb
  have Hs1b : Kp _ := ⟨hrow⟩
  clear hrow
  have hcall := same_any As1a As1b n cs1a n cs1b _ _ _ _ _ Hs1a.out Hs1b.out
  rw [beq_self_eq_true] at hcall
  have HCl : Kp _ := ⟨hcall⟩
  clear hcall
  go_wp2_with fail
  refine (HCl.out).mono ?_
  rintro e x7 ⟨rfl, rfl⟩
  clear HCl Hs1a Hs1b
  go_wp2_with fail
  refine (HT1.out _ HB.out false).mono ?_
  rintro e x8 ⟨As2a, cs2a, rfl, hrow, hb⟩
  replace HB : Kp _ := ⟨HB.out.next hb (Nat.le_refl _)⟩
  replace HZ1 : Kp _ := ⟨(HZ1.out.below hb).more hb.size⟩
  replace HZ2 : Kp _ := ⟨(HZ2.out.below hb).more hb.size⟩
  replace HT : Kp _ := ⟨HT.out.below hb HP.out⟩
  replace HP : Kp _ := ⟨Nat.lt_of_lt_of_le HP.out hb.size⟩
  replace HBel : Kp _ := ⟨HBel.out.trans (hb.mono HBel.out.size)⟩
  clear hb
  have Hs2a : Kp _ := ⟨hrow⟩
  clear hrow
  go_wp2_with fail
  refine (HT2.out _ HB.out false).mono ?_
  rintro e x9 ⟨As2b, cs2b, rfl, hrow, hb⟩
  replace HB : Kp _ := ⟨HB.out.next hb (Nat.le_refl _)⟩
  replace Hs2a : Kp _ := ⟨Hs2a.out.next hb (Nat.le_refl _)⟩
  replace HZ1 : Kp _ := ⟨(HZ1.out.below hb).more hb.size⟩
  replace HZ2 : Kp _ := ⟨(HZ2.out.below hb).more hb.size⟩
  replace HT : Kp _ := ⟨HT.out.below hb HP.out⟩
  replace HP : Kp _ := ⟨Nat.lt_of_lt_of_le HP.out hb.size⟩
  replace HBel : Kp _ := ⟨HBel.out.trans (hb.mono HBel.out.size)⟩
  clear hb
  have Hs2b : Kp _ := ⟨hrow⟩
  clear hrow
  have hcall := same_any As2a As2b n cs2a n cs2b _ _ _ _ _ Hs2a.out Hs2b.out
  rw [beq_self_eq_true] at hcall
  have HCl : Kp _ := ⟨hcall⟩
  clear hcall
  go_wp2_with fail
  refine (HCl.out).mono ?_
  rintro e x10 ⟨rfl, rfl⟩
  clear HCl Hs2a Hs2b
  go_wp2_with fail
  refine (HF1.out _ HP.out HT.out HB.out).mono ?_
  rintro e x11 ⟨rfl, hb⟩
  replace HB : Kp _ := ⟨HB.out.next hb (Nat.le_refl _)⟩
  replace HZ1 : Kp _ := ⟨(HZ1.out.below hb).more hb.size⟩
  replace HZ2 : Kp _ := ⟨(HZ2.out.below hb).more hb.size⟩
  replace HT : Kp _ := ⟨HT.out.below hb HP.out⟩
  replace HP : Kp _ := ⟨Nat.lt_of_lt_of_le HP.out hb.size⟩
  replace HBel : Kp _ := ⟨HBel.out.trans (hb.mono HBel.out.size)⟩
  clear hb
  go_wp2_with fail
  refine (HF2.out _ HB.out).mono ?_
  rintro e x12 ⟨rfl, hb⟩
  replace HB : Kp _ := ⟨HB.out.next hb (Nat.le_refl _)⟩
  replace HZ1 : Kp _ := ⟨(HZ1.out.below hb).more hb.size⟩
  replace HZ2 : Kp _ := ⟨(HZ2.out.below hb).more hb.size⟩
  replace HT : Kp _ := ⟨HT.out.below hb HP.out⟩
  replace HP : Kp _ := ⟨Nat.lt_of_lt_of_le HP.out hb.size⟩
  replace HBel : Kp _ := ⟨HBel.out.trans (hb.mono HBel.out.size)⟩
  clear hb
  have hcall := sameints_any _ _ _ _ _ _ _ _ _ _ _ HZ1.out HZ2.out
  rw [beq_self_eq_true] at hcall
  have HCl : Kp _ := ⟨hcall⟩
  clear hcall HF1 HF2
  go_wp2_with fail
  refine (HCl.out).mono ?_
  rintro e x13 ⟨rfl, hb⟩
  replace HB : Kp _ := ⟨HB.out.next hb (Nat.le_refl _)⟩
  replace HZ1 : Kp _ := ⟨(HZ1.out.below hb).more hb.size⟩
  replace HZ2 : Kp _ := ⟨(HZ2.out.below hb).more hb.size⟩
  replace HT : Kp _ := ⟨HT.out.below hb HP.out⟩
  replace HP : Kp _ := ⟨Nat.lt_of_lt_of_le HP.out hb.size⟩
  replace HBel : Kp _ := ⟨HBel.out.trans (hb.mono HBel.out.size)⟩
  clear hb
  clear HCl
  go_wp2_with fail
  refine (HC1.out _ HB.out).mono ?_
  rintro e x14 ⟨rfl, hb⟩
  replace HB : Kp _ := ⟨HB.out.next hb (Nat.le_refl _)⟩
  replace HZ1 : Kp _ := ⟨(HZ1.out.below hb).more hb.size⟩
  replace HZ2 : Kp _ := ⟨(HZ2.out.below hb).more hb.size⟩
  replace HT : Kp _ := ⟨HT.out.below hb HP.out⟩
  replace HP : Kp _ := ⟨Nat.lt_of_lt_of_le HP.out hb.size⟩
  replace HBel : Kp _ := ⟨HBel.out.trans (hb.mono HBel.out.size)⟩
  clear hb
  go_wp2_with fail
  refine (HC2.out _ HB.out).mono ?_
  rintro e x15 ⟨rfl, rfl⟩
  go_wp2_with fail
  refine (HW1.out _).mono ?_
  rintro e x16 ⟨rfl, rfl⟩
  go_wp2_with fail
  refine (HW2.out _).mono ?_
  rintro e x17 ⟨rfl, rfl⟩
  go_wp2_with fail
  refine (known12_any _ HP.out HT.out).mono ?_
  rintro e x18 ⟨rfl, hb⟩
  replace HB : Kp _ := ⟨HB.out.next hb (Nat.le_refl _)⟩
  replace HZ1 : Kp _ := ⟨(HZ1.out.below hb).more hb.size⟩
  replace HZ2 : Kp _ := ⟨(HZ2.out.below hb).more hb.size⟩
  replace HT : Kp _ := ⟨HT.out.below hb HP.out⟩
  replace HP : Kp _ := ⟨Nat.lt_of_lt_of_le HP.out hb.size⟩
  replace HBel : Kp _ := ⟨HBel.out.trans (hb.mono HBel.out.size)⟩
  clear hb
  go_wp2
  go_ret
  exact ⟨rfl, HBel.out⟩
end
end Go.Proofs.YtgkeckfiacdpkaaDoor
