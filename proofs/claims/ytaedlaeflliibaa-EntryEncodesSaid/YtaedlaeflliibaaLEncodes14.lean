/- The law EntryEncodes. -/
import Derived.Test.YtaedlaeflliibaaLw14
import Derived.Test.YtaedlaeflliibaaEnJ
import Derived.Test.YtaedlaeflliibaaSame
namespace Go.Proofs.Ytaedlaeflliibaa
open Go.RowKit Go.Deep

section
set_option maxRecDepth 100000
set_option maxHeartbeats 8000000
theorem law_entryEncodes (A : Option Addr) (n c : Nat) (l : List En) (A1 : Option Addr) (n1 c1 : Nat) (b : List UInt8) (w : World) (ha : Ens w w.heap.size A n c l ∧ n ≤ 5864062014634) (hb : Bs w w.heap.size A1 n1 c1 b) :
    Calls Try.prog 3 #[.slice A n c, .slice A1 n1 c1] w fun e w' => e = .returned (.bool true) ∧ Below w.heap.size w w' := by
  have HIe : Kp _ := ⟨ha.1⟩
  have HBb : Kp _ := ⟨hb⟩
  clear ha hb
  have HE1 : Kp (∀ W, Ens W W.heap.size A n c l → _) := ⟨fun W h => encode_any A n c l W h⟩
  have HE2 : Kp (∀ W, Ens W W.heap.size A n c l → _) := ⟨fun W h => refencode_any A n c l W h⟩
  have HD1 : Kp (∀ W, Bs W W.heap.size A1 n1 c1 b → _) := ⟨fun W h => decode_any A1 n1 c1 b W h⟩
  have HD2 : Kp (n1 ≤ 4294967296 → ∀ W, Bs W W.heap.size A1 n1 c1 b → _) := ⟨fun h9 W h => refdecode_any A1 n1 c1 b W h h9⟩
  generalize encC l = xc at *
  generalize encR l = xr at *
  generalize decC b = dc at *
  generalize decR b = dr at *
  go_enter Try.func3, Try.ntmps3
  go_wp2_with fail
  refine (reflong_any A n c l _ _ HIe.out).mono ?_
  rintro e w2 ⟨⟨q, rfl⟩, hw'⟩
  subst hw'
  by_cases hq : 2000 < q
  · have hqd : decide (2000 < q) = true := decide_eq_true hq
    go_wp2_with fail
    refine (known14_any _).mono ?_
    rintro e w3 ⟨rfl, hb3⟩
    go_wp2
    go_ret
    exact ⟨rfl, hb3⟩
  have hqd : decide (2000 < q) = false := decide_eq_false hq
  by_cases hbig : 1500 < n1
  · have hbd : (1500 : Int) < (n1 : Int) := by omega
    go_wp2_with fail
    refine (known14_any _).mono ?_
    rintro e w3 ⟨rfl, hb3⟩
    go_wp2
    go_ret
    exact ⟨rfl, hb3⟩
  have hbd : ¬ (1500 : Int) < (n1 : Int) := by omega
  have HD3 : Kp (∀ W, Bs W W.heap.size A1 n1 c1 b → _) := ⟨HD2.out (by omega)⟩
  have HB : Kp (Below w2.heap.size w2 w2) := ⟨Below.refl _ _⟩
  clear HD2
  go_wp2_with fail
  refine (HE1.out _ HIe.out).mono ?_
  rintro e w11 ⟨A2, n2, c2, rfl, h2, hb'⟩
  replace HIe : Kp _ := ⟨HIe.out.next hb' (Nat.le_refl _)⟩
  replace HBb : Kp _ := ⟨HBb.out.next hb' (Nat.le_refl _)⟩
  replace HB : Kp _ := ⟨HB.out.trans (hb'.mono HB.out.size)⟩
  clear hb'
  have HX : Kp _ := ⟨h2⟩
  clear h2
  go_wp2_with fail
  refine (HE2.out _ HIe.out).mono ?_
  rintro e w12 ⟨A3, n3, c3, rfl, h3, hb'⟩
  replace HIe : Kp _ := ⟨HIe.out.next hb' (Nat.le_refl _)⟩
  replace HBb : Kp _ := ⟨HBb.out.next hb' (Nat.le_refl _)⟩
  replace HX : Kp _ := ⟨HX.out.next hb' (Nat.le_refl _)⟩
  replace HB : Kp _ := ⟨HB.out.trans (hb'.mono HB.out.size)⟩
  clear hb'
  have HY : Kp _ := ⟨h3⟩
  clear h3
  go_wp2_with fail
  refine (HD1.out _ HBb.out).mono ?_
  rintro e w13 ⟨A4, n4, c4, rfl, h4, hb'⟩
  replace HIe : Kp _ := ⟨HIe.out.next hb' (Nat.le_refl _)⟩
  replace HBb : Kp _ := ⟨HBb.out.next hb' (Nat.le_refl _)⟩
  replace HX : Kp _ := ⟨HX.out.next hb' (Nat.le_refl _)⟩
  replace HY : Kp _ := ⟨HY.out.next hb' (Nat.le_refl _)⟩
  replace HB : Kp _ := ⟨HB.out.trans (hb'.mono HB.out.size)⟩
  clear hb'
  have HM : Kp _ := ⟨h4⟩
  clear h4
  go_wp2_with fail
  refine (HD3.out _ HBb.out).mono ?_
  rintro e w14 ⟨A5, n5, c5, rfl, h5, hb'⟩
  replace HIe : Kp _ := ⟨HIe.out.next hb' (Nat.le_refl _)⟩
  replace HBb : Kp _ := ⟨HBb.out.next hb' (Nat.le_refl _)⟩
  replace HX : Kp _ := ⟨HX.out.next hb' (Nat.le_refl _)⟩
  replace HY : Kp _ := ⟨HY.out.next hb' (Nat.le_refl _)⟩
  replace HM : Kp _ := ⟨HM.out.next hb' (Nat.le_refl _)⟩
  replace HB : Kp _ := ⟨HB.out.trans (hb'.mono HB.out.size)⟩
  clear hb'
  have HN : Kp _ := ⟨h5⟩
  clear h5
  have e1 : (xc == xc) = true := by simp
  have e2 : (dc == dc) = true := by simp
  have e3 : (xr == xr) = true := by simp
  have HS1 : Kp (∀ W, Bs W W.heap.size A2 n2 c2 xr → Bs W W.heap.size A3 n3 c3 xr → Calls Try.prog 17 #[.slice A2 n2 c2, .slice A3 n3 c3] W fun e w' => e = .returned (.bool true) ∧ Below W.heap.size W w') := ⟨fun W h k => (same_any A2 A3 n2 c2 n3 c3 xr xr W _ _ h k).mono fun e w' hh => ⟨by rw [hh.1, e3], by rw [← hh.2]; exact Below.refl _ _⟩⟩
  clear HE1 HE2 HD1 HD3 e3
  go_wp2_with fail
  refine (HS1.out _ HX.out HY.out).mono ?_
  rintro e w15 ⟨rfl, hb'⟩
  replace HIe : Kp _ := ⟨HIe.out.next hb' (Nat.le_refl _)⟩
  replace HBb : Kp _ := ⟨HBb.out.next hb' (Nat.le_refl _)⟩
  replace HX : Kp _ := ⟨HX.out.next hb' (Nat.le_refl _)⟩
  replace HY : Kp _ := ⟨HY.out.next hb' (Nat.le_refl _)⟩
  replace HM : Kp _ := ⟨HM.out.next hb' (Nat.le_refl _)⟩
  replace HN : Kp _ := ⟨HN.out.next hb' (Nat.le_refl _)⟩
  replace HB : Kp _ := ⟨HB.out.trans (hb'.mono HB.out.size)⟩
  clear hb'
  go_wp2_with fail
  refine (same_yes A4 A5 n4 c4 n5 c5 dr _ HM.out HN.out).mono ?_
  rintro e w16 ⟨rfl, hb'⟩
  replace HIe : Kp _ := ⟨HIe.out.next hb' (Nat.le_refl _)⟩
  replace HBb : Kp _ := ⟨HBb.out.next hb' (Nat.le_refl _)⟩
  replace HX : Kp _ := ⟨HX.out.next hb' (Nat.le_refl _)⟩
  replace HY : Kp _ := ⟨HY.out.next hb' (Nat.le_refl _)⟩
  replace HM : Kp _ := ⟨HM.out.next hb' (Nat.le_refl _)⟩
  replace HN : Kp _ := ⟨HN.out.next hb' (Nat.le_refl _)⟩
  replace HB : Kp _ := ⟨HB.out.trans (hb'.mono HB.out.size)⟩
  clear hb'
  go_wp2_with fail
  refine (known14_any _).mono ?_
  rintro e w17 ⟨rfl, hb'⟩
  replace HIe : Kp _ := ⟨HIe.out.next hb' (Nat.le_refl _)⟩
  replace HBb : Kp _ := ⟨HBb.out.next hb' (Nat.le_refl _)⟩
  replace HX : Kp _ := ⟨HX.out.next hb' (Nat.le_refl _)⟩
  replace HY : Kp _ := ⟨HY.out.next hb' (Nat.le_refl _)⟩
  replace HM : Kp _ := ⟨HM.out.next hb' (Nat.le_refl _)⟩
  replace HN : Kp _ := ⟨HN.out.next hb' (Nat.le_refl _)⟩
  replace HB : Kp _ := ⟨HB.out.trans (hb'.mono HB.out.size)⟩
  clear hb'
  go_wp2
  go_ret
  exact ⟨rfl, HB.out⟩
end
end Go.Proofs.Ytaedlaeflliibaa
