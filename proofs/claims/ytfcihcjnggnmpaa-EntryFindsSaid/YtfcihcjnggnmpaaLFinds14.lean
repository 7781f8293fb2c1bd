/- The law EntryFinds. -/
import Derived.Test.YtfcihcjnggnmpaaLw14
namespace Go.Proofs.Ytfcihcjnggnmpaa
open Go.RowKit Go.Deep

theorem findE_fst (l : List En) (n : List UInt8) : ∃ a b, findE l n = (a, b) := ⟨_, _, rfl⟩
set_option maxRecDepth 100000 in
set_option maxHeartbeats 4000000 in
theorem law_entryFinds (A : Option Addr) (n c : Nat) (l : List En) (y : En) (s : ByteArray) (w : World) (ha : Ens w w.heap.size A n c l ∧ n ≤ 5864062014634) (hy : EnOk y) (hs : s.data.toList.length ≤ 140737488351232) :
    Calls Try.prog 4 #[.slice A n c, .agg (enOne y).toArray, .string s] w fun e w' => e = .returned (.bool true) ∧ Below w.heap.size w w' := by
  obtain ⟨nm, rfl, hnm⟩ := str_of s
  rw [hnm] at hs
  clear hnm
  obtain ⟨xn, z⟩ := y
  have hxl := hy.len
  simp only at hxl
  have HY : Kp _ := ⟨hy⟩
  have hn := ha.2
  have HI : Kp _ := ⟨ha.1⟩
  clear ha hy
  have hsz : (ByteArray.mk nm.toArray).size = nm.length := by simp [ByteArray.size]
  have hsx : (ByteArray.mk xn.toArray).size = xn.length := by simp [ByteArray.size]
  obtain ⟨f1, f2, hf⟩ := findE_fst l nm
  have HFi : Kp (∀ W, Ens W W.heap.size A n c l → Calls Try.prog 19 #[.slice A n c, .string ⟨nm.toArray⟩] W fun e w' => e = .returned (.tuple #[.int .i64 f1, .bool f2]) ∧ Below W.heap.size W w') := ⟨fun W h => by
    have := find_any A n c l nm W h (by omega); rwa [hf] at this⟩
  have HRf : Kp (∀ W, Ens W W.heap.size A n c l → Calls Try.prog 20 #[.slice A n c, .string ⟨nm.toArray⟩] W fun e w' => e = .returned (.tuple #[.int .i64 f1, .bool f2]) ∧ w' = W) := ⟨fun W h => by
    have := reffind_any A n c l nm W W.heap.size h; rwa [hf] at this⟩
  have HPu : Kp (∀ W, Ens W W.heap.size A n c l → _) := ⟨fun W h => put_any_en A n c l xn z W h (by omega) HY.out⟩
  have HRp : Kp (∀ W, Ens W W.heap.size A n c l → _) := ⟨fun W h => refput_any_en A n c l xn z W h (by omega) HY.out⟩
  have HDr : Kp (∀ W, Ens W W.heap.size A n c l → _) := ⟨fun W h => drop_any A n c l nm W h (by omega)⟩
  have HRd : Kp (∀ W, Ens W W.heap.size A n c l → _) := ⟨fun W h => refdrop_any A n c l nm W h (by omega)⟩
  have HNa : Kp (∀ W, _) := ⟨fun W => named_any nm W hs⟩
  have HRn : Kp (∀ W, _) := ⟨fun W => refnamed_any nm W hs⟩
  generalize putC l (xn, z) = pc at *
  generalize putR l (xn, z) = pr at *
  generalize hasE l nm = dc at *
  generalize dropE l nm = dr at *
  generalize okNm nm = nb at *
  clear hf
  go_enter Try.func4, Try.ntmps4
  go_wp2_with (with_reducible refine wpList_box (o := ⟨some 4, _, _, _, _, _⟩) (cs := enOne (xn, z)) rfl (.tmp 1) rfl rfl ?_)
  intro w1 hk1 hb1 hs1
  have HB : Kp _ := ⟨hb1⟩
  have HIe : Kp _ := ⟨HI.out.next hb1 (Nat.le_refl _)⟩
  have c0 : w1.cell? ⟨w.heap.size, 0, none⟩ = some (.string ⟨xn.toArray⟩) := hk1.cell? 0
  have HK : Kp _ := ⟨hk1⟩
  clear hk1 hb1 hs1 HI HY
  go_wp2_with fail
  refine (reflong_any A n c l _ _ HIe.out).mono ?_
  rintro e w2 ⟨⟨q, rfl⟩, hw'⟩
  subst hw'
  by_cases hq : 2000 < q
  · have hqd : decide (2000 < q) = true := decide_eq_true hq
    go_wp2_with fail
    refine (known14_any _).mono ?_
    rintro e w3 ⟨rfl, hb3⟩
    have HB3 : Kp _ := ⟨HB.out.trans (hb3.mono HB.out.size)⟩
    go_wp2
    go_ret
    exact ⟨rfl, HB3.out⟩
  have hqd : decide (2000 < q) = false := decide_eq_false hq
  by_cases hbig : 200 < xn.length + nm.length
  · have hbd : (200 : Int) < (xn.length : Int) + (nm.length : Int) := by omega
    go_wp2_with fail
    refine (known14_any _).mono ?_
    rintro e w3 ⟨rfl, hb3⟩
    have HB3 : Kp _ := ⟨HB.out.trans (hb3.mono HB.out.size)⟩
    go_wp2
    go_ret
    exact ⟨rfl, HB3.out⟩
  have hbd : ¬ (200 : Int) < (xn.length : Int) + (nm.length : Int) := by omega
  go_wp2_with fail
  refine (HFi.out _ HIe.out).mono ?_
  rintro e w11 ⟨rfl, hb'⟩
  replace HIe : Kp _ := ⟨HIe.out.next hb' (Nat.le_refl _)⟩
  replace HK : Kp _ := ⟨HK.out.below hb' HK.out.lt⟩
  replace HB : Kp _ := ⟨HB.out.trans (hb'.mono HB.out.size)⟩
  clear hb'
  go_wp2_with fail
  refine (HRf.out _ HIe.out).mono ?_
  rintro e w12 ⟨rfl, hw'⟩
  subst hw'
  go_wp2_with (with_reducible refine wpList_loadAll rwEn rfl _ rfl rfl HK.out rfl ?_)
  refine (HPu.out _ HIe.out).mono ?_
  rintro e w13 ⟨A1, n1, c1, rfl, h1, hb'⟩
  replace HIe : Kp _ := ⟨HIe.out.next hb' (Nat.le_refl _)⟩
  replace HK : Kp _ := ⟨HK.out.below hb' HK.out.lt⟩
  replace HB : Kp _ := ⟨HB.out.trans (hb'.mono HB.out.size)⟩
  clear hb'
  have HM : Kp _ := ⟨h1⟩
  clear h1
  go_wp2_with (with_reducible refine wpList_loadAll rwEn rfl _ rfl rfl HK.out rfl ?_)
  refine (HRp.out _ HIe.out).mono ?_
  rintro e w14 ⟨A2, n2, c2, rfl, h2, hb'⟩
  replace HIe : Kp _ := ⟨HIe.out.next hb' (Nat.le_refl _)⟩
  replace HM : Kp _ := ⟨HM.out.next hb' (Nat.le_refl _)⟩
  replace HK : Kp _ := ⟨HK.out.below hb' HK.out.lt⟩
  replace HB : Kp _ := ⟨HB.out.trans (hb'.mono HB.out.size)⟩
  clear hb'
  have HN2 : Kp _ := ⟨h2⟩
  clear h2
  go_wp2_with fail
  refine (HDr.out _ HIe.out).mono ?_
  rintro e w15 ⟨A3, n3, c3, rfl, h3, hb'⟩
  replace HIe : Kp _ := ⟨HIe.out.next hb' (Nat.le_refl _)⟩
  replace HM : Kp _ := ⟨HM.out.next hb' (Nat.le_refl _)⟩
  replace HN2 : Kp _ := ⟨HN2.out.next hb' (Nat.le_refl _)⟩
  replace HK : Kp _ := ⟨HK.out.below hb' HK.out.lt⟩
  replace HB : Kp _ := ⟨HB.out.trans (hb'.mono HB.out.size)⟩
  clear hb'
  have HO : Kp _ := ⟨h3⟩
  clear h3
  go_wp2_with fail
  refine (HRd.out _ HIe.out).mono ?_
  rintro e w16 ⟨A4, n4, c4, rfl, h4, hb'⟩
  replace HIe : Kp _ := ⟨HIe.out.next hb' (Nat.le_refl _)⟩
  replace HM : Kp _ := ⟨HM.out.next hb' (Nat.le_refl _)⟩
  replace HN2 : Kp _ := ⟨HN2.out.next hb' (Nat.le_refl _)⟩
  replace HO : Kp _ := ⟨HO.out.next hb' (Nat.le_refl _)⟩
  replace HK : Kp _ := ⟨HK.out.below hb' HK.out.lt⟩
  replace HB : Kp _ := ⟨HB.out.trans (hb'.mono HB.out.size)⟩
  clear hb'
  have HP : Kp _ := ⟨h4⟩
  clear h4
  have e1 : (f1 == f1) = true := by simp
  have e2 : (f2 == f2) = true := by simp
  have e3 : (pc == pc) = true := by simp
  have e4 : (dc == dc) = true := by simp
  have e5 : (nb == nb) = true := by simp
  go_wp2_with fail
  refine (same_yes A1 A2 n1 c1 n2 c2 pr _ HM.out HN2.out).mono ?_
  rintro e w17 ⟨rfl, hb'⟩
  replace HIe : Kp _ := ⟨HIe.out.next hb' (Nat.le_refl _)⟩
  replace HM : Kp _ := ⟨HM.out.next hb' (Nat.le_refl _)⟩
  replace HN2 : Kp _ := ⟨HN2.out.next hb' (Nat.le_refl _)⟩
  replace HO : Kp _ := ⟨HO.out.next hb' (Nat.le_refl _)⟩
  replace HP : Kp _ := ⟨HP.out.next hb' (Nat.le_refl _)⟩
  replace HK : Kp _ := ⟨HK.out.below hb' HK.out.lt⟩
  replace HB : Kp _ := ⟨HB.out.trans (hb'.mono HB.out.size)⟩
  clear hb'
  go_wp2_with fail
  refine (same_yes A3 A4 n3 c3 n4 c4 dr _ HO.out HP.out).mono ?_
  rintro e w18 ⟨rfl, hb'⟩
  replace HIe : Kp _ := ⟨HIe.out.next hb' (Nat.le_refl _)⟩
  replace HM : Kp _ := ⟨HM.out.next hb' (Nat.le_refl _)⟩
  replace HN2 : Kp _ := ⟨HN2.out.next hb' (Nat.le_refl _)⟩
  replace HO : Kp _ := ⟨HO.out.next hb' (Nat.le_refl _)⟩
  replace HP : Kp _ := ⟨HP.out.next hb' (Nat.le_refl _)⟩
  replace HK : Kp _ := ⟨HK.out.below hb' HK.out.lt⟩
  replace HB : Kp _ := ⟨HB.out.trans (hb'.mono HB.out.size)⟩
  clear hb'
  go_wp2_with fail
  refine (HNa.out _).mono ?_
  rintro e w19 ⟨rfl, hb'⟩
  replace HIe : Kp _ := ⟨HIe.out.next hb' (Nat.le_refl _)⟩
  replace HM : Kp _ := ⟨HM.out.next hb' (Nat.le_refl _)⟩
  replace HN2 : Kp _ := ⟨HN2.out.next hb' (Nat.le_refl _)⟩
  replace HO : Kp _ := ⟨HO.out.next hb' (Nat.le_refl _)⟩
  replace HP : Kp _ := ⟨HP.out.next hb' (Nat.le_refl _)⟩
  replace HK : Kp _ := ⟨HK.out.below hb' HK.out.lt⟩
  replace HB : Kp _ := ⟨HB.out.trans (hb'.mono HB.out.size)⟩
  clear hb'
  go_wp2_with fail
  refine (HRn.out _).mono ?_
  rintro e w20 ⟨rfl, hw'⟩
  subst hw'
  go_wp2_with fail
  refine (known14_any _).mono ?_
  rintro e w21 ⟨rfl, hb'⟩
  replace HIe : Kp _ := ⟨HIe.out.next hb' (Nat.le_refl _)⟩
  replace HM : Kp _ := ⟨HM.out.next hb' (Nat.le_refl _)⟩
  replace HN2 : Kp _ := ⟨HN2.out.next hb' (Nat.le_refl _)⟩
  replace HO : Kp _ := ⟨HO.out.next hb' (Nat.le_refl _)⟩
  replace HP : Kp _ := ⟨HP.out.next hb' (Nat.le_refl _)⟩
  replace HK : Kp _ := ⟨HK.out.below hb' HK.out.lt⟩
  replace HB : Kp _ := ⟨HB.out.trans (hb'.mono HB.out.size)⟩
  clear hb'
  go_wp2
  go_ret
  exact ⟨rfl, HB.out⟩
end Go.Proofs.Ytfcihcjnggnmpaa
