/- The law EntryKeeps. -/
import Derived.Test.YtfcihcjnggnmpaaLw14
import Derived.Test.YtfcihcjnggnmpaaEnK
namespace Go.Proofs.Ytfcihcjnggnmpaa
open Go.RowKit Go.Deep

theorem putC_eq (l : List En) (nm : List UInt8) (z : Int) : putC l (nm, z) = if okNm nm then (if hasE l nm then 13 else 0) else 11 := rfl
theorem right_up {l : List En} (h : rightE l = true) : Up l := by
  unfold rightE at h
  simp only [Bool.and_eq_true] at h
  exact (riseL_up l).1 h.1.2
theorem right_ok {l : List En} (h : rightE l = true) : ∀ x ∈ l, okE x = true := by
  unfold rightE at h
  simp only [Bool.and_eq_true] at h
  exact fun x hx => List.all_eq_true.1 h.2 x hx
theorem okE_nm {x : En} (h : okE x = true) : okNm x.1 = true := by
  unfold okE at h
  simp only [Bool.and_eq_true] at h
  exact h.1.1
set_option maxRecDepth 100000 in
set_option maxHeartbeats 4000000 in
theorem law_entryKeeps (A : Option Addr) (n c : Nat) (l : List En) (s : ByteArray) (w : World) (ha : Ens w w.heap.size A n c l ∧ n ≤ 5864062014634) (hs : s.data.toList.length ≤ 140737488351232) :
    Calls Try.prog 10 #[.slice A n c, .string s] w fun e w' => e = .returned (.bool true) ∧ Below w.heap.size w w' := by
  obtain ⟨nm, rfl, hnm⟩ := str_of s
  rw [hnm] at hs
  clear hnm
  have hn := ha.2
  have HI : Kp _ := ⟨ha.1⟩
  have HL : Kp _ := ⟨ha.1.len⟩
  have hcap : n ≤ c := ha.1.cap
  have HNil : Kp (A = none → n = 0 ∧ c = 0) := ⟨fun h => ⟨by have := ha.1.nil h; have := ha.1.cap; omega, ha.1.nil h⟩⟩
  clear ha
  have hsz : (ByteArray.mk nm.toArray).size = nm.length := by simp [ByteArray.size]
  have HO5 : EnOk (nm, 5) := ⟨hs, WalkArith.wf_i64 ⟨by omega, by omega⟩⟩
  obtain ⟨f1, f2, hf⟩ : ∃ a b, findE l nm = (a, b) := ⟨_, _, rfl⟩
  have HFi : Kp (∀ W, Ens W W.heap.size A n c l → Calls Try.prog 19 #[.slice A n c, .string ⟨nm.toArray⟩] W fun e w' => e = .returned (.tuple #[.int .i64 f1, .bool f2]) ∧ Below W.heap.size W w') := ⟨fun W h => by
    have := find_any A n c l nm W h (by omega); rwa [hf] at this⟩
  have HPu : Kp (∀ W, Ens W W.heap.size A n c l → _) := ⟨fun W h => put_any_en A n c l nm 5 W h (by omega) HO5⟩
  have HDr : Kp (∀ W, Ens W W.heap.size A n c l → _) := ⟨fun W h => drop_any A n c l nm W h (by omega)⟩
  have HNa : Kp (∀ W, _) := ⟨fun W => named_any nm W hs⟩
  have HRi : Kp (∀ W, Ens W W.heap.size A n c l → _) := ⟨fun W h => refright_any A n c l W W.heap.size h⟩
  clear HO5
  go_enter Try.func10, Try.ntmps10
  go_wp2_with fail
  refine (reflong_any A n c l _ _ HI.out).mono ?_
  rintro e w2 ⟨⟨q, rfl⟩, hw'⟩
  subst hw'
  by_cases hq : 1500 < q
  · have hqd : decide (1500 < q) = true := decide_eq_true hq
    go_wp2_with fail
    refine (known14_any _).mono ?_
    rintro e w3 ⟨rfl, hb3⟩
    go_wp2
    go_ret
    exact ⟨rfl, hb3⟩
  have hqd : decide (1500 < q) = false := decide_eq_false hq
  by_cases hbig : 60 < nm.length
  · have hbd : (60 : Int) < (nm.length : Int) := by omega
    go_wp2_with fail
    refine (known14_any _).mono ?_
    rintro e w3 ⟨rfl, hb3⟩
    go_wp2
    go_ret
    exact ⟨rfl, hb3⟩
  have hbd : ¬ (60 : Int) < (nm.length : Int) := by omega
  have HB : Kp (Below w2.heap.size w2 w2) := ⟨Below.refl _ _⟩
  go_wp2_with (at_builtin; refine wpList_appE rfl _ _ rfl w2.heap.size _ 0 [] rfl (own2E_nil _ _ _) A n c l rfl HL.out HNil.out HI.out.news (by omega) (Nat.le_refl _) ?_)
  intro v1 w3 hown hb' _
  obtain ⟨A0, c0, rfl, h0⟩ := Ens.of_own (l := l) (n := n) (by simpa using hown) HI.out.ok
  have HWas : Kp _ := ⟨h0⟩
  have HIe : Kp _ := ⟨HI.out.next hb' (Nat.le_refl _)⟩
  replace HB : Kp _ := ⟨HB.out.trans hb'⟩
  clear hown h0 hb' HI
  go_wp2_with fail
  refine (HFi.out _ HIe.out).mono ?_
  rintro e w11 ⟨rfl, hb'⟩
  replace HIe : Kp _ := ⟨HIe.out.next hb' (Nat.le_refl _)⟩
  replace HWas : Kp _ := ⟨HWas.out.next hb' (Nat.le_refl _)⟩
  replace HB : Kp _ := ⟨HB.out.trans (hb'.mono HB.out.size)⟩
  clear hb'
  go_wp2_with fail
  refine (HDr.out _ HIe.out).mono ?_
  rintro e w12 ⟨A3, n3, c3, rfl, h3, hb'⟩
  replace HIe : Kp _ := ⟨HIe.out.next hb' (Nat.le_refl _)⟩
  replace HWas : Kp _ := ⟨HWas.out.next hb' (Nat.le_refl _)⟩
  replace HB : Kp _ := ⟨HB.out.trans (hb'.mono HB.out.size)⟩
  clear hb'
  have HM : Kp _ := ⟨h3⟩
  clear h3
  go_wp2_with (refine wpList_build2 (o := ⟨some 41, _, _, _, _, _⟩) rfl 0 1 _ _ rfl rfl rfl (built_en nm 5) ?_)
  refine (HPu.out _ HIe.out).mono ?_
  rintro e w13 ⟨A4, n4, c4, rfl, h4, hb'⟩
  replace HIe : Kp _ := ⟨HIe.out.next hb' (Nat.le_refl _)⟩
  replace HWas : Kp _ := ⟨HWas.out.next hb' (Nat.le_refl _)⟩
  replace HM : Kp _ := ⟨HM.out.next hb' (Nat.le_refl _)⟩
  replace HB : Kp _ := ⟨HB.out.trans (hb'.mono HB.out.size)⟩
  clear hb'
  clear h4
  cases hd : hasE l nm with
  | false =>
    rw [findE_no hd] at hf
    obtain ⟨rfl, rfl⟩ := Prod.mk.inj hf.symm
    rw [dropE_none hd] at HM
    obtain ⟨pc, hpc⟩ : ∃ pc, pc = putC l (nm, 5) := ⟨_, rfl⟩
    have hcode : (pc == 13) = false := by
      rw [hpc, putC_eq, hd]
      cases okNm nm <;> rfl
    rw [← hpc]
    clear hpc
    go_wp2_with fail
    refine (same_yes A A0 n c n c0 l _ HIe.out HWas.out).mono ?_
    rintro e w14 ⟨rfl, hb'⟩
    replace HIe : Kp _ := ⟨HIe.out.next hb' (Nat.le_refl _)⟩
    replace HWas : Kp _ := ⟨HWas.out.next hb' (Nat.le_refl _)⟩
    replace HM : Kp _ := ⟨HM.out.next hb' (Nat.le_refl _)⟩
    replace HB : Kp _ := ⟨HB.out.trans (hb'.mono HB.out.size)⟩
    clear hb'
    go_wp2_with fail
    refine (same_yes A3 A n3 c3 n c l _ HM.out HIe.out).mono ?_
    rintro e w15 ⟨rfl, hb'⟩
    replace HIe : Kp _ := ⟨HIe.out.next hb' (Nat.le_refl _)⟩
    replace HWas : Kp _ := ⟨HWas.out.next hb' (Nat.le_refl _)⟩
    replace HM : Kp _ := ⟨HM.out.next hb' (Nat.le_refl _)⟩
    replace HB : Kp _ := ⟨HB.out.trans (hb'.mono HB.out.size)⟩
    clear hb'
    go_wp2_with fail
    refine (known14_any _).mono ?_
    rintro e w16 ⟨rfl, hb'⟩
    replace HIe : Kp _ := ⟨HIe.out.next hb' (Nat.le_refl _)⟩
    replace HWas : Kp _ := ⟨HWas.out.next hb' (Nat.le_refl _)⟩
    replace HM : Kp _ := ⟨HM.out.next hb' (Nat.le_refl _)⟩
    replace HB : Kp _ := ⟨HB.out.trans (hb'.mono HB.out.size)⟩
    clear hb'
    go_wp2
    go_ret
    exact ⟨rfl, HB.out⟩
  | true =>
    have HFy := findE_yes hd
    rw [hf] at HFy
    obtain ⟨rfl, rfl⟩ := Prod.mk.inj HFy
    cases hk : okNm nm with
    | false =>
      rw [hk] at HNa
      rw [show putC l (nm, 5) = 11 from by rw [putC_eq, hk]; rfl]
      go_wp2_with fail
      refine (same_yes A A0 n c n c0 l _ HIe.out HWas.out).mono ?_
      rintro e w17 ⟨rfl, hb'⟩
      replace HIe : Kp _ := ⟨HIe.out.next hb' (Nat.le_refl _)⟩
      replace HWas : Kp _ := ⟨HWas.out.next hb' (Nat.le_refl _)⟩
      replace HM : Kp _ := ⟨HM.out.next hb' (Nat.le_refl _)⟩
      replace HB : Kp _ := ⟨HB.out.trans (hb'.mono HB.out.size)⟩
      clear hb'
      go_wp2_with fail
      refine (HNa.out _).mono ?_
      rintro e w18 ⟨rfl, hb'⟩
      replace HIe : Kp _ := ⟨HIe.out.next hb' (Nat.le_refl _)⟩
      replace HWas : Kp _ := ⟨HWas.out.next hb' (Nat.le_refl _)⟩
      replace HM : Kp _ := ⟨HM.out.next hb' (Nat.le_refl _)⟩
      replace HB : Kp _ := ⟨HB.out.trans (hb'.mono HB.out.size)⟩
      clear hb'
      go_wp2_with fail
      refine (HRi.out _ HIe.out).mono ?_
      rintro e w19 ⟨rfl, hb0⟩
      have hb' := hb0 (w18).heap.size
      replace HIe : Kp _ := ⟨HIe.out.next hb' (Nat.le_refl _)⟩
      replace HWas : Kp _ := ⟨HWas.out.next hb' (Nat.le_refl _)⟩
      replace HM : Kp _ := ⟨HM.out.next hb' (Nat.le_refl _)⟩
      replace HB : Kp _ := ⟨HB.out.trans (hb'.mono HB.out.size)⟩
      clear hb'
      cases hr : rightE l with
      | false =>
        go_wp2_with fail
        refine (known14_any _).mono ?_
        rintro e w20 ⟨rfl, hb'⟩
        replace HIe : Kp _ := ⟨HIe.out.next hb' (Nat.le_refl _)⟩
        replace HWas : Kp _ := ⟨HWas.out.next hb' (Nat.le_refl _)⟩
        replace HM : Kp _ := ⟨HM.out.next hb' (Nat.le_refl _)⟩
        replace HB : Kp _ := ⟨HB.out.trans (hb'.mono HB.out.size)⟩
        clear hb'
        go_wp2
        go_ret
        exact ⟨rfl, HB.out⟩
      | true =>
        have h1 := right_ok hr _ (List.getElem_mem (idxE_lt.2 hd))
        have h2 := okE_nm h1
        rw [idxE_name (idxE_lt.2 hd), hk] at h2
        cases h2
    | true =>
      rw [hk] at HNa
      rw [show putC l (nm, 5) = 13 from by rw [putC_eq, hk, hd]; rfl]
      go_wp2_with fail
      refine (same_yes A A0 n c n c0 l _ HIe.out HWas.out).mono ?_
      rintro e w21 ⟨rfl, hb'⟩
      replace HIe : Kp _ := ⟨HIe.out.next hb' (Nat.le_refl _)⟩
      replace HWas : Kp _ := ⟨HWas.out.next hb' (Nat.le_refl _)⟩
      replace HM : Kp _ := ⟨HM.out.next hb' (Nat.le_refl _)⟩
      replace HB : Kp _ := ⟨HB.out.trans (hb'.mono HB.out.size)⟩
      clear hb'
      go_wp2_with fail
      refine (HNa.out _).mono ?_
      rintro e w22 ⟨rfl, hb'⟩
      replace HIe : Kp _ := ⟨HIe.out.next hb' (Nat.le_refl _)⟩
      replace HWas : Kp _ := ⟨HWas.out.next hb' (Nat.le_refl _)⟩
      replace HM : Kp _ := ⟨HM.out.next hb' (Nat.le_refl _)⟩
      replace HB : Kp _ := ⟨HB.out.trans (hb'.mono HB.out.size)⟩
      clear hb'
      go_wp2_with fail
      refine (HRi.out _ HIe.out).mono ?_
      rintro e w23 ⟨rfl, hb0⟩
      have hb' := hb0 (w22).heap.size
      replace HIe : Kp _ := ⟨HIe.out.next hb' (Nat.le_refl _)⟩
      replace HWas : Kp _ := ⟨HWas.out.next hb' (Nat.le_refl _)⟩
      replace HM : Kp _ := ⟨HM.out.next hb' (Nat.le_refl _)⟩
      replace HB : Kp _ := ⟨HB.out.trans (hb'.mono HB.out.size)⟩
      clear hb'
      cases hr : rightE l with
      | false =>
        go_wp2_with fail
        refine (known14_any _).mono ?_
        rintro e w24 ⟨rfl, hb'⟩
        replace HIe : Kp _ := ⟨HIe.out.next hb' (Nat.le_refl _)⟩
        replace HWas : Kp _ := ⟨HWas.out.next hb' (Nat.le_refl _)⟩
        replace HM : Kp _ := ⟨HM.out.next hb' (Nat.le_refl _)⟩
        replace HB : Kp _ := ⟨HB.out.trans (hb'.mono HB.out.size)⟩
        clear hb'
        go_wp2
        go_ret
        exact ⟨rfl, HB.out⟩
      | true =>
        have hup := right_up hr
        have hdl := dropE_len hd
        have HB2 : Kp _ := ⟨put_dropE hup hd⟩
        have HH : Kp _ := ⟨has_dropE (n := nm) hup⟩
        have HL3 : Kp _ := ⟨HM.out.len⟩
        have hOk : EnOk (nm, (l[idxE l nm]'(idxE_lt.2 hd)).2) := ⟨hs, (HIe.out.ok _ (List.getElem_mem (idxE_lt.2 hd))).wf⟩
        have hlen3 : n3 ≤ 5864062014804 := by have := HL3.out; have := HL.out; omega
        rw [hf] at HB2
        have hcc : putC (dropE l nm) (nm, (l[idxE l nm]'(idxE_lt.2 hd)).2) = 0 ∧ putR (dropE l nm) (nm, (l[idxE l nm]'(idxE_lt.2 hd)).2) = l := by
          unfold putC putR
          simp only [hk, HH.out]
          exact ⟨rfl, HB2.out⟩
        generalize (l[idxE l nm]'(idxE_lt.2 hd)).2 = zz at *
        go_wp2_with (refine wpList_build2 (o := ⟨some 84, _, _, _, _, _⟩) rfl 0 1 _ _ rfl rfl rfl (built_en nm zz) ?_)
        refine (put_any_en A3 n3 c3 (dropE l nm) nm zz _ HM.out hlen3 hOk).mono ?_
        rintro e w25 ⟨A5, n5, c5, rfl, h5, hb'⟩
        replace HIe : Kp _ := ⟨HIe.out.next hb' (Nat.le_refl _)⟩
        replace HWas : Kp _ := ⟨HWas.out.next hb' (Nat.le_refl _)⟩
        replace HM : Kp _ := ⟨HM.out.next hb' (Nat.le_refl _)⟩
        replace HB : Kp _ := ⟨HB.out.trans (hb'.mono HB.out.size)⟩
        clear hb'
        rw [hcc.2] at h5
        rw [hcc.1]
        have HBk : Kp _ := ⟨h5⟩
        clear h5
        go_wp2_with fail
        refine (same_yes A5 A n5 c5 n c l _ HBk.out HIe.out).mono ?_
        rintro e w26 ⟨rfl, hb'⟩
        replace HIe : Kp _ := ⟨HIe.out.next hb' (Nat.le_refl _)⟩
        replace HWas : Kp _ := ⟨HWas.out.next hb' (Nat.le_refl _)⟩
        replace HM : Kp _ := ⟨HM.out.next hb' (Nat.le_refl _)⟩
        replace HBk : Kp _ := ⟨HBk.out.next hb' (Nat.le_refl _)⟩
        replace HB : Kp _ := ⟨HB.out.trans (hb'.mono HB.out.size)⟩
        clear hb'
        go_wp2_with fail
        refine (known14_any _).mono ?_
        rintro e w27 ⟨rfl, hb'⟩
        replace HIe : Kp _ := ⟨HIe.out.next hb' (Nat.le_refl _)⟩
        replace HWas : Kp _ := ⟨HWas.out.next hb' (Nat.le_refl _)⟩
        replace HM : Kp _ := ⟨HM.out.next hb' (Nat.le_refl _)⟩
        replace HBk : Kp _ := ⟨HBk.out.next hb' (Nat.le_refl _)⟩
        replace HB : Kp _ := ⟨HB.out.trans (hb'.mono HB.out.size)⟩
        clear hb'
        go_wp2
        go_ret
        exact ⟨rfl, HB.out⟩
end Go.Proofs.Ytfcihcjnggnmpaa
