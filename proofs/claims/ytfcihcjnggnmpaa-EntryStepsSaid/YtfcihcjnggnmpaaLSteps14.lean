/- The law EntrySteps. -/
import Derived.Test.YtfcihcjnggnmpaaLKeeps14
import Derived.BigQuiet
namespace Go.Proofs.Ytfcihcjnggnmpaa
open Go.RowKit Go.Deep

set_option maxRecDepth 100000 in
set_option maxHeartbeats 8000000 in
theorem law_entrySteps (A : Option Addr) (n c : Nat) (l : List En) (w : World) (ha : Ens w w.heap.size A n c l ∧ n ≤ 5864062014634) :
    Calls Try.prog 6 #[.slice A n c] w fun e w' => e = .returned (.bool true) ∧ Below w.heap.size w w' := by
  have hn := ha.2
  have HI : Kp _ := ⟨ha.1⟩
  have HL : Kp _ := ⟨ha.1.len⟩
  clear ha
  go_enter Try.func6, Try.ntmps6
  go_wp2_with fail
  refine (reflong_any A n c l _ _ HI.out).mono ?_
  rintro e w2 ⟨⟨q, rfl⟩, hw'⟩
  subst hw'
  by_cases hq : 1200 < q
  · have hqd : decide (1200 < q) = true := decide_eq_true hq
    go_wp2_with fail
    refine (known14_any _).mono ?_
    rintro e w3 ⟨rfl, hb3⟩
    go_wp2
    go_ret
    exact ⟨rfl, hb3⟩
  have hqd : decide (1200 < q) = false := decide_eq_false hq
  by_cases hbig : 40 < n
  · have hbd : (40 : Int) < (n : Int) := by omega
    go_wp2_with fail
    refine (known14_any _).mono ?_
    rintro e w3 ⟨rfl, hb3⟩
    go_wp2
    go_ret
    exact ⟨rfl, hb3⟩
  have hbd : ¬ (40 : Int) < (n : Int) := by omega
  clear hn
  go_wp2
  go_loopg [3, 4] n (fun gk s3 s4 wr => ∃ (i : Nat) (A3 : Option Addr) (n3 c3 : Nat) (cur : List En), i + gk = n ∧ s3 = .slice A3 n3 c3 ∧ s4 = .int .i64 i ∧ n3 ≤ i ∧ Kp (Ens wr wr.heap.size A3 n3 c3 cur) ∧ Kp (Up cur) ∧ Kp (Below w2.heap.size w2 wr))
  case atStart => exact ⟨0, none, 0, 0, [], by omega, rfl, rfl, Nat.le_refl _, ⟨Ens.zero _ _⟩, ⟨List.Pairwise.nil⟩, ⟨Below.refl _ _⟩⟩
  case round =>
    obtain ⟨i, A3, n3, c3, cur, hig, rfl, rfl, hni, HC, HU, HB⟩ := hrel
    cases gk with
    | zero =>
      have hend : ¬ ((i : Int) < (n : Int)) := by omega
      go_wp2_with fail
      refine (known14_any _).mono ?_
      rintro e w3 ⟨rfl, hb3⟩
      have HB3 : Kp _ := ⟨HB.out.trans (hb3.mono HB.out.size)⟩
      go_wp2
      go_ret
      exact ⟨rfl, HB3.out⟩
    | succ g2 =>
      have hgo : (i : Int) < (n : Int) := by omega
      have hlt : i < n := by omega
      have hil : i < l.length := by rw [HL.out]; exact hlt
      obtain ⟨b1, o1, rfl, _, c0, c1⟩ := (HI.out.below HB.out).at hlt
      have HO : Kp _ := ⟨HI.out.ok _ (List.getElem_mem hil)⟩
      obtain ⟨⟨xn, z⟩, hx⟩ : ∃ x, l[i] = x := ⟨_, rfl⟩
      rw [hx] at c0 c1 HO
      simp only at c0 c1
      clear hx
      have hLc := HC.out.len
      obtain ⟨g5, hg5⟩ : ∃ g5, g5 = wr.heap.size := ⟨_, rfl⟩
      go_wp2_with (with_reducible refine wpList_alloc (o := ⟨some 5, _, _, _, _, _⟩) tyEn rfl rfl ?_)
      intro w3 hk3 hb3 _
      rw [← hg5] at hk3 ⊢
      have HK3 : Kp _ := ⟨hk3⟩
      have HB3 : Kp _ := ⟨hb3⟩
      have HG5 : Kp _ := ⟨hg5⟩
      clear hk3 hb3 hg5
      go_wp2_with (with_reducible refine wpList_storeAll (o := ⟨none, _, _, _, _, _⟩) (vs := enOne (xn, z)) rwEn rfl _ _ rfl rfl HK3.out rfl rfl (enOne_one _) rfl ?_)
      intro w4 hk4 ho4
      have HK : Kp _ := ⟨hk4⟩
      have hb4 : Below wr.heap.size wr w4 := HB3.out.trans (ho4.below (by rw [HG5.out]; exact Nat.le_refl _))
      replace HB : Kp _ := ⟨HB.out.trans (hb4.mono HB.out.size)⟩
      replace HC : Kp _ := ⟨HC.out.next hb4 (Nat.le_refl _)⟩
      have cx : w4.cell? ⟨g5, 0, none⟩ = some (.string ⟨xn.toArray⟩) := hk4.cell? 0
      clear hk4 ho4 hb4 HK3 HB3 HG5 c0 c1
      have HFc : Kp _ := ⟨find_any A3 n3 c3 cur xn w4 HC.out (by omega)⟩
      cases hw : hasE cur xn with
      | true =>
        rw [findE_yes hw] at HFc
        have hlen := dropE_len hw
        go_wp2_with fail
        refine (HFc.out).mono ?_
        rintro e w5 ⟨rfl, hb'⟩
        replace HC : Kp _ := ⟨HC.out.next hb' (Nat.le_refl _)⟩
        replace HK : Kp _ := ⟨HK.out.below hb' HK.out.lt⟩
        replace HB : Kp _ := ⟨HB.out.trans (hb'.mono HB.out.size)⟩
        clear hb'
        have cx : w5.cell? ⟨g5, 0, none⟩ = some (.string ⟨xn.toArray⟩) := HK.out.cell? 0
        have cz : w5.cell? ⟨g5, 1, none⟩ = some (.int .i64 z) := HK.out.cell? 1
        have HDr : Kp _ := ⟨drop_any A3 n3 c3 cur xn w5 HC.out (by omega)⟩
        rw [hw] at HDr
        go_wp2_with fail
        refine (HDr.out).mono ?_
        rintro e w6 ⟨A4, n4, c4, rfl, h4, hb'⟩
        replace HC : Kp _ := ⟨HC.out.next hb' (Nat.le_refl _)⟩
        replace HK : Kp _ := ⟨HK.out.below hb' HK.out.lt⟩
        replace HB : Kp _ := ⟨HB.out.trans (hb'.mono HB.out.size)⟩
        clear hb'
        have cx : w6.cell? ⟨g5, 0, none⟩ = some (.string ⟨xn.toArray⟩) := HK.out.cell? 0
        have cz : w6.cell? ⟨g5, 1, none⟩ = some (.int .i64 z) := HK.out.cell? 1
        have HD : Kp _ := ⟨h4⟩
        clear h4
        have HU2 : Kp _ := ⟨up_dropE xn HU.out⟩
        have HH : Kp _ := ⟨findE_no (has_dropE (n := xn) HU.out)⟩
        have hl4 := HD.out.len
        have hl5 : Kp (n4 + 1 = n3) := ⟨by omega⟩
        have hn4 : n4 ≤ i := by have := hl5.out; omega
        have hl6 : ((n4 : Int) != (n3 : Int) - 1) = false := by have := hl5.out; simp; omega
        generalize dropE cur xn = cur2 at *
        have HFd : Kp (∀ W, Ens W W.heap.size A4 n4 c4 cur2 → _) := ⟨fun W h => find_any A4 n4 c4 cur2 xn W h (by omega)⟩
        go_wp2
        go_loopw [14] (fun j wr => ∃ k : Nat, 1 ≤ k ∧ j = .int .i64 k ∧ Kp (∀ B, Below B w6 wr)) (fun j _ => n4 - (intOf j).toNat)
        case atStart => exact ⟨1, Nat.le_refl _, rfl, ⟨fun B => Below.refl _ _⟩⟩
        case round =>
          obtain ⟨k, hk1, rfl, HQ⟩ := hrel
          by_cases hkm : k < n4
          · obtain ⟨p, rfl⟩ : ∃ p, k = p + 1 := ⟨k - 1, by omega⟩
            have hEw := HD.out.below (HQ.out _)
            obtain ⟨b2, o2, rfl, hb2, d1, _⟩ := hEw.at (i := p) (by omega)
            obtain ⟨b3, o3, e3, hb3, d2, _⟩ := hEw.at (i := p + 1) hkm
            cases e3
            have hpl : p + 1 < (cur2).length := by have := HD.out.len; omega
            have hp0 : p < (cur2).length := by omega
            have hlx := HU2.out.at (i := p) (j := p + 1) (by omega) hpl
            have hls := leq_str ((cur2)[p + 1]'hpl).1 ((cur2)[p]'hp0).1
            rw [decide_eq_true hlx] at hls
            generalize ((cur2)[p + 1]'hpl).1 = yb at *
            generalize ((cur2)[p]'hp0).1 = ya at *
            have hix : ((p + 1 : Nat) : Int) - 1 = (p : Int) := by omega
            have hb4 : (0 : Int) ≤ (p : Int) ∧ (p : Int) < (n4 : Int) := by omega
            have hb5 : (0 : Int) ≤ ((p + 1 : Nat) : Int) ∧ ((p + 1 : Nat) : Int) < (n4 : Int) := by omega
            go_wp2_with fail
            go_quiet (fail)
            go_wp2
            go_roundw
            case rel => exact ⟨p + 2, by omega, by go_num, ⟨fun B => below_drewN (HQ.out B) _⟩⟩
            case measure => simp [intOf]; omega
          · have hkI : ¬ ((k : Int) < (n4 : Int)) := by omega
            have hbq := HQ.out w6.heap.size
            replace HD : Kp _ := ⟨HD.out.next hbq (Nat.le_refl _)⟩
            replace HK : Kp _ := ⟨HK.out.below hbq HK.out.lt⟩
            replace HB : Kp _ := ⟨HB.out.trans (hbq.mono HB.out.size)⟩
            clear hbq
            obtain ⟨w7, hw7⟩ : ∃ w7, w7 = wr := ⟨_, rfl⟩
            rw [← hw7] at HD HK HB ⊢
            clear hw7 HQ cx cz
            have cx : w7.cell? ⟨g5, 0, none⟩ = some (.string ⟨xn.toArray⟩) := HK.out.cell? 0
            have HFe : Kp _ := ⟨HFd.out w7 HD.out⟩
            rw [HH.out] at HFe
            go_wp2_with fail
            refine HFe.out.mono ?_
            rintro e w8 ⟨rfl, hb'⟩
            replace HD : Kp _ := ⟨HD.out.next hb' (Nat.le_refl _)⟩
            replace HB : Kp _ := ⟨HB.out.trans (hb'.mono HB.out.size)⟩
            clear hb'
            go_wp2
            go_roundg g2
            case measure => omega
            case rel => exact ⟨i + 1, A4, n4, c4, cur2, by omega, rfl, by go_num, by have := hl5.out; omega, HD, HU2, HB⟩
      | false =>
        rw [findE_no hw] at HFc
        go_wp2_with fail
        refine (HFc.out).mono ?_
        rintro e w5 ⟨rfl, hb'⟩
        replace HC : Kp _ := ⟨HC.out.next hb' (Nat.le_refl _)⟩
        replace HK : Kp _ := ⟨HK.out.below hb' HK.out.lt⟩
        replace HB : Kp _ := ⟨HB.out.trans (hb'.mono HB.out.size)⟩
        clear hb'
        have cx : w5.cell? ⟨g5, 0, none⟩ = some (.string ⟨xn.toArray⟩) := HK.out.cell? 0
        have cz : w5.cell? ⟨g5, 1, none⟩ = some (.int .i64 z) := HK.out.cell? 1
        have HNm : Kp (∀ W, _) := ⟨fun W => named_any xn W HO.out.len⟩
        cases hk : okNm xn with
        | false =>
          rw [hk] at HNm
          have HPc : Kp (putC cur (xn, z) = 11) := ⟨by unfold putC; simp only [hk]; rfl⟩
          go_wp2_with (with_reducible refine wpList_loadAll (o := ⟨some 64, _, _, _, _, _⟩) rwEn rfl (.tmp 5) rfl rfl HK.out rfl ?_)
          refine (put_any_en A3 n3 c3 cur xn z _ HC.out (by omega) HO.out).mono ?_
          rintro e w6 ⟨A4, n4, c4, rfl, h4, hb'⟩
          replace HC : Kp _ := ⟨HC.out.next hb' (Nat.le_refl _)⟩
          replace HK : Kp _ := ⟨HK.out.below hb' HK.out.lt⟩
          replace HB : Kp _ := ⟨HB.out.trans (hb'.mono HB.out.size)⟩
          clear hb'
          have cx : w6.cell? ⟨g5, 0, none⟩ = some (.string ⟨xn.toArray⟩) := HK.out.cell? 0
          have cz : w6.cell? ⟨g5, 1, none⟩ = some (.int .i64 z) := HK.out.cell? 1
          clear h4
          rw [HPc.out]
          go_wp2_with fail
          refine (HNm.out _).mono ?_
          rintro e w7 ⟨rfl, hb'⟩
          replace HC : Kp _ := ⟨HC.out.next hb' (Nat.le_refl _)⟩
          replace HK : Kp _ := ⟨HK.out.below hb' HK.out.lt⟩
          replace HB : Kp _ := ⟨HB.out.trans (hb'.mono HB.out.size)⟩
          clear hb'
          have cx : w7.cell? ⟨g5, 0, none⟩ = some (.string ⟨xn.toArray⟩) := HK.out.cell? 0
          have cz : w7.cell? ⟨g5, 1, none⟩ = some (.int .i64 z) := HK.out.cell? 1
          go_wp2
          go_roundg g2
          case measure => omega
          case rel => exact ⟨i + 1, A3, n3, c3, cur, by omega, rfl, by go_num, by omega, HC, HU, HB⟩
        | true =>
          rw [hk] at HNm
          have HPc : Kp (putC cur (xn, z) = 0) := ⟨by unfold putC; simp only [hk, hw]; rfl⟩
          have HPr : Kp (putR cur (xn, z) = putE cur (xn, z)) := ⟨by unfold putR; simp only [hk, hw]; rfl⟩
          go_wp2_with (with_reducible refine wpList_loadAll (o := ⟨some 64, _, _, _, _, _⟩) rwEn rfl (.tmp 5) rfl rfl HK.out rfl ?_)
          refine (put_any_en A3 n3 c3 cur xn z _ HC.out (by omega) HO.out).mono ?_
          rintro e w6 ⟨A4, n4, c4, rfl, h4, hb'⟩
          replace HC : Kp _ := ⟨HC.out.next hb' (Nat.le_refl _)⟩
          replace HK : Kp _ := ⟨HK.out.below hb' HK.out.lt⟩
          replace HB : Kp _ := ⟨HB.out.trans (hb'.mono HB.out.size)⟩
          clear hb'
          have cx : w6.cell? ⟨g5, 0, none⟩ = some (.string ⟨xn.toArray⟩) := HK.out.cell? 0
          have cz : w6.cell? ⟨g5, 1, none⟩ = some (.int .i64 z) := HK.out.cell? 1
          rw [HPr.out] at h4
          rw [HPc.out]
          have HD : Kp (Ens w6 w6.heap.size A4 n4 c4 (putE cur (xn, z))) := ⟨h4⟩
          clear h4
          have HU2 : Kp _ := ⟨up_putE (x := (xn, z)) HU.out hw⟩
          have HH : Kp _ := ⟨find_putE (x := (xn, z)) HU.out hw⟩
          have hl4 := HD.out.len
          have hl7 := putE_len cur (xn, z)
          have hl5 : Kp (n4 = n3 + 1) := ⟨by omega⟩
          have hl6 : ((n4 : Int) != (n3 : Int) + 1) = false := by have := hl5.out; simp; omega
          have hn4 : n4 ≤ i + 1 := by have := hl5.out; omega
          generalize putE cur (xn, z) = cur2 at *
          go_wp2_with fail
          refine (HNm.out _).mono ?_
          rintro e w7 ⟨rfl, hb'⟩
          replace HC : Kp _ := ⟨HC.out.next hb' (Nat.le_refl _)⟩
          replace HD : Kp _ := ⟨HD.out.next hb' (Nat.le_refl _)⟩
          replace HK : Kp _ := ⟨HK.out.below hb' HK.out.lt⟩
          replace HB : Kp _ := ⟨HB.out.trans (hb'.mono HB.out.size)⟩
          clear hb'
          have cx : w7.cell? ⟨g5, 0, none⟩ = some (.string ⟨xn.toArray⟩) := HK.out.cell? 0
          have cz : w7.cell? ⟨g5, 1, none⟩ = some (.int .i64 z) := HK.out.cell? 1
          have HFe : Kp _ := ⟨find_any A4 n4 c4 cur2 xn w7 HD.out (by omega)⟩
          rw [HH.out] at HFe
          have hzz : (z != z) = false := by simp
          go_wp2_with fail
          refine (HFe.out).mono ?_
          rintro e w8 ⟨rfl, hb'⟩
          replace HD : Kp _ := ⟨HD.out.next hb' (Nat.le_refl _)⟩
          replace HK : Kp _ := ⟨HK.out.below hb' HK.out.lt⟩
          replace HB : Kp _ := ⟨HB.out.trans (hb'.mono HB.out.size)⟩
          clear hb'
          have cx : w8.cell? ⟨g5, 0, none⟩ = some (.string ⟨xn.toArray⟩) := HK.out.cell? 0
          have cz : w8.cell? ⟨g5, 1, none⟩ = some (.int .i64 z) := HK.out.cell? 1
          go_wp2
          go_loopw [14] (fun j wr => ∃ k : Nat, 1 ≤ k ∧ j = .int .i64 k ∧ Kp (∀ B, Below B w8 wr)) (fun j _ => n4 - (intOf j).toNat)
          case atStart => exact ⟨1, Nat.le_refl _, rfl, ⟨fun B => Below.refl _ _⟩⟩
          case round =>
            obtain ⟨k, hk1, rfl, HQ⟩ := hrel
            by_cases hkm : k < n4
            · obtain ⟨p, rfl⟩ : ∃ p, k = p + 1 := ⟨k - 1, by omega⟩
              have hEw := HD.out.below (HQ.out _)
              obtain ⟨b2, o2, rfl, hb2, d1, _⟩ := hEw.at (i := p) (by omega)
              obtain ⟨b3, o3, e3, hb3, d2, _⟩ := hEw.at (i := p + 1) hkm
              cases e3
              have hpl : p + 1 < (cur2).length := by have := HD.out.len; omega
              have hp0 : p < (cur2).length := by omega
              have hlx := HU2.out.at (i := p) (j := p + 1) (by omega) hpl
              have hls := leq_str ((cur2)[p + 1]'hpl).1 ((cur2)[p]'hp0).1
              rw [decide_eq_true hlx] at hls
              generalize ((cur2)[p + 1]'hpl).1 = yb at *
              generalize ((cur2)[p]'hp0).1 = ya at *
              have hix : ((p + 1 : Nat) : Int) - 1 = (p : Int) := by omega
              have hb4 : (0 : Int) ≤ (p : Int) ∧ (p : Int) < (n4 : Int) := by omega
              have hb5 : (0 : Int) ≤ ((p + 1 : Nat) : Int) ∧ ((p + 1 : Nat) : Int) < (n4 : Int) := by omega
              go_wp2_with fail
              go_quiet (fail)
              go_wp2
              go_roundw
              case rel => exact ⟨p + 2, by omega, by go_num, ⟨fun B => below_drewN (HQ.out B) _⟩⟩
              case measure => simp [intOf]; omega
            · have hkI : ¬ ((k : Int) < (n4 : Int)) := by omega
              have hbq := HQ.out w8.heap.size
              replace HD : Kp _ := ⟨HD.out.next hbq (Nat.le_refl _)⟩
              replace HB : Kp _ := ⟨HB.out.trans (hbq.mono HB.out.size)⟩
              clear hbq
              go_wp2
              go_roundg g2
              case measure => omega
              case rel => exact ⟨i + 1, A4, n4, c4, cur2, by omega, rfl, by go_num, by have := hl5.out; omega, HD, HU2, HB⟩
end Go.Proofs.Ytfcihcjnggnmpaa
