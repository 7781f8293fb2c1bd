/- The law EntryOrders. -/
import Derived.Test.YtfcihcjnggnmpaaEnX
namespace Go.Proofs.Ytfcihcjnggnmpaa
open Go.RowKit Go.Deep

set_option maxRecDepth 100000 in
set_option maxHeartbeats 8000000 in
theorem law_entryOrders (A : Option Addr) (n c : Nat) (l : List En) (w : World) (ha : Ens w w.heap.size A n c l ∧ n ≤ 5864062014634) :
    Calls Try.prog 7 #[.slice A n c] w fun e w' => e = .returned (.bool true) ∧ Below w.heap.size w w' := by
  have hn := ha.2
  have HI : Kp _ := ⟨ha.1⟩
  have HL : Kp _ := ⟨ha.1.len⟩
  clear ha
  go_enter Try.func7, Try.ntmps7
  go_wp2_with fail
  refine (reflong_any A n c l _ _ HI.out).mono ?_
  rintro e w2 ⟨⟨q, rfl⟩, hw'⟩
  subst hw'
  by_cases hq : 1000 < q
  · have hqd : decide (1000 < q) = true := decide_eq_true hq
    go_wp2_with fail
    refine (known14_any _).mono ?_
    rintro e w3 ⟨rfl, hb3⟩
    go_wp2
    go_ret
    exact ⟨rfl, hb3⟩
  have hqd : decide (1000 < q) = false := decide_eq_false hq
  by_cases hbig : 30 < n
  · have hbd : (30 : Int) < (n : Int) := by omega
    go_wp2_with fail
    refine (known14_any _).mono ?_
    rintro e w3 ⟨rfl, hb3⟩
    go_wp2
    go_ret
    exact ⟨rfl, hb3⟩
  have hbd : ¬ (30 : Int) < (n : Int) := by omega
  clear hn
  go_wp2
  go_loopg [3, 5, 6] n (fun gk s3 v5 s6 wr => ∃ (i : Nat) (A3 : Option Addr) (n3 c3 : Nat) (ca cm : List En), i + gk = n ∧ s3 = .slice A3 n3 c3 ∧ s6 = .int .i64 i ∧ n3 ≤ i ∧ cm.length ≤ i ∧ Kp (Ens wr wr.heap.size A3 n3 c3 ca) ∧ Kp (Up ca) ∧ Kp (ca.Perm cm) ∧
    Kp (wr.ownsRow w2.heap.size 39 2 v5 cm.length (enCells cm)) ∧ Kp (∀ x ∈ cm, okNm x.1 = true ∧ EnOk x) ∧ Kp (∀ ad, A3 = some ad → v5.ownBlock ≠ some ad.block) ∧ Kp (Below w2.heap.size w2 wr))
  case atStart => exact ⟨0, none, 0, 0, [], [], by omega, rfl, rfl, Nat.le_refl _, Nat.le_refl _, ⟨Ens.zero _ _⟩, ⟨List.Pairwise.nil⟩, ⟨List.Perm.nil⟩, ⟨own2E_nil _ _ _⟩, ⟨fun x hx => by cases hx⟩, ⟨fun ad h => by cases h⟩, ⟨Below.refl _ _⟩⟩
  case round =>
    obtain ⟨i, A3, n3, c3, ca, cm, hig, rfl, rfl, hni, hmi, HC, HU, HPm, HM, HOk, HAp, HB⟩ := hrel
    cases gk with
    | succ g2 =>
      have hgo : (i : Int) < (n : Int) := by omega
      have hlt : i < n := by omega
      have hil : i < l.length := by rw [HL.out]; exact hlt
      obtain ⟨b1, o1, rfl, hb1, c0, c1⟩ := (HI.out.below HB.out).at hlt
      have HO : Kp _ := ⟨HI.out.ok _ (List.getElem_mem hil)⟩
      obtain ⟨⟨xn, z⟩, hx⟩ : ∃ x, l[i] = x := ⟨_, rfl⟩
      rw [hx] at c0 c1 HO
      simp only at c0 c1
      clear hx
      have HC0 : Kp (∀ W, Below w2.heap.size w2 W → W.cell? ⟨b1, o1 + i * 2, none⟩ = some (.string ⟨xn.toArray⟩) ∧ W.cell? ⟨b1, o1 + i * 2 + 1, none⟩ = some (.int .i64 z)) := ⟨fun W hW =>
        ⟨(hW.cell (p := ⟨b1, _, none⟩) hb1).trans ((HB.out.cell (p := ⟨b1, _, none⟩) hb1).symm.trans c0), (hW.cell (p := ⟨b1, _, none⟩) hb1).trans ((HB.out.cell (p := ⟨b1, _, none⟩) hb1).symm.trans c1)⟩⟩
      go_wp2_with fail
      refine (put_fr A3 n3 c3 ca xn z _ HC.out (by omega) HO.out).mono ?_
      rintro e w4 ⟨A4, n4, c4, rfl, h4, hb', hfr⟩
      have HM4 : Kp _ := ⟨own2_below HM.out hb'⟩
      have HC4 : Kp _ := ⟨HC.out.next hb' (Nat.le_refl _)⟩
      have HB4 : Kp (Below w2.heap.size w2 w4) := ⟨HB.out.trans (hb'.mono HB.out.size)⟩
      have HAp4 : Kp (∀ ad, A4 = some ad → u5.ownBlock ≠ some ad.block) := ⟨fun ad h => own2_ne HM.out (hfr ad h)⟩
      have hd4 := HC0.out w4 HB4.out
      obtain ⟨d0, d1⟩ := hd4
      by_cases hok : okNm xn = true ∧ hasE ca xn = false
      · obtain ⟨hp1, hp2⟩ := putC_zero (z := z) hok.1 hok.2
        rw [hp2] at h4
        have HD : Kp _ := ⟨h4⟩
        have HUp : Kp _ := ⟨up_putE (x := (xn, z)) HU.out hok.2⟩
        have HP2 : Kp _ := ⟨perm_snoc_put (x := (xn, z)) HPm.out⟩
        have HOk2 : Kp (∀ x ∈ cm ++ [(xn, z)], okNm x.1 = true ∧ EnOk x) := ⟨fun x hx => by
          rcases List.mem_append.1 hx with h | h
          · exact HOk.out x h
          · rw [List.mem_singleton.1 h]; exact ⟨hok.1, HO.out⟩⟩
        have hn4 : Kp (n4 ≤ i + 1 ∧ 0 < n4) := ⟨by have h1 := h4.len; have h2 := putE_len ca (xn, z); have h3 := HC.out.len; omega⟩
        rw [hp1]
        clear h4 hb' hfr hp1 hp2 hok HC HM HB HAp HC4 c0 c1
        generalize putE ca (xn, z) = ca2 at *
        go_wp2_with (first
          | (refine wpList_buildEn rfl _ rfl (xn, z) rfl ?_
             have HB5 : Kp (Below w2.heap.size w2 (w4.alloc (.cells (enOne (xn, z)).toArray 39))) := ⟨HB4.out.alloc HB4.out.size _⟩
             have HM5 : Kp _ := ⟨own2_below HM4.out ((Below.refl _ _).alloc (Nat.le_refl _) (.cells (enOne (xn, z)).toArray 39))⟩
             have HD5 : Kp _ := ⟨HD.out.next ((Below.refl _ w4).alloc (Nat.le_refl _) (.cells (enOne (xn, z)).toArray 39)) (Nat.le_refl _)⟩
             have HNw : Kp _ := ⟨one_news w4 39 (xn, z) ⟨w4.heap.size, 0, none⟩ rfl⟩
             clear HM4 HD HB4 d0 d1
             generalize w4.alloc (.cells (enOne (xn, z)).toArray 39) = w5 at *)
          | (at_builtin; refine wpList_appF rfl _ _ rfl w2.heap.size _ cm.length cm rfl HM5.out ⟨w4.heap.size, 0, none⟩ 1 1 [(xn, z)] rfl rfl HNw.out (by omega) HB5.out.size ?_))
        intro v6 w6 hown6 hb6 hg6 hob
        have HM6 : Kp (w6.ownsRow w2.heap.size 39 2 v6 (cm ++ [(xn, z)]).length (enCells (cm ++ [(xn, z)]))) := ⟨by rw [List.length_append]; exact hown6⟩
        have HB6 : Kp (Below w2.heap.size w2 w6) := ⟨HB5.out.trans hb6⟩
        have HD6 : Kp (Ens w6 w6.heap.size A4 n4 c4 ca2) := ⟨(HD5.out.grown hg6 HAp4.out (Nat.le_refl _)).more hg6.size⟩
        have HAp6 : Kp (∀ ad, A4 = some ad → v6.ownBlock ≠ some ad.block) := ⟨fun ad h => by
          rcases hob with e | e
          · rw [e]; exact HAp4.out ad h
          · obtain ⟨bb, oo, hA, hbl, _⟩ := HD5.out.cells hn4.out.2
            rw [hA] at h
            cases h
            rw [e]
            intro e2
            have := Option.some.inj e2
            simp at this
            omega⟩
        have hm6 : (cm ++ [(xn, z)]).length ≤ i + 1 := by simp; omega
        clear hown6 hb6 hg6 hob HD5 HM5 HB5 HNw HAp4
        go_wp2
        go_roundg g2
        case measure => omega
        case rel => exact ⟨i + 1, A4, n4, c4, ca2, cm ++ [(xn, z)], by omega, rfl, by go_num, hn4.out.1, hm6, HD6, HUp, HP2, HM6, HOk2, HAp6, HB6⟩
      · have hpc := putC_not (l := ca) (z := z) hok
        generalize putC ca (xn, z) = pc at *
        clear h4 hb' hfr HC HM HB HAp4 d0 d1 c0 c1
        go_wp2
        go_roundg g2
        case measure => omega
        case rel => exact ⟨i + 1, A3, n3, c3, ca, cm, by omega, rfl, by go_num, by omega, by omega, HC4, HU, HPm, HM4, HOk, HAp, HB4⟩
    | zero =>
      have hend : ¬ ((i : Int) < (n : Int)) := by omega
      obtain ⟨Am, cc, rfl, hM⟩ := Ens.of_own HM.out (fun x hx => (HOk.out x hx).2)
      have HE : Kp _ := ⟨hM⟩
      have HDs : Kp (cm.Pairwise fun a b => a.1 ≠ b.1) := ⟨(HPm.out.pairwise_iff (fun {a b} (hab : a.1 ≠ b.1) => Ne.symm hab)).1 HU.out.names⟩
      obtain ⟨m, hm⟩ : ∃ m, m = cm.length := ⟨_, rfl⟩
      rw [← hm] at HE ⊢
      have HMl : Kp (m = cm.length) := ⟨hm⟩
      have hm30 : m ≤ 30 := by omega
      clear hM HM HAp hm
      go_wp2
      go_loopg [4, 9] m (fun gk s4 s9 w5 => ∃ (A4 : Option Addr) (n4 c4 : Nat) (cb : List En), gk ≤ m ∧ s4 = .slice A4 n4 c4 ∧ (∃ sI : Int, s9 = .int .i64 sI ∧ sI = (gk : Int) - 1) ∧ n4 ≤ m ∧ Kp (Ens w5 w5.heap.size A4 n4 c4 cb) ∧ Kp (Up cb) ∧ Kp (cb.Perm (cm.drop gk)) ∧ Kp (Below wr.heap.size wr w5))
      case atStart => exact ⟨none, 0, 0, [], Nat.le_refl _, rfl, ⟨_, rfl, rfl⟩, Nat.zero_le _, ⟨Ens.zero _ _⟩, ⟨List.Pairwise.nil⟩, ⟨by rw [List.drop_of_length_le (by rw [HMl.out]; exact Nat.le_refl _)]⟩, ⟨Below.refl _ _⟩⟩
      case round =>
        obtain ⟨A4, n4, c4, cb, hgm, rfl, ⟨sI, rfl, hsI⟩, hn4, HCb, HUb, HPb, HBq⟩ := hrel
        cases gk with
        | succ g3 =>
          have hs2 : sI = (g3 : Int) := by omega
          subst hs2
          clear hsI
          have hgo : (0 : Int) ≤ (g3 : Int) := by omega
          have hgl : g3 < m := by omega
          have hgc : g3 < cm.length := by have := HMl.out; omega
          obtain ⟨b7, o7, rfl, hb7, c0, c1⟩ := (HE.out.below HBq.out).at hgl
          have hx7 := HOk.out _ (List.getElem_mem hgc)
          have HDr : Kp (cm.drop g3 = cm[g3] :: cm.drop (g3 + 1)) := ⟨List.drop_eq_getElem_cons hgc⟩
          have HDd : Kp _ := ⟨HDs.out.sublist (List.drop_sublist g3 cm)⟩
          rw [HDr.out] at HDd
          obtain ⟨⟨xn, z⟩, hx⟩ : ∃ x, cm[g3] = x := ⟨_, rfl⟩
          rw [hx] at c0 c1 hx7 HDr HDd
          simp only at c0 c1
          clear hx
          have hnh := not_has_of HPb.out HDd.out
          obtain ⟨hp1, hp2⟩ := putC_zero (z := z) hx7.1 hnh
          have HCp : Kp _ := ⟨put_any_en A4 n4 c4 cb xn z _ HCb.out (by omega) hx7.2⟩
          rw [hp1, hp2] at HCp
          have HUp : Kp _ := ⟨up_putE (x := (xn, z)) HUb.out hnh⟩
          have HP2 : Kp ((putE cb (xn, z)).Perm (cm.drop g3)) := ⟨by rw [HDr.out]; exact (putE_perm cb (xn, z)).trans (List.Perm.cons _ HPb.out)⟩
          have hl5 := putE_len cb (xn, z)
          have hl6 := HCb.out.len
          have hl7 : cb.length = cm.length - (g3 + 1) := by have := HPb.out.length_eq; rw [List.length_drop] at this; exact this
          generalize putE cb (xn, z) = cb2 at *
          clear hp1 hp2 hnh hx7
          go_wp2_with fail
          refine HCp.out.mono ?_
          rintro e w6 ⟨A5, n5, c5, rfl, h5, hb'⟩
          have HC5 : Kp _ := ⟨h5⟩
          have hn5 : n5 ≤ m := by have := h5.len; have := HMl.out; omega
          have HB6 := (HBq.out.trans (hb'.mono HBq.out.size))
          clear h5 hb' hl5 hl6 hl7 c0 c1
          go_wp2
          go_roundg g3
          case measure => omega
          case rel => exact ⟨A5, n5, c5, cb2, by omega, rfl, ⟨_, rfl, by first | rfl | omega⟩, hn5, HC5, HUp, HP2, ⟨HB6⟩⟩
        | zero =>
          have hs2 : sI = -1 := by omega
          subst hs2
          clear hsI
          have hEq : ca = cb := up_perm HU.out HUb.out (HPm.out.trans (by have := HPb.out; rw [List.drop_zero] at this; exact this.symm))
          subst hEq
          have HCa : Kp _ := ⟨HC.out.next HBq.out (Nat.le_refl _)⟩
          have HEa : Kp _ := ⟨HE.out.next HBq.out (Nat.le_refl _)⟩
          have HBa : Kp _ := ⟨HB.out.trans (HBq.out.mono HB.out.size)⟩
          clear HPb HUb HC HE HB
          go_wp2_with fail
          refine (same_yes A3 A4 n3 c3 n4 c4 ca _ HCa.out HCb.out).mono ?_
          rintro e w6 ⟨rfl, hb'⟩
          have HC6 : Kp _ := ⟨HCa.out.next hb' (Nat.le_refl _)⟩
          have HE6 : Kp _ := ⟨HEa.out.next hb' (Nat.le_refl _)⟩
          have HB6 : Kp (Below w2.heap.size w2 w6) := ⟨HBa.out.trans (hb'.mono HBa.out.size)⟩
          clear hb' HCa HEa HBa HBq HCb
          go_wp2
          go_loopg [3, 12] m (fun gk s3 s12 w7 => ∃ (j : Nat) (A5 : Option Addr) (n5 c5 : Nat) (cd : List En), j + gk = m ∧ s3 = .slice A5 n5 c5 ∧ s12 = .int .i64 j ∧ n5 ≤ 100 ∧ Kp (Ens w7 w7.heap.size A5 n5 c5 cd) ∧ Kp (Up cd) ∧ Kp (cd.Perm (cm.drop j)) ∧ Kp (Below w6.heap.size w6 w7))
          case atStart => exact ⟨0, A3, n3, c3, ca, by omega, rfl, rfl, by omega, HC6, HU, ⟨by rw [List.drop_zero]; exact HPm.out⟩, ⟨Below.refl _ _⟩⟩
          case round =>
            obtain ⟨j, A5, n5, c5, cd, hjm, rfl, rfl, hn5, HCd, HUd, HPd, HBd⟩ := hrel
            cases gk with
            | succ g4 =>
              have hgo2 : (j : Int) < (m : Int) := by omega
              have hjl : j < m := by omega
              have hjc : j < cm.length := by have := HMl.out; omega
              obtain ⟨b7, o7, rfl, hb7, c0, c1⟩ := (HE6.out.below HBd.out).at hjl
              have hPd := HPd.out
              rw [List.drop_eq_getElem_cons hjc] at hPd
              obtain ⟨⟨xn, z⟩, hx⟩ : ∃ x, cm[j] = x := ⟨_, rfl⟩
              rw [hx] at c0 c1 hPd
              simp only at c0 c1
              clear hx
              obtain ⟨hh, hp⟩ := drop_perm_one HUd.out hPd
              have HDc : Kp _ := ⟨drop_any A5 n5 c5 cd xn _ HCd.out (by omega)⟩
              rw [hh] at HDc
              have hlen := dropE_len hh
              have hl6 := HCd.out.len
              have HUn : Kp _ := ⟨up_dropE xn HUd.out⟩
              have HPn : Kp ((dropE cd xn).Perm (cm.drop (j + 1))) := ⟨hp⟩
              generalize dropE cd xn = cd2 at *
              clear hPd hp hh
              go_wp2_with fail
              refine HDc.out.mono ?_
              rintro e w8 ⟨A8, n8, c8, rfl, h8, hb'⟩
              have HC8 : Kp _ := ⟨h8⟩
              have hn8 : n8 ≤ 100 := by have := h8.len; omega
              have HB8 := (HBd.out.trans (hb'.mono HBd.out.size))
              clear h8 hb' hlen hl6 c0 c1
              go_wp2
              go_roundg g4
              case measure => omega
              case rel => exact ⟨j + 1, A8, n8, c8, cd2, by omega, rfl, by go_num, hn8, HC8, HUn, HPn, ⟨HB8⟩⟩
            | zero =>
              have hend2 : ¬ ((j : Int) < (m : Int)) := by omega
              have hl0 : n5 = 0 := by
                have h1 := HPd.out.length_eq
                rw [List.length_drop] at h1
                have h2 := HCd.out.len
                have := HMl.out
                omega
              subst hl0
              have HBz : Kp (Below w2.heap.size w2 _) := ⟨HB6.out.trans (HBd.out.mono HB6.out.size)⟩
              clear HCd HPd HUd HBd
              go_wp2_with fail
              refine (known14_any _).mono ?_
              rintro e w9 ⟨rfl, hb'⟩
              have HB9 : Kp _ := ⟨HBz.out.trans (hb'.mono HBz.out.size)⟩
              go_wp2
              go_ret
              exact ⟨rfl, HB9.out⟩
end Go.Proofs.Ytfcihcjnggnmpaa
