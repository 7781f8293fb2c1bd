/- The law BitsFree. -/
import Derived.Test.YtgkeckfiacdpkaaDoorBtK
import Derived.Test.YtgkeckfiacdpkaaDoorBLFirst
import Derived.Deep.LoopGhost
namespace Go.Proofs.YtgkeckfiacdpkaaDoor
open Go.RowKit Go.Shelf

/-- what is free when the first free one is taken -/
theorem free_take {b : List UInt8} {F T i : Nat} {r : List Nat} (h : freeL b F T = i :: r) (hT : T ≤ 8 * b.length) : freeL (setb b i true) F T = r := by
  obtain ⟨h1, h2, h3, h4⟩ := sorted_first h
  have e : freeL (setb b i true) F T = (freeL b F T).filter fun j => decide (j ≠ i) := by
    unfold freeL pickL
    rw [List.filter_filter]
    apply List.filter_congr
    intro j _
    show (decide (F ≤ j) && !gb (setb b i true) j) = (decide (j ≠ i) && (decide (F ≤ j) && !gb b j))
    rw [gb_setb b i j true (by omega)]
    by_cases hj : i = j
    · subst hj; simp
    · rw [if_neg hj, decide_eq_true (show j ≠ i from fun e => hj e.symm)]; simp
  rw [e, h, List.filter_cons]
  simp only [ne_eq, not_true_eq_false, decide_false, Bool.false_eq_true, if_false]
  have hp : (freeL b F T).Pairwise (· < ·) := List.Pairwise.filter _ List.pairwise_lt_range
  rw [h] at hp
  refine List.filter_eq_self.2 fun j hj => ?_
  have := (List.pairwise_cons.1 hp).1 j hj
  simp; omega
section
set_option maxRecDepth 100000
set_option maxHeartbeats 9000000
theorem law_bitsFree (A : Option Addr) (n c : Nat) (b : List UInt8) (z1 z2 : Int) (w : World) (ha' : Bs w w.heap.size A n c b ∧ c ≤ 140737488351232) (hz1 : (Lit.int .u8 z1).wf = true) (hz2 : (Lit.int .u8 z2).wf = true) (hT : TabD w ∧ 0 < w.heap.size) :
    Calls Tryd.prog 5 #[.slice A n c, .int .u8 z1, .int .u8 z2] w fun e w' => e = .returned (.bool true) ∧ Below w.heap.size w w' := by
  obtain ⟨ha, _⟩ := ha'
  have HB : Kp _ := ⟨ha⟩
  have HLn : Kp (b.length = n) := ⟨ha.len⟩
  have b1 := u8_b hz1
  have b2 := u8_b hz2
  obtain ⟨f, rfl⟩ := Int.eq_ofNat_of_zero_le b1.1
  obtain ⟨q, rfl⟩ := Int.eq_ofNat_of_zero_le b2.1
  have hf : f ≤ 255 := by omega
  have hq : q ≤ 255 := by omega
  clear hz1 hz2 b1 b2 ha
  have HT : Kp _ := ⟨hT.1⟩
  have HP : Kp _ := ⟨hT.2⟩
  have HBel : Kp (Below w.heap.size w w) := ⟨Below.refl _ _⟩
  by_cases hbig : 60 < n
  · have hbd : decide (60 < (n : Int)) = true := decide_eq_true (by omega)
    go_enter Tryd.func5, Tryd.ntmps5
    go_wp2_with fail
    refine (known12_any _ HP.out HT.out).mono ?_
    rintro e x1 ⟨rfl, hb⟩
    replace HT : Kp _ := ⟨HT.out.below hb HP.out⟩
    replace HP : Kp _ := ⟨Nat.lt_of_lt_of_le HP.out hb.size⟩
    replace HBel : Kp _ := ⟨HBel.out.trans (hb.mono HBel.out.size)⟩
    clear hb
    go_wp2
    go_ret
    exact ⟨rfl, HBel.out⟩
  have hn : n ≤ 60 := by omega
  have hbd : decide (60 < (n : Int)) = false := decide_eq_false (by omega)
  have hT8 : hiN n (8 * (n : Int)) = 8 * n := by unfold hiN; omega
  obtain ⟨L, hL⟩ : ∃ L, L = freeL b f (8 * n) := ⟨_, rfl⟩
  obtain ⟨mc, hmc⟩ : ∃ m, m = (fullL b f (8 * n)).length := ⟨_, rfl⟩
  have hff := free_full b f (8 * n)
  rw [← hL, ← hmc] at hff
  have hL8 : L.length ≤ 8 * n := by rw [hL]; exact pick_length_le _ _ _
  have hmc8 : mc ≤ 8 * n := by rw [hmc]; exact pick_length_le _ _ _
  have HC : Kp (∀ (X : World), Bs X X.heap.size A n c b → Calls Tryd.prog 20 #[.slice A n c, .int .i64 (f : Int), .int .i64 (8 * (n : Int))] X fun e X' => e = .returned (.int .i64 (mc : Int)) ∧ Below X.heap.size X X') := ⟨fun X h => by
    have h9 := counts_any A n c b (f : Int) (8 * (n : Int)) X h (by omega) (by omega) (by omega)
    rw [hT8, show (f : Int).toNat = f by omega, ← hmc] at h9
    exact h9⟩
  have HS : Kp (∀ (X : World), 0 < X.heap.size → TabD X → Bs X X.heap.size A n c b → Calls Tryd.prog 10 #[.slice A n c, .int .i64 (q : Int), .int .i64 (f : Int), .int .i64 (8 * (n : Int))] X fun e X' => ∃ A' m' c', e = .returned (.tuple #[.slice A' m' c', .int .i64 (resZ L q)]) ∧ Zs X' X'.heap.size .i64 A' m' c' (intsL (resL L q)) ∧ Below X.heap.size X X') := ⟨fun X h1 h2 h3 => by
    have h9 := some_all A n c b (q : Int) (f : Int) (8 * (n : Int)) X h1 h2 h3 (by omega) (by omega) (by omega) (by omega)
    rw [hT8, show (f : Int).toNat = f by omega, show (q : Int).toNat = q by omega, ← hL] at h9
    exact h9⟩
  have HF : Kp (∀ (X : World) (A' : Option Addr) (c' : Nat) (bj : List UInt8) (i : Nat) (r : List Nat), 0 < X.heap.size → TabD X → Bs X X.heap.size A' n c' bj → freeL bj f (8 * n) = i :: r → Calls Tryd.prog 17 #[.slice A' n c', .int .i64 (f : Int), .int .i64 (8 * (n : Int))] X fun e X' => e = .returned (.int .i64 (i : Int)) ∧ Below X.heap.size X X') := ⟨fun X A' c' bj i r h1 h2 h3 h4 => by
    have h9 := first_any A' n c' bj (f : Int) (8 * (n : Int)) X h1 h2 h3 (by omega) (by omega) (by omega)
    rw [hT8, show (f : Int).toNat = f by omega, h4] at h9
    exact h9⟩
  have HL : Kp _ := ⟨hL⟩
  have hsub : IntKind.i64.wrap (8 * (n : Int) - (f : Int)) = 8 * (n : Int) - (f : Int) := by rw [IntKind.wrap_i64]; omega
  clear hbig hL hmc
  have hcf : (8 * (n : Int) < (f : Int) ∧ L.length = 0 ∧ mc = 0) ∨ ((f : Int) ≤ 8 * (n : Int) ∧ (L.length : Int) = 8 * (n : Int) - (f : Int) - (mc : Int)) := by omega
  obtain ⟨M, hM⟩ : ∃ M, M = L.length := ⟨_, rfl⟩
  have HM : Kp _ := ⟨hM⟩
  rw [← hM] at hcf hL8 hff
  clear hM hff
  have HPw : Kp (L.Pairwise (· < ·)) := ⟨by rw [HL.out]; exact List.Pairwise.filter _ List.pairwise_lt_range⟩
  by_cases hqL : q ≤ M
  · have HS' : Kp (∀ (X : World), 0 < X.heap.size → TabD X → Bs X X.heap.size A n c b → Calls Tryd.prog 10 #[.slice A n c, .int .i64 (q : Int), .int .i64 (f : Int), .int .i64 (8 * (n : Int))] X fun e X' => ∃ A' m' c', e = .returned (.tuple #[.slice A' m' c', .int .i64 0]) ∧ Zs X' X'.heap.size .i64 A' m' c' (intsL (L.take q)) ∧ Below X.heap.size X X') := ⟨by
      have h := HS.out
      unfold resZ resL at h
      rw [← HM.out] at h
      simp only [if_pos hqL] at h
      exact h⟩
    have hqt : (L.take q).length = q := by rw [List.length_take, ← HM.out]; omega
    have hqd : decide ((q : Int) ≤ (M : Int)) = true := decide_eq_true (by omega)
    have hqn : decide (q ≤ M) = true := decide_eq_true hqL
    have HqL : Kp (q ≤ M) := ⟨hqL⟩
    clear HS
    rcases hcf with ⟨hx, hM0, hm0⟩ | ⟨hx, hfr⟩
    · subst hm0 hM0
      have hx0 : 8 * (n : Int) - (f : Int) < 0 := by omega
      have hqd0 : decide ((q : Int) ≤ 0) = true := decide_eq_true (by omega)
      have hqz : decide (q = 0) = true := decide_eq_true (by omega)
      go_enter Tryd.func5, Tryd.ntmps5
      go_wp2_with fail
      refine (HS'.out _ HP.out HT.out HB.out).mono ?_
      rintro e x1 ⟨A1, m1, c1, rfl, hrow, hb⟩
      replace HB : Kp _ := ⟨HB.out.next hb (Nat.le_refl _)⟩
      replace HT : Kp _ := ⟨HT.out.below hb HP.out⟩
      replace HP : Kp _ := ⟨Nat.lt_of_lt_of_le HP.out hb.size⟩
      replace HBel : Kp _ := ⟨HBel.out.trans (hb.mono HBel.out.size)⟩
      clear hb
      have HZ : Kp _ := ⟨hrow⟩
      have hm1 : m1 = q := by have := hrow.len; rw [intsL_length, hqt] at this; exact this.symm
      subst hm1
      clear hrow HS'
      go_wp2_with fail
      refine (HC.out _ HB.out).mono ?_
      rintro e x2 ⟨rfl, hb⟩
      replace HB : Kp _ := ⟨HB.out.next hb (Nat.le_refl _)⟩
      replace HZ : Kp _ := ⟨(HZ.out.below hb).more hb.size⟩
      replace HT : Kp _ := ⟨HT.out.below hb HP.out⟩
      replace HP : Kp _ := ⟨Nat.lt_of_lt_of_le HP.out hb.size⟩
      replace HBel : Kp _ := ⟨HBel.out.trans (hb.mono HBel.out.size)⟩
      clear hb
      clear hqt HC
      go_wp2
      go_loopg [11, 12] m1 (fun gk v11 v12 wr => ∃ (j : Nat) (Aj : Option Addr) (cj : Nat) (bj : List UInt8), j + gk = m1 ∧ v12 = .int .i64 (j : Int) ∧ v11 = .slice Aj n cj ∧ Kp (Bs wr wr.heap.size Aj n cj bj) ∧ Kp (freeL bj f (8 * n) = L.drop j) ∧ Kp (bj.length = n) ∧ Kp (Zs wr wr.heap.size .i64 A1 m1 c1 (intsL (L.take m1))) ∧ Kp (TabD wr) ∧ Kp (0 < wr.heap.size) ∧ Kp (Below w.heap.size w wr))
      case atStart => exact ⟨0, A, c, b, by omega, rfl, rfl, HB, ⟨by rw [List.drop_zero]; exact HL.out.symm⟩, HLn, HZ, HT, HP, HBel⟩
      case round =>
        clear HB HZ HT HP HBel HLn HL
        obtain ⟨j, Aj, cj, bj, hjq, rfl, rfl, HB, HFr, HLn, HZ, HT, HP, HBel⟩ := hrel
        cases gk with
        | zero =>
          have hend : ¬ ((j : Int) < (m1 : Int)) := by omega
          clear hjq
          go_wp2_with fail
          refine (known12_any _ HP.out HT.out).mono ?_
          rintro e x61 ⟨rfl, hb⟩
          replace HT : Kp _ := ⟨HT.out.below hb HP.out⟩
          replace HP : Kp _ := ⟨Nat.lt_of_lt_of_le HP.out hb.size⟩
          replace HBel : Kp _ := ⟨HBel.out.trans (hb.mono HBel.out.size)⟩
          clear hb
          go_wp2
          go_ret
          exact ⟨rfl, HBel.out⟩
        | succ g2 =>
          have hgo : (j : Int) < (m1 : Int) := by omega
          have hin : j < m1 := by omega
          exact absurd HqL.out (by omega)
    · have hx0 : 0 ≤ 8 * (n : Int) - (f : Int) := by omega
      have hfr' : 8 * (n : Int) - (f : Int) - (mc : Int) = (M : Int) := hfr.symm
      clear hfr
      go_enter Tryd.func5, Tryd.ntmps5
      go_wp2_with fail
      refine (HS'.out _ HP.out HT.out HB.out).mono ?_
      rintro e x1 ⟨A1, m1, c1, rfl, hrow, hb⟩
      replace HB : Kp _ := ⟨HB.out.next hb (Nat.le_refl _)⟩
      replace HT : Kp _ := ⟨HT.out.below hb HP.out⟩
      replace HP : Kp _ := ⟨Nat.lt_of_lt_of_le HP.out hb.size⟩
      replace HBel : Kp _ := ⟨HBel.out.trans (hb.mono HBel.out.size)⟩
      clear hb
      have HZ : Kp _ := ⟨hrow⟩
      have hm1 : m1 = q := by have := hrow.len; rw [intsL_length, hqt] at this; exact this.symm
      subst hm1
      clear hrow HS'
      go_wp2_with fail
      refine (HC.out _ HB.out).mono ?_
      rintro e x2 ⟨rfl, hb⟩
      replace HB : Kp _ := ⟨HB.out.next hb (Nat.le_refl _)⟩
      replace HZ : Kp _ := ⟨(HZ.out.below hb).more hb.size⟩
      replace HT : Kp _ := ⟨HT.out.below hb HP.out⟩
      replace HP : Kp _ := ⟨Nat.lt_of_lt_of_le HP.out hb.size⟩
      replace HBel : Kp _ := ⟨HBel.out.trans (hb.mono HBel.out.size)⟩
      clear hb
      clear hqt HC
      go_wp2
      go_loopg [11, 12] m1 (fun gk v11 v12 wr => ∃ (j : Nat) (Aj : Option Addr) (cj : Nat) (bj : List UInt8), j + gk = m1 ∧ v12 = .int .i64 (j : Int) ∧ v11 = .slice Aj n cj ∧ Kp (Bs wr wr.heap.size Aj n cj bj) ∧ Kp (freeL bj f (8 * n) = L.drop j) ∧ Kp (bj.length = n) ∧ Kp (Zs wr wr.heap.size .i64 A1 m1 c1 (intsL (L.take m1))) ∧ Kp (TabD wr) ∧ Kp (0 < wr.heap.size) ∧ Kp (Below w.heap.size w wr))
      case atStart => exact ⟨0, A, c, b, by omega, rfl, rfl, HB, ⟨by rw [List.drop_zero]; exact HL.out.symm⟩, HLn, HZ, HT, HP, HBel⟩
      case round =>
        clear HB HZ HT HP HBel HLn HL
        obtain ⟨j, Aj, cj, bj, hjq, rfl, rfl, HB, HFr, HLn, HZ, HT, HP, HBel⟩ := hrel
        cases gk with
        | zero =>
          have hend : ¬ ((j : Int) < (m1 : Int)) := by omega
          clear hjq
          go_wp2_with fail
          refine (known12_any _ HP.out HT.out).mono ?_
          rintro e x61 ⟨rfl, hb⟩
          replace HT : Kp _ := ⟨HT.out.below hb HP.out⟩
          replace HP : Kp _ := ⟨Nat.lt_of_lt_of_le HP.out hb.size⟩
          replace HBel : Kp _ := ⟨HBel.out.trans (hb.mono HBel.out.size)⟩
          clear hb
          go_wp2
          go_ret
          exact ⟨rfl, HBel.out⟩
        | succ g2 =>
          have hgo : (j : Int) < (m1 : Int) := by omega
          have hin : j < m1 := by omega
          have hjM : j < L.length := by have := HM.out; have := HqL.out; omega
          obtain ⟨x, hx⟩ : ∃ x, x = L[j] := ⟨_, rfl⟩
          have hdrop : L.drop j = x :: L.drop (j + 1) := by rw [hx]; exact List.drop_eq_getElem_cons hjM
          have hfr := HFr.out
          rw [hdrop] at hfr
          obtain ⟨s1, s2, s3, s4⟩ := sorted_first hfr
          have hnext := free_take hfr (by rw [HLn.out]; exact Nat.le_refl _)
          have hsz := HZ.out.at hin
          obtain ⟨b1, o1, hA1, hl1, hc1⟩ := hsz
          have hcx : (intsL (L.take m1))[j]'(by have := HZ.out.len; omega) = (x : Int) := by simp [intsL, hx]
          rw [hcx] at hc1
          have HFi : Kp _ := ⟨HF.out wr Aj cj bj x _ HP.out HT.out HB.out hfr⟩
          have HNx : Kp (freeL (setI bj (x : Int) true) f (8 * n) = L.drop (j + 1)) := ⟨by rw [setI_nat (by rw [HLn.out]; omega)]; exact hnext⟩
          have HG : Kp (gbI bj (x : Int) = false) := ⟨by rw [gbI_nat]; exact s3⟩
          have hx8 : x < 8 * n := s1
          have HLs : Kp ((setI bj (x : Int) true).length = n) := ⟨by rw [setI_length]; exact HLn.out⟩
          obtain ⟨bn, hbn⟩ : ∃ l, l = setI bj (x : Int) true := ⟨_, rfl⟩
          rw [← hbn] at HNx HLs
          have HBn : Kp (setI bj (x : Int) true = bn) := ⟨hbn.symm⟩
          clear hdrop hfr s1 s2 s3 s4 hnext hcx hbn
          have HC1 : Kp (wr.cell? ⟨b1, o1 + j, none⟩ = some (.int .i64 (x : Int))) := ⟨hc1⟩
          clear hc1
          by_cases hj0 : j = 0
          · subst hj0
            have HC0 : Kp (wr.cell? ⟨b1, o1, none⟩ = some (.int .i64 (x : Int))) := ⟨HC1.out⟩
            clear HC1 hx
            have hA1' : A1 = some ⟨b1, o1, none⟩ := hA1
            clear hA1
            subst hA1'
            go_wp2_with fail
            refine HFi.out.mono ?_
            rintro e x41 ⟨rfl, hb⟩
            have cc1 := (hb.cell (p := ⟨b1, o1, none⟩) hl1).trans HC0.out
            replace HB : Kp _ := ⟨HB.out.next hb (Nat.le_refl _)⟩
            replace HZ : Kp _ := ⟨(HZ.out.below hb).more hb.size⟩
            replace HT : Kp _ := ⟨HT.out.below hb HP.out⟩
            replace HP : Kp _ := ⟨Nat.lt_of_lt_of_le HP.out hb.size⟩
            replace HBel : Kp _ := ⟨HBel.out.trans (hb.mono HBel.out.size)⟩
            clear hb
            have hcall := get_any Aj n cj (x : Int) bj _ _ HB.out (by omega)
            rw [HG.out] at hcall
            have HCl : Kp _ := ⟨hcall⟩
            clear hcall
            go_wp2_with fail
            refine HCl.out.mono ?_
            rintro e x42 ⟨rfl, mD, rfl⟩
            have hb := below_drewN x41 x41.heap.size mD
            clear cc1
            replace HB : Kp _ := ⟨HB.out.next hb (Nat.le_refl _)⟩
            replace HZ : Kp _ := ⟨(HZ.out.below hb).more hb.size⟩
            replace HT : Kp _ := ⟨HT.out.below hb HP.out⟩
            replace HP : Kp _ := ⟨Nat.lt_of_lt_of_le HP.out hb.size⟩
            replace HBel : Kp _ := ⟨HBel.out.trans (hb.mono HBel.out.size)⟩
            clear hb
            clear HCl
            generalize x41.drewN mD = x42 at *
            have HCl : Kp _ := ⟨set_any Aj n cj (x : Int) true bj _ HB.out (by omega) (by omega)⟩
            go_wp2_with fail
            refine HCl.out.mono ?_
            rintro e x43 ⟨An, cn, rfl, hrow, hb⟩
            rw [HBn.out] at hrow
            have HBe : Kp _ := ⟨hrow⟩
            clear HCl hrow
            replace HZ : Kp _ := ⟨(HZ.out.below hb).more hb.size⟩
            replace HT : Kp _ := ⟨HT.out.below hb HP.out⟩
            replace HP : Kp _ := ⟨Nat.lt_of_lt_of_le HP.out hb.size⟩
            replace HBel : Kp _ := ⟨HBel.out.trans (hb.mono HBel.out.size)⟩
            clear hb
            clear HB
            go_wp2
            go_roundg g2
            case measure => omega
            case rel => exact ⟨0 + 1, An, cn, bn, by omega, by go_num, rfl, HBe, HNx, HLs, HZ, HT, HP, HBel⟩
          · obtain ⟨j1, rfl⟩ : ∃ j1, j = j1 + 1 := ⟨j - 1, by omega⟩
            have hj0I : (0 : Int) < ((j1 + 1 : Nat) : Int) := by omega
            have hin1 : j1 < m1 := by omega
            obtain ⟨y, hy⟩ : ∃ y, y = L[j1]'(by omega) := ⟨_, rfl⟩
            obtain ⟨b2, o2, hA2, hl2, hc2⟩ := HZ.out.at hin1
            have hcy : (intsL (L.take m1))[j1]'(by have := HZ.out.len; omega) = (y : Int) := by simp [intsL, hy]
            rw [hcy] at hc2
            have e12 : (⟨b1, o1, none⟩ : Addr) = ⟨b2, o2, none⟩ := Option.some.inj (hA1.symm.trans hA2)
            injection e12 with e1 e2
            subst e1 e2
            have HC2 : Kp (wr.cell? ⟨b1, o1 + j1, none⟩ = some (.int .i64 (y : Int))) := ⟨hc2⟩
            have hyx : y < x := by rw [hx, hy]; exact List.pairwise_iff_getElem.1 HPw.out _ _ _ _ (Nat.lt_succ_self _)
            have hyxI : ¬ ((x : Int) ≤ (y : Int)) := by omega
            have hidx : ((j1 + 1 : Nat) : Int) - 1 = (j1 : Int) := by omega
            clear hc2 hcy hA2 hl2 hy hx
            have hA1' : A1 = some ⟨b1, o1, none⟩ := hA1
            clear hA1
            subst hA1'
            go_wp2_with fail
            refine HFi.out.mono ?_
            rintro e x41 ⟨rfl, hb⟩
            have cc1 := (hb.cell (p := ⟨b1, o1 + (j1 + 1), none⟩) hl1).trans HC1.out
            have cc2 := (hb.cell (p := ⟨b1, o1 + j1, none⟩) hl1).trans HC2.out
            have hl2 := Nat.lt_of_lt_of_le hl1 hb.size
            replace HB : Kp _ := ⟨HB.out.next hb (Nat.le_refl _)⟩
            replace HZ : Kp _ := ⟨(HZ.out.below hb).more hb.size⟩
            replace HT : Kp _ := ⟨HT.out.below hb HP.out⟩
            replace HP : Kp _ := ⟨Nat.lt_of_lt_of_le HP.out hb.size⟩
            replace HBel : Kp _ := ⟨HBel.out.trans (hb.mono HBel.out.size)⟩
            clear hb
            have hcall := get_any Aj n cj (x : Int) bj _ _ HB.out (by omega)
            rw [HG.out] at hcall
            have HCl : Kp _ := ⟨hcall⟩
            clear hcall
            go_wp2_with fail
            refine HCl.out.mono ?_
            rintro e x42 ⟨rfl, mD, rfl⟩
            have hb := below_drewN x41 x41.heap.size mD
            replace cc2 := (hb.cell (p := ⟨b1, o1 + j1, none⟩) hl2).trans cc2
            clear cc1
            replace HB : Kp _ := ⟨HB.out.next hb (Nat.le_refl _)⟩
            replace HZ : Kp _ := ⟨(HZ.out.below hb).more hb.size⟩
            replace HT : Kp _ := ⟨HT.out.below hb HP.out⟩
            replace HP : Kp _ := ⟨Nat.lt_of_lt_of_le HP.out hb.size⟩
            replace HBel : Kp _ := ⟨HBel.out.trans (hb.mono HBel.out.size)⟩
            clear hb
            clear HCl
            generalize x41.drewN mD = x42 at *
            have HCl : Kp _ := ⟨set_any Aj n cj (x : Int) true bj _ HB.out (by omega) (by omega)⟩
            go_wp2_with fail
            refine HCl.out.mono ?_
            rintro e x43 ⟨An, cn, rfl, hrow, hb⟩
            rw [HBn.out] at hrow
            have HBe : Kp _ := ⟨hrow⟩
            clear HCl hrow
            replace HZ : Kp _ := ⟨(HZ.out.below hb).more hb.size⟩
            replace HT : Kp _ := ⟨HT.out.below hb HP.out⟩
            replace HP : Kp _ := ⟨Nat.lt_of_lt_of_le HP.out hb.size⟩
            replace HBel : Kp _ := ⟨HBel.out.trans (hb.mono HBel.out.size)⟩
            clear hb
            clear HB
            go_wp2
            go_roundg g2
            case measure => omega
            case rel => exact ⟨j1 + 1 + 1, An, cn, bn, by omega, by go_num, rfl, HBe, HNx, HLs, HZ, HT, HP, HBel⟩
  · have HS' : Kp (∀ (X : World), 0 < X.heap.size → TabD X → Bs X X.heap.size A n c b → Calls Tryd.prog 10 #[.slice A n c, .int .i64 (q : Int), .int .i64 (f : Int), .int .i64 (8 * (n : Int))] X fun e X' => ∃ A' m' c', e = .returned (.tuple #[.slice A' m' c', .int .i64 12]) ∧ Zs X' X'.heap.size .i64 A' m' c' (intsL []) ∧ Below X.heap.size X X') := ⟨by
      have h := HS.out
      unfold resZ resL at h
      rw [← HM.out] at h
      simp only [if_neg hqL] at h
      exact h⟩
    have hqd : decide ((q : Int) ≤ (M : Int)) = false := decide_eq_false (by omega)
    have hqn : decide (q ≤ M) = false := decide_eq_false hqL
    clear HS
    rcases hcf with ⟨hx, hM0, hm0⟩ | ⟨hx, hfr⟩
    · subst hm0 hM0
      have hx0 : 8 * (n : Int) - (f : Int) < 0 := by omega
      have hq0 : ¬ q = 0 := by omega
      have hqz : decide (q = 0) = false := decide_eq_false hq0
      have hqd0 : decide ((q : Int) ≤ 0) = false := decide_eq_false (by omega)
      go_enter Tryd.func5, Tryd.ntmps5
      go_wp2_with fail
      refine (HS'.out _ HP.out HT.out HB.out).mono ?_
      rintro e x1 ⟨A1, m1, c1, rfl, hrow, hb⟩
      replace HB : Kp _ := ⟨HB.out.next hb (Nat.le_refl _)⟩
      replace HT : Kp _ := ⟨HT.out.below hb HP.out⟩
      replace HP : Kp _ := ⟨Nat.lt_of_lt_of_le HP.out hb.size⟩
      replace HBel : Kp _ := ⟨HBel.out.trans (hb.mono HBel.out.size)⟩
      clear hb
      have hm1 : m1 = 0 := by have := hrow.len; simp [intsL] at this; omega
      subst hm1
      clear hrow HS'
      go_wp2_with fail
      refine (HC.out _ HB.out).mono ?_
      rintro e x2 ⟨rfl, hb⟩
      replace HB : Kp _ := ⟨HB.out.next hb (Nat.le_refl _)⟩
      replace HT : Kp _ := ⟨HT.out.below hb HP.out⟩
      replace HP : Kp _ := ⟨Nat.lt_of_lt_of_le HP.out hb.size⟩
      replace HBel : Kp _ := ⟨HBel.out.trans (hb.mono HBel.out.size)⟩
      clear hb
      go_wp2_with fail
      refine (known12_any _ HP.out HT.out).mono ?_
      rintro e x3 ⟨rfl, hb⟩
      replace HB : Kp _ := ⟨HB.out.next hb (Nat.le_refl _)⟩
      replace HT : Kp _ := ⟨HT.out.below hb HP.out⟩
      replace HP : Kp _ := ⟨Nat.lt_of_lt_of_le HP.out hb.size⟩
      replace HBel : Kp _ := ⟨HBel.out.trans (hb.mono HBel.out.size)⟩
      clear hb
      go_wp2
      go_ret
      exact ⟨rfl, HBel.out⟩
    · have hx0 : 0 ≤ 8 * (n : Int) - (f : Int) := by omega
      have hfr' : 8 * (n : Int) - (f : Int) - (mc : Int) = (M : Int) := hfr.symm
      clear hfr
      go_enter Tryd.func5, Tryd.ntmps5
      go_wp2_with fail
      refine (HS'.out _ HP.out HT.out HB.out).mono ?_
      rintro e x1 ⟨A1, m1, c1, rfl, hrow, hb⟩
      replace HB : Kp _ := ⟨HB.out.next hb (Nat.le_refl _)⟩
      replace HT : Kp _ := ⟨HT.out.below hb HP.out⟩
      replace HP : Kp _ := ⟨Nat.lt_of_lt_of_le HP.out hb.size⟩
      replace HBel : Kp _ := ⟨HBel.out.trans (hb.mono HBel.out.size)⟩
      clear hb
      have hm1 : m1 = 0 := by have := hrow.len; simp [intsL] at this; omega
      subst hm1
      clear hrow HS'
      go_wp2_with fail
      refine (HC.out _ HB.out).mono ?_
      rintro e x2 ⟨rfl, hb⟩
      replace HB : Kp _ := ⟨HB.out.next hb (Nat.le_refl _)⟩
      replace HT : Kp _ := ⟨HT.out.below hb HP.out⟩
      replace HP : Kp _ := ⟨Nat.lt_of_lt_of_le HP.out hb.size⟩
      replace HBel : Kp _ := ⟨HBel.out.trans (hb.mono HBel.out.size)⟩
      clear hb
      go_wp2_with fail
      refine (known12_any _ HP.out HT.out).mono ?_
      rintro e x3 ⟨rfl, hb⟩
      replace HB : Kp _ := ⟨HB.out.next hb (Nat.le_refl _)⟩
      replace HT : Kp _ := ⟨HT.out.below hb HP.out⟩
      replace HP : Kp _ := ⟨Nat.lt_of_lt_of_le HP.out hb.size⟩
      replace HBel : Kp _ := ⟨HBel.out.trans (hb.mono HBel.out.size)⟩
      clear hb
      go_wp2
      go_ret
      exact ⟨rfl, HBel.out⟩
end
end Go.Proofs.YtgkeckfiacdpkaaDoor
