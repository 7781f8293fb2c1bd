/- The contract of the document's Put. -/
import Derived.Test.YtaedlaeflliibaaEnU
import Derived.BigQuiet
namespace Go.Proofs.Ytaedlaeflliibaa
open Go.RowKit Go.Deep

/-- what is laid after j of them -/
def laidE (l : List En) (x : En) (j : Nat) : List En := if aboveE l x.1 < j then (l.take (aboveE l x.1) ++ [x]) ++ (l.take j).drop (aboveE l x.1) else l.take j
theorem laidE_next {l : List En} {x : En} {j : Nat} (hj : j < l.length) (h : j ≠ aboveE l x.1) : laidE l x (j + 1) = laidE l x j ++ [l[j]] := by
  unfold laidE
  by_cases h1 : aboveE l x.1 < j
  · rw [if_pos h1, if_pos (by omega), List.take_succ_eq_append_getElem hj, List.drop_append_of_le_length (by simp; omega), List.append_assoc]
    simp
  · rw [if_neg h1, if_neg (by omega), List.take_succ_eq_append_getElem hj]
theorem laidE_at {l : List En} {x : En} {j : Nat} (hj : j < l.length) (h : j = aboveE l x.1) : laidE l x (j + 1) = (laidE l x j ++ [x]) ++ [l[j]] := by
  unfold laidE
  rw [← h, if_pos (by omega), if_neg (by omega), List.take_succ_eq_append_getElem hj, List.drop_append_of_le_length (by simp; omega), List.drop_of_length_le (by simp; omega), List.nil_append]
theorem laidE_end {l : List En} {x : En} (h : aboveE l x.1 < l.length) : laidE l x l.length = putE l x := by
  unfold laidE putE
  rw [if_pos h, List.take_of_length_le (Nat.le_refl _), List.append_assoc]
theorem laidE_end' {l : List En} {x : En} (h : ¬ aboveE l x.1 < l.length) : laidE l x l.length ++ [x] = putE l x := by
  have h1 := aboveE_le l x.1
  have e : aboveE l x.1 = l.length := by omega
  unfold laidE putE
  rw [if_neg h, e, List.take_of_length_le (Nat.le_refl _), List.drop_of_length_le (Nat.le_refl _), List.append_nil]
theorem laidE_len (l : List En) (x : En) (j : Nat) : (laidE l x j).length ≤ j + if aboveE l x.1 < j then 1 else 0 := by
  unfold laidE
  split
  · simp; omega
  · simp; omega
theorem above_no {l : List En} {x : En} {j : Nat} (h : j < aboveE l x.1) (hj : j < l.length) : ¬ x.1 < l[j].1 := by
  have := List.not_of_lt_findIdx h
  simpa using this
theorem above_yes {l : List En} {x : En} {j : Nat} (h : j = aboveE l x.1) (hj : j < l.length) : x.1 < l[j].1 := by
  have := List.findIdx_getElem (p := fun y : En => decide (x.1 < y.1)) (xs := l) (w := by subst h; exact hj)
  subst h
  exact of_decide_eq_true this
set_option maxRecDepth 100000 in
set_option maxHeartbeats 4000000 in
theorem refput_any_en (A : Option Addr) (n c : Nat) (l : List En) (nm : List UInt8) (z : Int) (w : World) (ha : Ens w w.heap.size A n c l) (hn : n ≤ 5864062014804) (hx : EnOk (nm, z)) :
    Calls Try.prog 22 #[.slice A n c, .agg (enOne (nm, z)).toArray] w fun e w' => ∃ A' n' c', e = .returned (.tuple #[.slice A' n' c', .int .i64 (putC l (nm, z))]) ∧ Ens w' w'.heap.size A' n' c' (putR l (nm, z)) ∧ Below w.heap.size w w' := by
  have HI : Kp _ := ⟨ha⟩
  have HL : Kp _ := ⟨ha.len⟩
  have HX : Kp _ := ⟨hx⟩
  have hle := ha.le
  have HN : Kp (∀ W, Calls Try.prog 26 #[.string ⟨nm.toArray⟩] W fun e w' => e = .returned (.bool (okNm nm)) ∧ w' = W) := ⟨fun W => refnamed_any nm W hx.len⟩
  have HC : Kp (∀ W, Below w.heap.size w W → Calls Try.prog 38 #[.slice A n c, .string ⟨nm.toArray⟩] W fun e w' => e = .returned (.int .i64 (if hasE l nm then ((idxE l nm : Nat) : Int) else -1)) ∧ w' = W) := ⟨fun W hb => at_any A n c l nm W w.heap.size (ha.below hb)⟩
  clear ha hx
  cases hq1 : okNm nm with
  | false =>
    rw [hq1] at HN
    have HP : Kp (putC l (nm, z) = 11 ∧ putR l (nm, z) = []) := ⟨by unfold putC putR; simp only [hq1]; exact ⟨rfl, rfl⟩⟩
    rw [HP.out.1, HP.out.2]
    go_enter Try.func22, Try.ntmps22
    go_wp2_with (with_reducible refine wpList_box (o := ⟨some 3, _, _, _, _, _⟩) (cs := enOne (nm, z)) rfl (.tmp 1) rfl rfl ?_)
    intro w1 hk1 hb1 hs1
    have HB1 : Kp _ := ⟨hb1⟩
    have c0 : w1.cell? ⟨w.heap.size, 0, none⟩ = some (.string ⟨nm.toArray⟩) := hk1.cell? 0
    clear hk1 hb1 hs1
    go_wp2_with (go_at_call 26; refine (HN.out _).mono ?_; rintro e w2 ⟨rfl, rfl⟩)
    go_ret2
    exact ⟨none, 0, 0, rfl, Ens.zero _ _, HB1.out⟩
  | true =>
    rw [hq1] at HN
    cases hq : hasE l nm with
    | true =>
      have HP : Kp (putC l (nm, z) = 13 ∧ putR l (nm, z) = []) := ⟨by unfold putC putR; simp only [hq1, hq]; exact ⟨rfl, rfl⟩⟩
      rw [HP.out.1, HP.out.2]
      have HC2 : Kp (∀ W, Below w.heap.size w W → Calls Try.prog 38 #[.slice A n c, .string ⟨nm.toArray⟩] W fun e w' => e = .returned (.int .i64 ((idxE l nm : Nat) : Int)) ∧ w' = W) := ⟨fun W hb => by simpa [hq] using HC.out W hb⟩
      clear HC
      generalize idxE l nm = k at *
      go_enter Try.func22, Try.ntmps22
      go_wp2_with (with_reducible refine wpList_box (o := ⟨some 3, _, _, _, _, _⟩) (cs := enOne (nm, z)) rfl (.tmp 1) rfl rfl ?_)
      intro w1 hk1 hb1 hs1
      have HB1 : Kp _ := ⟨hb1⟩
      have c0 : w1.cell? ⟨w.heap.size, 0, none⟩ = some (.string ⟨nm.toArray⟩) := hk1.cell? 0
      clear hk1 hb1 hs1
      go_wp2_with (first | (go_at_call 26; refine (HN.out _).mono ?_; rintro e w2 ⟨rfl, rfl⟩) | (go_at_call 38; refine (HC2.out _ HB1.out).mono ?_; rintro e w3 ⟨rfl, rfl⟩))
      go_ret2
      exact ⟨none, 0, 0, rfl, Ens.zero _ _, HB1.out⟩
    | false =>
      have HP : Kp (putC l (nm, z) = 0 ∧ putR l (nm, z) = putE l (nm, z)) := ⟨by unfold putC putR; simp only [hq1, hq]; exact ⟨rfl, rfl⟩⟩
      rw [HP.out.1, HP.out.2]
      have HC2 : Kp (∀ W, Below w.heap.size w W → Calls Try.prog 38 #[.slice A n c, .string ⟨nm.toArray⟩] W fun e w' => e = .returned (.int .i64 (-1)) ∧ w' = W) := ⟨fun W hb => by simpa [hq] using HC.out W hb⟩
      have HOk : Kp (∀ x ∈ putE l (nm, z), EnOk x) := ⟨fun x hx => by
        unfold putE at hx
        rcases List.mem_append.1 hx with h | h
        · exact HI.out.ok x (List.mem_of_mem_take h)
        · rcases List.mem_append.1 h with h | h
          · rw [List.mem_singleton.1 h]; exact HX.out
          · exact HI.out.ok x (List.mem_of_mem_drop h)⟩
      clear HC HP
      go_enter Try.func22, Try.ntmps22
      go_wp2_with (with_reducible refine wpList_box (o := ⟨some 3, _, _, _, _, _⟩) (cs := enOne (nm, z)) rfl (.tmp 1) rfl rfl ?_)
      intro w1 hk1 hb1 hs1
      have HB1 : Kp _ := ⟨hb1⟩
      have HK1 : Kp _ := ⟨hk1⟩
      have hg1 : w.heap.size < w1.heap.size := hk1.lt
      have c0 : w1.cell? ⟨w.heap.size, 0, none⟩ = some (.string ⟨nm.toArray⟩) := hk1.cell? 0
      clear hk1 hb1 hs1
      go_wp2_with (first | (go_at_call 26; refine (HN.out _).mono ?_; rintro e w2 ⟨rfl, rfl⟩) | (go_at_call 38; refine (HC2.out _ HB1.out).mono ?_; rintro e w3 ⟨rfl, rfl⟩))
      have HPe : Kp (aboveE l nm < n → laidE l (nm, z) n = putE l (nm, z)) := ⟨fun h => by
        have := laidE_end (l := l) (x := (nm, z)) (by rw [HL.out]; exact h)
        rwa [HL.out] at this⟩
      have HPe2 : Kp (¬ aboveE l nm < n → laidE l (nm, z) n ++ [(nm, z)] = putE l (nm, z)) := ⟨fun h => by
        have := laidE_end' (l := l) (x := (nm, z)) (by rw [HL.out]; exact h)
        rwa [HL.out] at this⟩
      have HNx : Kp (∀ j (hj : j < l.length), j ≠ aboveE l nm → laidE l (nm, z) (j + 1) = laidE l (nm, z) j ++ [l[j]]) := ⟨fun j hj h => laidE_next hj h⟩
      have HAt : Kp (∀ j (hj : j < l.length), j = aboveE l nm → laidE l (nm, z) (j + 1) = (laidE l (nm, z) j ++ [(nm, z)]) ++ [l[j]]) := ⟨fun j hj h => laidE_at hj h⟩
      have HNo : Kp (∀ j (hj : j < l.length), j < aboveE l nm → ¬ nm < l[j].1) := ⟨fun j hj h => above_no (x := (nm, z)) h hj⟩
      have HYe : Kp (∀ j (hj : j < l.length), j = aboveE l nm → nm < l[j].1) := ⟨fun j hj h => above_yes (x := (nm, z)) h hj⟩
      have HLe : Kp (∀ j, (laidE l (nm, z) j).length ≤ j + if aboveE l nm < j then 1 else 0) := ⟨fun j => laidE_len l (nm, z) j⟩
      have H0 : Kp (laidE l (nm, z) 0 = []) := ⟨by unfold laidE; simp⟩
      have HIw : Kp _ := ⟨HI.out.below HB1.out⟩
      generalize hlf : laidE l (nm, z) = F at *
      generalize aboveE l nm = k at *
      clear hlf hq
      go_loopg [6, 7, 8] n (fun gk v s7 s8 wr => ∃ j : Nat, j + gk = n ∧ s8 = .int .i64 j ∧ s7 = .bool (decide (k < j)) ∧ Kp (wr.ownsRow w3.heap.size 39 2 v (F j).length (enCells (F j))) ∧ Kp (Below w3.heap.size w3 wr))
      case atStart => exact ⟨0, by omega, rfl, by simp, ⟨by rw [H0.out]; exact own2E_nil _ _ _⟩, ⟨Below.refl _ _⟩⟩
      case round =>
        obtain ⟨j, hjg, rfl, rfl, HO, HW⟩ := hrel
        cases gk with
        | zero =>
          have hend : ¬ ((j : Int) < (n : Int)) := by omega
          obtain rfl : j = n := by omega
          by_cases hk : k < j
          · have hkd : decide (k < j) = true := decide_eq_true hk
            rw [HPe.out hk] at HO
            obtain ⟨A9, c9, rfl, h9⟩ := Ens.of_own HO.out HOk.out
            have H9 : Kp _ := ⟨h9⟩
            have HBn : Kp (Below w.heap.size w wr) := ⟨HB1.out.trans (HW.out.mono HB1.out.size)⟩
            clear h9 HO
            go_wp2
            go_ret2
            exact ⟨_, _, _, rfl, H9.out, HBn.out⟩
          · have hkd : decide (k < j) = false := decide_eq_false hk
            have HEnd : Kp _ := ⟨HPe2.out hk⟩
            have hlen := HLe.out j
            rw [if_neg hk] at hlen
            have HKr : Kp _ := ⟨HK1.out.below HW.out hg1⟩
            generalize F j = R at *
            go_wp2_with (first
              | (with_reducible refine wpList_loadAll (o := ⟨some 50, _, _, _, _, _⟩) rwEn rfl (.tmp 3) rfl rfl HKr.out rfl ?_)
              | (refine wpList_buildEn rfl _ rfl (nm, z) rfl ?_
                 have HW4 : Kp (Below w3.heap.size w3 (wr.alloc (.cells (enOne (nm, z)).toArray 39))) := ⟨HW.out.alloc HW.out.size _⟩
                 have HO4 : Kp _ := ⟨own2_below HO.out ((Below.refl _ _).alloc (Nat.le_refl _) (.cells (enOne (nm, z)).toArray 39))⟩
                 have HNw4 : Kp _ := ⟨one_news wr 39 (nm, z)⟩
                 clear HO
                 generalize wr.alloc (.cells (enOne (nm, z)).toArray 39) = w4 at *)
              | (at_builtin; refine wpList_appE rfl _ _ rfl w3.heap.size _ R.length R rfl HO4.out (some ⟨wr.heap.size, 0, none⟩) 1 1 [(nm, z)] rfl rfl (fun h => by cases h) HNw4.out (by omega) HW4.out.size ?_))
            intro v' w5 hown' hb' _
            have HO5 : Kp (w5.ownsRow w3.heap.size 39 2 v' (R.length + 1) (enCells (putE l (nm, z)))) := ⟨by rw [← HEnd.out]; exact hown'⟩
            obtain ⟨A9, c9, rfl, h9⟩ := Ens.of_own HO5.out HOk.out
            have H9 : Kp _ := ⟨h9⟩
            have HBn : Kp (Below w.heap.size w w5) := ⟨HB1.out.trans ((HW4.out.trans hb').mono HB1.out.size)⟩
            clear h9 hown' hb' HO5
            go_wp2
            go_ret2
            exact ⟨_, _, _, rfl, H9.out, HBn.out⟩
        | succ g2 =>
          have hlt : j < n := by omega
          have hgo : (j : Int) < (n : Int) := by omega
          have hjl : j < l.length := by rw [HL.out]; exact hlt
          have HKr : Kp _ := ⟨HK1.out.below HW.out hg1⟩
          have cx : wr.cell? ⟨w.heap.size, 0, none⟩ = some (.string ⟨nm.toArray⟩) := HKr.out.cell? 0
          obtain ⟨b1, o1, rfl, hb1, c0', c1'⟩ := (HI.out.below (HB1.out.trans (HW.out.mono HB1.out.size))).at hlt
          have HNxj : Kp _ := ⟨HNx.out j hjl⟩
          have HAtj : Kp _ := ⟨HAt.out j hjl⟩
          have HNoj : Kp _ := ⟨HNo.out j hjl⟩
          have HYej : Kp _ := ⟨HYe.out j hjl⟩
          have hlen := HLe.out j
          obtain ⟨⟨xn, zz⟩, hx⟩ : ∃ x, l[j] = x := ⟨_, rfl⟩
          rw [hx] at c0' c1' HNxj HAtj HNoj HYej
          simp only at c0' c1' HNoj HYej
          clear hx
          have hls := leq_str xn nm
          have HC0 : Kp (∀ W, Below w3.heap.size w3 W → W.cell? ⟨b1, o1 + j * 2, none⟩ = some (.string ⟨xn.toArray⟩) ∧ W.cell? ⟨b1, o1 + j * 2 + 1, none⟩ = some (.int .i64 zz)) := ⟨fun W hW => by
            have hbw : b1 < w3.heap.size := Nat.lt_of_lt_of_le hb1 HB1.out.size
            exact ⟨(hW.cell (p := ⟨b1, _, none⟩) hbw).trans ((HW.out.cell (p := ⟨b1, _, none⟩) hbw).symm.trans c0'), (hW.cell (p := ⟨b1, _, none⟩) hbw).trans ((HW.out.cell (p := ⟨b1, _, none⟩) hbw).symm.trans c1')⟩⟩
          by_cases hk : k = j
          · subst hk
            have hkd : decide (k < k) = false := decide_eq_false (by omega)
            have hkd2 : decide (k < k + 1) = true := decide_eq_true (by omega)
            have hlx := HYej.out rfl
            rw [decide_eq_true hlx] at hls
            have HFn : Kp _ := ⟨HAtj.out rfl⟩
            rw [if_neg (by omega)] at hlen
            rw [hkd]
            generalize F k = R at *
            go_wp2_with fail
            go_quiet (fail)
            have HW' : Kp (Below w3.heap.size w3 (wr.drewN nq)) := ⟨below_drewN HW.out _⟩
            have HOn : Kp ((wr.drewN nq).ownsRow w3.heap.size 39 2 u6 R.length (enCells R)) := ⟨own2_below HO.out (below_drewN (Below.refl _ _) _)⟩
            have HKn : Kp (Blk (wr.drewN nq) w.heap.size 39 (enOne (nm, z))) := ⟨HKr.out.drewN _⟩
            clear HO HW HKr cx c0' c1'
            obtain ⟨wp, hwp⟩ : ∃ wp, wp = wr.drewN nq := ⟨_, rfl⟩
            rw [← hwp] at HW' HOn HKn ⊢
            clear hwp
            go_wp2_with (first
              | (with_reducible refine wpList_loadAll (o := ⟨some 37, _, _, _, _, _⟩) rwEn rfl (.tmp 3) rfl rfl HKn.out rfl ?_)
              | (refine wpList_buildEn rfl _ rfl (nm, z) rfl ?_
                 have HW4 : Kp (Below w3.heap.size w3 (wp.alloc (.cells (enOne (nm, z)).toArray 39))) := ⟨HW'.out.alloc HW'.out.size _⟩
                 have HO4 : Kp _ := ⟨own2_below HOn.out ((Below.refl _ _).alloc (Nat.le_refl _) (.cells (enOne (nm, z)).toArray 39))⟩
                 have HNw4 : Kp _ := ⟨one_news wp 39 (nm, z)⟩
                 clear HOn
                 generalize wp.alloc (.cells (enOne (nm, z)).toArray 39) = w4 at *)
              | (at_builtin; refine wpList_appE rfl _ _ rfl w3.heap.size _ (R).length (R) rfl HO4.out (some ⟨wp.heap.size, 0, none⟩) 1 1 [(nm, z)] rfl rfl (fun h => by cases h) HNw4.out (by omega) HW4.out.size ?_))
            intro v5 w5 hown5 hb5 _
            have HOq : Kp (w5.ownsRow w3.heap.size 39 2 v5 (R ++ [(nm, z)]).length (enCells (R ++ [(nm, z)]))) := ⟨by rw [List.length_append]; exact hown5⟩
            have HWq : Kp (Below w3.heap.size w3 w5) := ⟨HW4.out.trans hb5⟩
            clear hown5 hb5
            obtain ⟨cq0, cq1⟩ := HC0.out w5 HWq.out
            go_wp2_with (first
              | (refine wpList_buildEn rfl _ rfl (xn, zz) rfl ?_
                 have HW7 : Kp (Below w3.heap.size w3 (w5.alloc (.cells (enOne (xn, zz)).toArray 39))) := ⟨HWq.out.alloc HWq.out.size _⟩
                 have HO7 : Kp _ := ⟨own2_below HOq.out ((Below.refl _ _).alloc (Nat.le_refl _) (.cells (enOne (xn, zz)).toArray 39))⟩
                 have HNw7 : Kp _ := ⟨one_news w5 39 (xn, zz)⟩
                 clear HOq
                 generalize w5.alloc (.cells (enOne (xn, zz)).toArray 39) = w7 at *)
              | (at_builtin; refine wpList_appE rfl _ _ rfl w3.heap.size _ (R ++ [(nm, z)]).length (R ++ [(nm, z)]) rfl HO7.out (some ⟨w5.heap.size, 0, none⟩) 1 1 [(xn, zz)] rfl rfl (fun h => by cases h) HNw7.out (by first | omega | (simp only [List.length_append, List.length_singleton]; omega)) HW7.out.size ?_))
            intro v' w8 hown8 hb8 _
            have HO8 : Kp (w8.ownsRow w3.heap.size 39 2 v' (F (k + 1)).length (enCells (F (k + 1)))) := ⟨by rw [HFn.out]; simpa using hown8⟩
            have HW8 : Kp (Below w3.heap.size w3 w8) := ⟨HW7.out.trans hb8⟩
            clear hown8 hb8
            go_wp2
            go_roundg g2
            case measure => omega
            case rel => exact ⟨k + 1, by omega, by go_num, by rw [hkd2], HO8, HW8⟩
          · by_cases hkj : k < j
            · have hkd : decide (k < j) = true := decide_eq_true hkj
              have hkd2 : decide (k < j + 1) = true := decide_eq_true (by omega)
              have HFn : Kp _ := ⟨HNxj.out (fun e => hk e.symm)⟩
              rw [if_pos hkj] at hlen
              rw [hkd]
              generalize F j = R at *
              go_wp2_with fail
              go_quiet (fail)
              have HW' : Kp (Below w3.heap.size w3 (wr.drewN nq)) := ⟨below_drewN HW.out _⟩
              have HOn : Kp ((wr.drewN nq).ownsRow w3.heap.size 39 2 u6 R.length (enCells R)) := ⟨own2_below HO.out (below_drewN (Below.refl _ _) _)⟩
              clear HO HW HKr cx c0' c1'
              obtain ⟨wp, hwp⟩ : ∃ wp, wp = wr.drewN nq := ⟨_, rfl⟩
              rw [← hwp] at HW' HOn ⊢
              clear hwp
              obtain ⟨cq0, cq1⟩ := HC0.out wp HW'.out
              go_wp2_with (first
                | (refine wpList_buildEn rfl _ rfl (xn, zz) rfl ?_
                   have HW7 : Kp (Below w3.heap.size w3 (wp.alloc (.cells (enOne (xn, zz)).toArray 39))) := ⟨HW'.out.alloc HW'.out.size _⟩
                   have HO7 : Kp _ := ⟨own2_below HOn.out ((Below.refl _ _).alloc (Nat.le_refl _) (.cells (enOne (xn, zz)).toArray 39))⟩
                   have HNw7 : Kp _ := ⟨one_news wp 39 (xn, zz)⟩
                   clear HOn
                   generalize wp.alloc (.cells (enOne (xn, zz)).toArray 39) = w7 at *)
                | (at_builtin; refine wpList_appE rfl _ _ rfl w3.heap.size _ (R).length (R) rfl HO7.out (some ⟨wp.heap.size, 0, none⟩) 1 1 [(xn, zz)] rfl rfl (fun h => by cases h) HNw7.out (by first | omega | (simp only [List.length_append, List.length_singleton]; omega)) HW7.out.size ?_))
              intro v' w8 hown8 hb8 _
              have HO8 : Kp (w8.ownsRow w3.heap.size 39 2 v' (F (j + 1)).length (enCells (F (j + 1)))) := ⟨by rw [HFn.out, List.length_append]; exact hown8⟩
              have HW8 : Kp (Below w3.heap.size w3 w8) := ⟨HW7.out.trans hb8⟩
              clear hown8 hb8
              go_wp2
              go_roundg g2
              case measure => omega
              case rel => exact ⟨j + 1, by omega, by go_num, by rw [hkd2], HO8, HW8⟩
            · have hkd : decide (k < j) = false := decide_eq_false hkj
              have hkd2 : decide (k < j + 1) = false := decide_eq_false (by omega)
              have hlx := HNoj.out (by omega)
              rw [decide_eq_false hlx] at hls
              have HFn : Kp _ := ⟨HNxj.out (fun e => hk e.symm)⟩
              rw [if_neg hkj] at hlen
              rw [hkd]
              generalize F j = R at *
              go_wp2_with fail
              go_quiet (fail)
              have HW' : Kp (Below w3.heap.size w3 (wr.drewN nq)) := ⟨below_drewN HW.out _⟩
              have HOn : Kp ((wr.drewN nq).ownsRow w3.heap.size 39 2 u6 R.length (enCells R)) := ⟨own2_below HO.out (below_drewN (Below.refl _ _) _)⟩
              clear HO HW HKr cx c0' c1'
              obtain ⟨wp, hwp⟩ : ∃ wp, wp = wr.drewN nq := ⟨_, rfl⟩
              rw [← hwp] at HW' HOn ⊢
              clear hwp
              obtain ⟨cq0, cq1⟩ := HC0.out wp HW'.out
              go_wp2_with (first
                | (refine wpList_buildEn rfl _ rfl (xn, zz) rfl ?_
                   have HW7 : Kp (Below w3.heap.size w3 (wp.alloc (.cells (enOne (xn, zz)).toArray 39))) := ⟨HW'.out.alloc HW'.out.size _⟩
                   have HO7 : Kp _ := ⟨own2_below HOn.out ((Below.refl _ _).alloc (Nat.le_refl _) (.cells (enOne (xn, zz)).toArray 39))⟩
                   have HNw7 : Kp _ := ⟨one_news wp 39 (xn, zz)⟩
                   clear HOn
                   generalize wp.alloc (.cells (enOne (xn, zz)).toArray 39) = w7 at *)
                | (at_builtin; refine wpList_appE rfl _ _ rfl w3.heap.size _ (R).length (R) rfl HO7.out (some ⟨wp.heap.size, 0, none⟩) 1 1 [(xn, zz)] rfl rfl (fun h => by cases h) HNw7.out (by first | omega | (simp only [List.length_append, List.length_singleton]; omega)) HW7.out.size ?_))
              intro v' w8 hown8 hb8 _
              have HO8 : Kp (w8.ownsRow w3.heap.size 39 2 v' (F (j + 1)).length (enCells (F (j + 1)))) := ⟨by rw [HFn.out, List.length_append]; exact hown8⟩
              have HW8 : Kp (Below w3.heap.size w3 w8) := ⟨HW7.out.trans hb8⟩
              clear hown8 hb8
              go_wp2
              go_roundg g2
              case measure => omega
              case rel => exact ⟨j + 1, by omega, by go_num, by rw [hkd2], HO8, HW8⟩
end Go.Proofs.Ytaedlaeflliibaa
