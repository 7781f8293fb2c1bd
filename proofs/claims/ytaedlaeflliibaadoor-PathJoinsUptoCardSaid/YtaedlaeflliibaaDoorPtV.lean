/- The contracts of the document's Same, of Print, the program's and the document's. -/
import Derived.Test.YtaedlaeflliibaaDoorPtU
namespace Go.Proofs.YtaedlaeflliibaaDoor
open Go.RowKit Go.Shelf

theorem bs_app (a b : Nm) : (ByteArray.mk a.toArray) ++ ⟨b.toArray⟩ = ⟨(a ++ b).toArray⟩ := by
  apply ByteArray.ext
  simp [ByteArray.data_append]
/-- two paths, boxed -/
theorem box_two (w : World) (cs ds : List Value) : Blk ((w.alloc (.cells cs.toArray 25)).alloc (.cells ds.toArray 25)) w.heap.size 25 cs ∧ Blk ((w.alloc (.cells cs.toArray 25)).alloc (.cells ds.toArray 25)) (w.heap.size + 1) 25 ds ∧ Below w.heap.size w ((w.alloc (.cells cs.toArray 25)).alloc (.cells ds.toArray 25)) := by
  refine ⟨(Blk.new w _ cs).alloc _, ?_, ((Below.refl _ w).alloc (Nat.le_refl _) _).alloc (by simp) _⟩
  have h := Blk.new (w.alloc (.cells cs.toArray 25)) 25 ds
  rw [World.size_alloc] at h
  exact h
section
set_option maxRecDepth 100000
set_option maxHeartbeats 2000000
theorem refsame_any (b b2 : Bool) (A B : Option Addr) (n c m d : Nat) (xs ys : List Nm) (w : World) (L M : Nat) (ha : Ss w L A n c xs) (hb : Ss w M B m d ys) (hL : L ≤ w.heap.size) (hM : M ≤ w.heap.size) :
    Calls Tryd.prog 13 #[.agg #[.bool b, .slice A n c], .agg #[.bool b2, .slice B m d]] w fun e w' => e = .returned (.bool ((b == b2) && (xs == ys))) ∧ Below w.heap.size w w' := by
  have hx2 := box_two w [.bool b, .slice A n c] [.bool b2, .slice B m d]
  have HA : Kp _ := ⟨ha.below (hx2.2.2.mono hL)⟩
  have HB : Kp _ := ⟨hb.below (hx2.2.2.mono hM)⟩
  have HX : Kp (xs.length = n) := ⟨ha.len⟩
  have HY : Kp (ys.length = m) := ⟨hb.len⟩
  have hn63 := ha.le
  have hm63 := hb.le
  have H2 : Kp _ := ⟨hx2⟩
  clear ha hb hx2 hL hM
  by_cases hbb : b = b2
  · subst hbb
    by_cases hnm : n = m
    · subst hnm
      go_enter Tryd.func13, Tryd.ntmps13
      go_wp2
      have c1 := H2.out.1.cell? 1
      have c2 := H2.out.2.1.cell? 1
      have HBw : Kp _ := ⟨H2.out.2.2⟩
      obtain ⟨w1, hw1⟩ : ∃ w1, w1 = (w.alloc (.cells #[.bool b, .slice A n c] 25)).alloc (.cells #[.bool b, .slice B n d] 25) := ⟨_, rfl⟩
      rw [← hw1] at HA HB HBw c1 c2 ⊢
      simp only [List.getElem?_cons_succ, List.getElem?_cons_zero] at c1 c2
      obtain ⟨G, hG⟩ : ∃ G, G = w.heap.size := ⟨_, rfl⟩
      rw [← hG] at c1 c2 ⊢
      clear H2 hw1 hG
      go_loopg [5] n (fun gk v5 wr => ∃ k : Nat, k + gk = n ∧ v5 = .int .i64 (k : Int) ∧ Kp (xs.take k = ys.take k) ∧ Kp (∀ B, Below B w1 wr))
      case atStart => exact ⟨0, by omega, rfl, ⟨by simp⟩, ⟨fun _ => Below.refl _ _⟩⟩
      case round =>
        obtain ⟨k, hkm, rfl, HE, HS⟩ := hrel
        have p1 : wr.cell? ⟨G, 1, none⟩ = some (.slice A n c) := ((HS.out (G + 1)).cell (Nat.lt_succ_self _)).trans c1
        have p2 : wr.cell? ⟨G + 1, 1, none⟩ = some (.slice B n d) := ((HS.out (G + 2)).cell (Nat.lt_succ_self _)).trans c2
        cases gk with
        | zero =>
          have hend : ¬ ((k : Int) < (n : Int)) := by omega
          have HV : Kp ((xs == ys) = true) := ⟨by
            have h := HE.out
            rw [List.take_of_length_le (by rw [HX.out]; omega), List.take_of_length_le (by rw [HY.out]; omega)] at h
            rw [h]; simp⟩
          clear c1 c2
          go_wp2
          go_ret
          exact ⟨by rw [HV.out]; simp, HBw.out.trans (HS.out _)⟩
        | succ g2 =>
          have hgo : (k : Int) < (n : Int) := by omega
          have hin : k < n := by omega
          obtain ⟨b1, o1, rfl, hl1, hc1⟩ := HA.out.at hin
          obtain ⟨b2, o2, rfl, hl2, hc2⟩ := HB.out.at hin
          have hx : k < xs.length := by rw [HX.out]; exact hin
          have hy : k < ys.length := by rw [HY.out]; exact hin
          obtain ⟨x, hxe⟩ : ∃ x, x = xs[k] := ⟨_, rfl⟩
          obtain ⟨y, hye⟩ : ∃ y, y = ys[k] := ⟨_, rfl⟩
          rw [← hxe] at hc1
          rw [← hye] at hc2
          have hk1 : wr.cell? ⟨b1, o1 + k, none⟩ = some (.string ⟨x.toArray⟩) := ((HS.out (b1 + 1)).cell (Nat.lt_succ_self _)).trans hc1
          have hk2 : wr.cell? ⟨b2, o2 + k, none⟩ = some (.string ⟨y.toArray⟩) := ((HS.out (b2 + 1)).cell (Nat.lt_succ_self _)).trans hc2
          have HT1 : Kp (xs.take (k + 1) = xs.take k ++ [x]) := ⟨by rw [hxe, List.take_succ_eq_append_getElem hx]⟩
          have HT2 : Kp (ys.take (k + 1) = ys.take k ++ [y]) := ⟨by rw [hye, List.take_succ_eq_append_getElem hy]⟩
          have HNe : Kp (x ≠ y → (xs == ys) = false) := ⟨fun h => by
            rw [beq_eq_false_iff_ne]
            intro e
            apply h
            rw [hxe, hye]
            simp [e]⟩
          have heq := eqs_str x y
          clear hc1 hc2 hxe hye hl1 hl2 c1 c2
          cases hq : x == y with
          | true =>
            have HE2 : Kp (xs.take (k + 1) = ys.take (k + 1)) := ⟨by rw [HT1.out, HT2.out, HE.out, eq_of_beq hq]⟩
            rw [hq] at heq
            go_wp2
            go_still (by kernel_rfl)
            go_wp2
            go_roundg g2
            case measure => omega
            case rel => exact ⟨k + 1, by omega, by go_num, HE2, ⟨fun B => (HS.out B).drew⟩⟩
          | false =>
            have HV : Kp ((xs == ys) = false) := ⟨HNe.out (by simpa using hq)⟩
            rw [hq] at heq
            go_wp2
            go_still (by kernel_rfl)
            go_wp2
            go_ret
            exact ⟨by rw [HV.out]; simp, HBw.out.trans (HS.out _).drew⟩
    · have hne : ¬ ((n : Int) = (m : Int)) := by omega
      have HV : Kp ((xs == ys) = false) := ⟨by
        rw [beq_eq_false_iff_ne]
        intro e
        rw [e] at HX
        exact hnm (HX.out.symm.trans HY.out)⟩
      go_enter Tryd.func13, Tryd.ntmps13
      go_wp2
      go_ret
      exact ⟨by rw [HV.out]; simp, H2.out.2.2⟩
  · have HV : Kp ((b == b2) = false) := ⟨by simpa using hbb⟩
    have hq : (b == b2) = false := HV.out
    go_enter Tryd.func13, Tryd.ntmps13
    cases b <;> cases b2
    all_goals first | (exact absurd rfl hbb) | skip
    all_goals
      go_wp2
      go_ret
      exact ⟨by simp, H2.out.2.2⟩
theorem print_any (b : Bool) (A : Option Addr) (n c : Nat) (l : List Nm) (w : World) (L : Nat) (ha : Ss w L A n c l) (hL : L ≤ w.heap.size) (hn : longN l ≤ 1099511627776) :
    Calls Tryd.prog 17 #[.agg #[.bool b, .slice A n c]] w fun e w' => e = .returned (.string ⟨(printA b l).toArray⟩) ∧ Below w.heap.size w w' := by
  have hb1 : Below w.heap.size w (w.alloc (.cells #[.bool b, .slice A n c] 25)) := (Below.refl _ w).alloc (Nat.le_refl _) _
  have HA : Kp _ := ⟨ha.below (hb1.mono hL)⟩
  have HK : Kp _ := ⟨Blk.new w 25 [.bool b, .slice A n c]⟩
  have HB1 : Kp _ := ⟨hb1⟩
  have hls : L ≤ (w.alloc (.cells #[.bool b, .slice A n c] 25)).heap.size := Nat.le_trans hL hb1.size
  have hlen := joinP_le l
  obtain ⟨j, hj⟩ : ∃ j, j = joinP l := ⟨_, rfl⟩
  have HJ : Kp (∀ W, Ss W L A n c l → L ≤ W.heap.size → Calls Tryd.prog 27 #[.slice A n c, .string ⟨#[47]⟩] W fun e w' => e = .returned (.string ⟨j.toArray⟩) ∧ Below W.heap.size W w') := ⟨fun W h1 h2 => by rw [hj]; exact joinSt_any A n c l W L h1 h2 (by omega)⟩
  have HP : Kp (printA b l = if b then 47 :: j else if j = [] then dotL else j) := ⟨by rw [hj]; rfl⟩
  have hjl : j.length ≤ 1099511627776 := by rw [hj]; omega
  have hjs : (ByteArray.mk j.toArray).size = j.length := by simp [ByteArray.size]
  clear hj hb1 hlen
  have e0 : (if (47 :: j : Nm) = [] then dotL else 47 :: j) = 47 :: j := if_neg (by simp)
  have he : (ByteArray.mk #[47]) ++ ⟨j.toArray⟩ = ⟨(47 :: j).toArray⟩ := bs_app [47] j
  have HOr : Kp (∀ (x : Nm) (g : Nat) (W : World), W.cell? ⟨g, 0, none⟩ = some (.string ⟨x.toArray⟩) → W.cell? ⟨g, 1, none⟩ = some (.string ⟨#[46]⟩) →
      Calls Tryd.prog 28 #[.slice (some ⟨g, 0, none⟩) 2 2] W fun e w' => (∃ r : Nm, e = .returned (.string ⟨r.toArray⟩) ∧ r = if x = [] then dotL else x) ∧ w' = W) := ⟨fun x g W h0 h1 => (orSt_any x g W h0 h1).mono fun e w' h => ⟨⟨_, h.1, rfl⟩, h.2⟩⟩
  cases b
  all_goals
    go_enter Tryd.func17, Tryd.ntmps17
    go_wp2_with (go_at_call 27; refine (HJ.out _ HA.out hls).mono ?_; rintro e w3 ⟨rfl, hbx⟩; have HK3 : Kp _ := ⟨HK.out.below hbx HK.out.lt⟩; have HB3 : Kp (Below w.heap.size w w3) := ⟨HB1.out.trans (hbx.mono HB1.out.size)⟩; have c0 := HK3.out.cell? 0; have c1 := HK3.out.cell? 1; simp only [List.getElem?_cons_succ, List.getElem?_cons_zero] at c0 c1; clear hbx)
    try rw [he]
    first
      | (refine (HOr.out j w3.heap.size _ ((Blk.new w3 9 [.string ⟨j.toArray⟩, .string ⟨#[46]⟩]).cell? 0) ((Blk.new w3 9 [.string ⟨j.toArray⟩, .string ⟨#[46]⟩]).cell? 1)).mono ?_)
      | (refine (HOr.out (47 :: j) w3.heap.size _ ((Blk.new w3 9 [.string ⟨(47 :: j).toArray⟩, .string ⟨#[46]⟩]).cell? 0) ((Blk.new w3 9 [.string ⟨(47 :: j).toArray⟩, .string ⟨#[46]⟩]).cell? 1)).mono ?_)
    rintro e w4 ⟨⟨r, rfl, hr⟩, hw4⟩
    subst hw4
    have HR : Kp _ := ⟨hr⟩
    clear he hr
    go_wp2
    go_ret
    refine ⟨?_, HB3.out.alloc HB3.out.size _⟩
    first
      | (rw [HP.out, HR.out]; rfl)
      | (rw [HP.out, HR.out, e0]; rfl)
theorem refprint_any (b : Bool) (A : Option Addr) (n c : Nat) (l : List Nm) (w : World) (L : Nat) (ha : Ss w L A n c l) (hL : L ≤ w.heap.size) (hn : longN l ≤ 1099511627776) :
    Calls Tryd.prog 18 #[.agg #[.bool b, .slice A n c]] w fun e w' => e = .returned (.string ⟨(printA b l).toArray⟩) ∧ Below w.heap.size w w' := by
  have hb1 : Below w.heap.size w (w.alloc (.cells #[.bool b, .slice A n c] 25)) := (Below.refl _ w).alloc (Nat.le_refl _) _
  have HA : Kp _ := ⟨ha.below (hb1.mono hL)⟩
  have HX : Kp (l.length = n) := ⟨ha.len⟩
  have hn63 := ha.le
  have HK : Kp _ := ⟨Blk.new w 25 [.bool b, .slice A n c]⟩
  have HB1 : Kp _ := ⟨hb1⟩
  have HN : Kp _ := ⟨hn⟩
  clear ha hL hb1 hn
  go_enter Tryd.func18, Tryd.ntmps18
  go_wp2
  have c0 := HK.out.cell? 0
  have c1 := HK.out.cell? 1
  simp only [List.getElem?_cons_succ, List.getElem?_cons_zero] at c0 c1
  obtain ⟨w1, hw1⟩ : ∃ w1, w1 = w.alloc (.cells #[.bool b, .slice A n c] 25) := ⟨_, rfl⟩
  obtain ⟨G, hG⟩ : ∃ G, G = w.heap.size := ⟨_, rfl⟩
  rw [← hw1] at HA HB1 ⊢
  rw [← hG] at ⊢
  replace c0 : w1.cell? ⟨G, 0, none⟩ = some (.bool b) := by rw [hw1, hG]; exact c0
  replace c1 : w1.cell? ⟨G, 1, none⟩ = some (.slice A n c) := by rw [hw1, hG]; exact c1
  clear HK hw1 hG
  go_loopg [3, 4] n (fun gk v3 v4 wr => wr = w1 ∧ ∃ (k : Nat) (j : Nm), k + gk = n ∧ v4 = .int .i64 (k : Int) ∧ v3 = .string ⟨j.toArray⟩ ∧ Kp (j = joinP (l.take k)))
  case atStart => exact ⟨rfl, 0, [], by omega, rfl, rfl, ⟨rfl⟩⟩
  case round =>
    obtain ⟨rfl, k, j, hkn, rfl, rfl, HJ⟩ := hrel
    have hjs : (ByteArray.mk j.toArray).size = j.length := by simp [ByteArray.size]
    cases gk with
    | zero =>
      have hend : ¬ ((k : Int) < (n : Int)) := by omega
      have HV : Kp (printA b l = if b then 47 :: j else if j = [] then dotL else j) := ⟨by rw [HJ.out, List.take_of_length_le (by rw [HX.out]; omega)]; rfl⟩
      have hjl : j.length ≤ 1099511627776 := by
        rw [HJ.out, List.take_of_length_le (by rw [HX.out]; omega)]
        exact Nat.le_trans (joinP_le l) HN.out
      have he : (ByteArray.mk #[47]) ++ ⟨j.toArray⟩ = ⟨(47 :: j).toArray⟩ := bs_app [47] j
      have q1 := eqs_str j []
      cases b with
      | true =>
        go_wp2
        go_ret
        exact ⟨by rw [HV.out]; exact congrArg (fun v => Ending.returned (.string v)) he, HB1.out⟩
      | false =>
        by_cases hj : j = []
        · subst hj
          go_wp2
          go_ret
          exact ⟨by rw [HV.out]; rfl, HB1.out⟩
        · have hie : j.isEmpty = false := by simpa using hj
          rw [show (j == []) = false by simpa using hj] at q1
          have HV2 : Kp (printA false l = j) := ⟨by rw [HV.out]; simp [hj]⟩
          clear hj HV
          go_wp2
          go_ret
          exact ⟨by rw [HV2.out]; rfl, HB1.out⟩
    | succ g2 =>
      have hgo : (k : Int) < (n : Int) := by omega
      have hin : k < n := by omega
      obtain ⟨b1, o1, rfl, hl1, hc1⟩ := HA.out.at hin
      have hx : k < l.length := by rw [HX.out]; exact hin
      obtain ⟨x, hxe⟩ : ∃ x, x = l[k] := ⟨_, rfl⟩
      rw [← hxe] at hc1
      have HT : Kp (l.take (k + 1) = l.take k ++ [x]) := ⟨by rw [List.take_succ_eq_append_getElem hx, ← hxe]⟩
      have hjn : longN (l.take (k + 1)) ≤ 1099511627776 := by
        refine Nat.le_trans ?_ HN.out
        conv => rhs; rw [← List.take_append_drop (k + 1) l, longN_app]
        omega
      have hjx : (joinP (l.take (k + 1))).length ≤ 1099511627776 := Nat.le_trans (joinP_le _) hjn
      have hxs : (ByteArray.mk x.toArray).size = x.length := by simp [ByteArray.size]
      by_cases hk0 : k = 0
      · subst hk0
        obtain rfl : j = [] := HJ.out
        have HJ2 : Kp (x = joinP (l.take (0 + 1))) := ⟨by rw [HT.out]; exact (joinP_one x).symm⟩
        rw [← HJ2.out] at hjx
        have he : (ByteArray.mk #[]) ++ ⟨x.toArray⟩ = ⟨x.toArray⟩ := bs_app [] x
        simp only [Nat.add_zero] at hc1
        clear hxe hjn
        go_wp2
        go_roundg g2
        case measure => omega
        case rel => exact ⟨rfl, 1, x, by omega, rfl, rfl, HJ2⟩
      · have hk1 : (0 : Int) < (k : Int) := by omega
        have hne : l.take k ≠ [] := by
          intro e
          have := congrArg List.length e
          rw [List.length_take, List.length_nil] at this; omega
        have HJ2 : Kp (j ++ 47 :: x = joinP (l.take (k + 1))) := ⟨by rw [HT.out, joinP_snoc _ _ hne, ← HJ.out]⟩
        rw [← HJ2.out] at hjx
        have hj1 : j.length + (1 + x.length) ≤ 1099511627776 := by have h := hjx; rw [List.length_append, List.length_cons] at h; omega
        have he : (ByteArray.mk j.toArray) ++ ⟨#[47]⟩ ++ ⟨x.toArray⟩ = ⟨(j ++ 47 :: x).toArray⟩ := by
          rw [show (ByteArray.mk #[47]) = ⟨([47] : Nm).toArray⟩ from rfl, bs_app, bs_app]; simp
        clear hxe hjn hne hk0 hjx
        go_wp2
        go_roundg g2
        case measure => omega
        case rel => exact ⟨rfl, k + 1, j ++ 47 :: x, by omega, by go_num, rfl, HJ2⟩
end
end Go.Proofs.YtaedlaeflliibaaDoor
