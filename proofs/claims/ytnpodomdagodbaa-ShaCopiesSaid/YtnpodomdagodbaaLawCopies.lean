/- The walk of ShaCopies. -/
import Derived.Test.YtnpodomdagodbaaLawSums
import Derived.Test.YtnpodomdagodbaaHashCopy
namespace Go.Proofs.Ytnpodomdagodbaa
open Go.RowKit

set_option maxRecDepth 100000 in
set_option maxHeartbeats 4000000 in
theorem walk_shaCopies (A : Option Addr) (n c : Nat) (la : List UInt8) (B : Option Addr) (m d : Nat) (lb : List UInt8) (C : Option Addr) (p f : Nat) (lc : List UInt8) (w : World)
    (ha : Bs w w.heap.size A n c la) (hb : Bs w w.heap.size B m d lb) (hc : Bs w w.heap.size C p f lc) (hn : n ≤ 140737488351232) (hm : m ≤ 140737488351232) (hp : p ≤ 140737488351232) :
    Calls Try.prog 5 #[.slice A n c, .slice B m d, .slice C p f] w fun e w' => e = .returned (.bool true) ∧ Below w.heap.size w w' := by
  have HA : Kp _ := ⟨ha⟩
  have HB : Kp _ := ⟨hb⟩
  have HC : Kp _ := ⟨hc⟩
  have HLa : Kp (la.length = n) := ⟨ha.len⟩
  have HLb : Kp (lb.length = m) := ⟨hb.len⟩
  have HLc : Kp (lc.length = p) := ⟨hc.len⟩
  clear ha hb hc
  by_cases hbig : (1000 : Int) < (n : Int) + (m : Int) + (p : Int)
  · go_enter Try.func5, Try.ntmps5
    go_wp2_with fail
    refine (known2_any _).mono ?_
    rintro e w1 ⟨rfl, hB1⟩
    go_wp2
    go_ret
    exact ⟨rfl, hB1⟩
  · have hn3 : n ≤ 1000 := by omega
    have hm3 : m ≤ 1000 := by omega
    have hp3 : p ≤ 1000 := by omega
    go_enter Try.func5, Try.ntmps5
    go_wp2_with fail
    refine (new_any w).mono ?_
    rintro e w1 ⟨rfl, hh1, hB1⟩
    have HH1 : Kp _ := ⟨hh1⟩
    have hl1 := hh1.lt
    have HA1 : Kp _ := ⟨HA.out.below hB1⟩
    clear hh1
    go_wp2_with (at_builtin; refine wpList_app el8 rfl _ _ rfl w1.heap.size _ 0 [] rfl (own_nil _ _ _) A n c (cells8 la) rfl (by rw [cells8_length, HLa.out]) ?_ HA1.out.news (cells8_one _) (by simp only [maxLen]; omega) (by omega) (Nat.le_refl _) ?_)
    · exact fun h => ⟨by have := HA1.out.nil h; have := HA1.out.cap; omega, HA1.out.nil h⟩
    intro v2 w2 hown2 hg2 _
    have hb2 : Below w1.heap.size w1 w2 := below_of_grown (own_nil w1 w1.heap.size 5) (Nat.le_refl _) hg2
    have H2 : Kp (w2.ownsRow w1.heap.size 5 1 v2 n (cells8 la)) := ⟨by simpa using hown2⟩
    have HH2 : Kp _ := ⟨HH1.out.below hb2 hl1⟩
    have hB02 : Below w.heap.size w w2 := hB1.trans (hb2.mono hB1.size)
    obtain ⟨A2, c2, rfl, hbs2⟩ := BsA.of_own H2.out hl1
    have HBs2 : Kp _ := ⟨hbs2⟩
    clear hown2 hg2 HH1 HA1 hbs2
    go_wp2_with fail
    refine (write_any w.heap.size [] A2 n c2 la _ HH2.out HBs2.out (by rw [HLa.out]; simp only [List.length_nil]; omega)).mono ?_
    rintro e w3 ⟨rfl, hh3, hg3⟩
    have HH3 : Kp (HashIs w3 w.heap.size la) := ⟨by simpa using hh3⟩
    have hB03 : Below w.heap.size w w3 := hB02.trans (below_grown hg3 (Nat.le_refl _) hB02.size)
    have H3 : Kp (∃ xs, w3.ownsRow w1.heap.size 5 1 (.slice A2 n c2) n xs) := ⟨_, own_grown H2.out hg3 hl1⟩
    clear hh3 hg3 H2 HH2 HBs2 hB02 hb2
    go_wp2
    go_loopw [9] (fun v wr => ∃ k : Nat, k ≤ n ∧ v = .int .i64 k ∧ Kp (∃ xs, wr.ownsRow w1.heap.size 5 1 (.slice A2 n c2) n xs) ∧ Kp (HashIs wr w.heap.size la) ∧ Below w.heap.size w wr) (fun v _ => n - (intOf v).toNat)
    case atStart => exact ⟨0, Nat.zero_le _, rfl, H3, HH3, hB03⟩
    case round =>
      clear H3 HH3 hB03
      obtain ⟨k, hk, rfl, HO, HHr, hBr⟩ := hrel
      by_cases hlt : k < n
      · obtain ⟨xs, hxs⟩ := HO.out
        obtain ⟨gm, cm, e1, _, hgm, _⟩ := own_some hxs (by omega)
        injection e1 with e2 _ e3
        subst e2
        subst e3
        have hxl := hxs.1
        have hcx := hxs.cellAt k (by omega)
        rw [List.getElem?_eq_getElem (by omega)] at hcx
        generalize xs[k]'(by omega) = old at hcx
        have hfx := hxs.frozenAt k
        have HX : Kp _ := ⟨hxs⟩
        clear hxs hxl HO
        go_wp2
        refine ⟨⟨k + 1, by omega, by go_num, ⟨_, (HX.out.stored k (.int .u8 0)).1⟩, ⟨HHr.out.grown (grown_set wr gm k _) (by omega)⟩, hBr.setCell (by have := hB1.size; simp; omega) _⟩, by simp [intOf]; omega⟩
      · have hlr : w.heap.size < wr.heap.size := HHr.out.lt
        obtain ⟨w5, rfl⟩ : ∃ x, x = wr := ⟨wr, rfl⟩
        clear HO
        go_wp2_with fail
        refine (copy_any w.heap.size la _ HHr.out).mono ?_
        rintro e w6 ⟨rfl, hh6, hb6⟩
        have HK6 : Kp _ := ⟨hh6⟩
        have HH6 : Kp _ := ⟨HHr.out.below hb6 hlr⟩
        have hl6 := hh6.lt
        have hB6 : Below w.heap.size w w6 := hBr.trans (hb6.mono (Nat.le_of_lt hlr))
        clear hh6 HHr hb6
        go_wp2_with fail
        refine (write_any w.heap.size la B m d lb _ HH6.out (BsA.of_bs (HB.out.below hB6) (Nat.le_refl _) hB6.size) (by rw [HLa.out, HLb.out]; omega)).mono ?_
        rintro e w7 ⟨rfl, hh7, hg7⟩
        have HH7 : Kp _ := ⟨hh7⟩
        have HK7 : Kp _ := ⟨HK6.out.grown hg7 (by omega)⟩
        have hB7 : Below w.heap.size w w7 := hB6.trans (below_grown hg7 (Nat.le_refl _) hB6.size)
        clear hh7 hg7 HH6 HK6
        go_wp2_with fail
        refine (write_any w5.heap.size la C p f lc _ HK7.out (BsA.of_bs (HC.out.below hB7) (by omega) hB7.size) (by rw [HLa.out, HLc.out]; omega)).mono ?_
        rintro e w8 ⟨rfl, hh8, hg8⟩
        have HK8 : Kp _ := ⟨hh8⟩
        have HH8 : Kp _ := ⟨HH7.out.grown hg8 (by omega)⟩
        have hB8 : Below w.heap.size w w8 := hB7.trans (below_grown hg8 (by omega) hB7.size)
        clear hh8 hg8 HH7 HK7 hB6 hB7
        go_wp2_with fail
        refine (sum_any w.heap.size (la ++ lb) _ HH8.out (by rw [List.length_append, HLa.out, HLb.out]; omega)).mono ?_
        rintro e w9 ⟨rfl, hB9⟩
        have HH9 : Kp _ := ⟨HH8.out.below hB9 HH8.out.lt⟩
        have HK9 : Kp _ := ⟨HK8.out.below hB9 HK8.out.lt⟩
        have hB09 : Below w.heap.size w w9 := hB8.trans (hB9.mono hB8.size)
        have heq1 := eql_self (shaL (la ++ lb)) (shaL_length _)
        have heq2 := eql_self (shaL (la ++ lc)) (shaL_length _)
        clear HH8 HK8 hB8 hB9
        generalize hD1 : shaL (la ++ lb) = D1 at *
        generalize hD2 : shaL (la ++ lc) = D2 at *
        have HD1 : Kp _ := ⟨hD1⟩
        have HD2 : Kp _ := ⟨hD2⟩
        clear hD1 hD2
        go_wp2_with fail
        refine (sumf2 A n c la B m d lb _ _ ((HA.out.below hB09).more hB09.size) ((HB.out.below hB09).more hB09.size) (by rw [HLa.out, HLb.out]; omega)).mono ?_
        rw [HD1.out]
        rintro e w10 ⟨rfl, hB10⟩
        have HH10 : Kp _ := ⟨HH9.out.below hB10 HH9.out.lt⟩
        have HK10 : Kp _ := ⟨HK9.out.below hB10 HK9.out.lt⟩
        have hB010 : Below w.heap.size w w10 := hB09.trans (hB10.mono hB09.size)
        clear HH9 HK9 hB09 hB10
        go_wp2_with fail
        refine (sum_any w5.heap.size (la ++ lc) _ HK10.out (by rw [List.length_append, HLa.out, HLc.out]; omega)).mono ?_
        rw [HD2.out]
        rintro e w11 ⟨rfl, hB11⟩
        have HH11 : Kp _ := ⟨HH10.out.below hB11 HH10.out.lt⟩
        have hB011 : Below w.heap.size w w11 := hB010.trans (hB11.mono hB010.size)
        clear HH10 HK10 hB010 hB11
        go_wp2_with fail
        refine (sumf2 A n c la C p f lc _ _ ((HA.out.below hB011).more hB011.size) ((HC.out.below hB011).more hB011.size) (by rw [HLa.out, HLc.out]; omega)).mono ?_
        rw [HD2.out]
        rintro e w12 ⟨rfl, hB12⟩
        have HH12 : Kp _ := ⟨HH11.out.below hB12 HH11.out.lt⟩
        have hB012 : Below w.heap.size w w12 := hB011.trans (hB12.mono hB011.size)
        clear HH11 hB011 hB12
        go_wp2_with fail
        refine (sum_any w.heap.size (la ++ lb) _ HH12.out (by rw [List.length_append, HLa.out, HLb.out]; omega)).mono ?_
        rw [HD1.out]
        rintro e w13 ⟨rfl, hB13⟩
        have HH13 : Kp _ := ⟨HH12.out.below hB13 HH12.out.lt⟩
        have hB013 : Below w.heap.size w w13 := hB012.trans (hB13.mono hB012.size)
        clear HH12 hB012 hB13
        go_wp2_with fail
        refine (sum_any w.heap.size (la ++ lb) _ HH13.out (by rw [List.length_append, HLa.out, HLb.out]; omega)).mono ?_
        rw [HD1.out]
        rintro e w14 ⟨rfl, hB14⟩
        have hB014 : Below w.heap.size w w14 := hB013.trans (hB14.mono hB013.size)
        clear HH13 hB013 hB14
        go_wp2_with fail
        refine (known2_any _).mono ?_
        rintro e w15 ⟨rfl, hB15⟩
        go_wp2
        go_ret
        exact ⟨rfl, hB014.trans (hB15.mono hB014.size)⟩
theorem law_shaCopies (A : Option Addr) (n c : Nat) (la : List UInt8) (B : Option Addr) (m d : Nat) (lb : List UInt8) (C : Option Addr) (p f : Nat) (lc : List UInt8) (w : World)
    (ha : Bs w w.heap.size A n c la ∧ c ≤ 140737488351232) (hb : Bs w w.heap.size B m d lb ∧ d ≤ 140737488351232) (hc : Bs w w.heap.size C p f lc ∧ f ≤ 140737488351232) :
    Calls Try.prog 5 #[.slice A n c, .slice B m d, .slice C p f] w fun e w' => e = .returned (.bool true) ∧ Below w.heap.size w w' :=
  walk_shaCopies A n c la B m d lb C p f lc w ha.1 hb.1 hc.1 (Nat.le_trans ha.1.cap ha.2) (Nat.le_trans hb.1.cap hb.2) (Nat.le_trans hc.1.cap hc.2)

end Go.Proofs.Ytnpodomdagodbaa
