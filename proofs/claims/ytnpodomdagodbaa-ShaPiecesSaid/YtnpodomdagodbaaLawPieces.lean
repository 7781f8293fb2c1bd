/- The walk of ShaPieces. -/
import Derived.Test.YtnpodomdagodbaaWrite
import Derived.Test.YtnpodomdagodbaaLawSums
namespace Go.Proofs.Ytnpodomdagodbaa
open Go.RowKit

theorem take_piece (l : List UInt8) (i k : Nat) (h : i ≤ k) : l.take i ++ (l.take k).drop i = l.take k := by
  have e : l.take i = (l.take k).take i := by rw [List.take_take]; congr 1; omega
  rw [e, List.take_append_drop]

set_option maxRecDepth 100000 in
set_option maxHeartbeats 4000000 in
theorem walk_shaPieces (A : Option Addr) (n c : Nat) (la : List UInt8) (B : Option Addr) (m d : Nat) (lb : List UInt8) (w : World)
    (ha : Bs w w.heap.size A n c la) (hb : Bs w w.heap.size B m d lb) :
    Calls Try.prog 6 #[.slice A n c, .slice B m d] w fun e w' => e = .returned (.bool true) ∧ Below w.heap.size w w' := by
  have HA : Kp _ := ⟨ha⟩
  have HB : Kp _ := ⟨hb⟩
  have HLa : Kp (la.length = n) := ⟨ha.len⟩
  have HLb : Kp (lb.length = m) := ⟨hb.len⟩
  have hnl := ha.le
  have hml := hb.le
  clear ha hb
  by_cases hbig : (1000 : Int) < (n : Int)
  · go_enter Try.func6, Try.ntmps6
    go_wp2_with fail
    refine (known2_any _).mono ?_
    rintro e w1 ⟨rfl, hB1⟩
    go_wp2
    go_ret
    exact ⟨rfl, hB1⟩
  by_cases hbig2 : (60 : Int) < (m : Int)
  · go_enter Try.func6, Try.ntmps6
    go_wp2_with fail
    refine (known2_any _).mono ?_
    rintro e w1 ⟨rfl, hB1⟩
    go_wp2
    go_ret
    exact ⟨rfl, hB1⟩
  have hn3 : n ≤ 1000 := by omega
  have hm3 : m ≤ 60 := by omega
  go_enter Try.func6, Try.ntmps6
  go_wp2_with fail
  refine (new_any w).mono ?_
  rintro e w1 ⟨rfl, hh1, hB1⟩
  have HH1 : Kp _ := ⟨hh1⟩
  clear hh1
  go_wp2
  go_loopw [6, 7] (fun v6 v7 wr => ∃ k i : Nat, k ≤ n ∧ i ≤ m ∧ v6 = .int .i64 k ∧ v7 = .int .i64 i ∧ Kp (HashIs wr w.heap.size (la.take k)) ∧ Below w.heap.size w wr) (fun _ v7 _ => m - (intOf v7).toNat)
  case atStart => exact ⟨0, 0, Nat.zero_le _, Nat.zero_le _, rfl, rfl, by simpa using HH1, hB1⟩
  case round =>
    clear HH1 hB1
    obtain ⟨k, i, hk, hi, rfl, rfl, HH, hBr⟩ := hrel
    by_cases hgo : i < m ∧ k < n
    · obtain ⟨h1, h2⟩ := hgo
      have hii : (i : Int) < (m : Int) := by omega
      have hkk : (k : Int) < (n : Int) := by omega
      obtain ⟨bb, ob, rfl, hbb, hcb⟩ := (HB.out.below hBr).cell h1
      generalize lb[i]'(by rw [HLb.out]; exact h1) = x at *
      have hx := x.toNat_lt
      have hx0 : (x.toNat : Int) < 256 := by omega
      obtain ⟨k2, hk2⟩ : ∃ k2, k2 = min (k + x.toNat) n := ⟨_, rfl⟩
      have hle1 : k ≤ k2 := by omega
      have hle2 : k2 ≤ n := by omega
      have hmin : min ((k : Int) + (x.toNat : Int)) (n : Int) = (k2 : Int) := by omega
      have HBx : Kp _ := ⟨HA.out.below hBr⟩
      have HN : Kp _ := ⟨take_piece la k k2 hle1⟩
      have hcase : (k : Int) + (x.toNat : Int) ≤ (n : Int) ∨ (n : Int) < (k : Int) + (x.toNat : Int) := by omega
      clear hk2
      rcases hcase with hcs | hcs
      all_goals
        go_wp2_with (with_reducible refine wpList_cut_lh (o := ⟨some 45, _, _, _, _, _⟩) el8 rfl _ _ _ rfl rfl HBx.out _ _ _ _ k k2 rfl rfl rfl ?_ hle1 hle2 ?_)
        · omega
        intro A5 m5 d5 hbs5
        have HBs5 : Kp _ := ⟨BsA.of_bs hbs5 (Nat.le_refl _) hBr.size⟩
        have HMin : Kp _ := ⟨hmin⟩
        clear hbs5 hmin
        go_wp2_with fail
        refine (write_any w.heap.size (la.take k) A5 m5 d5 _ _ HH.out HBs5.out (by rw [← List.length_append, HN.out, List.length_take]; omega)).mono ?_
        rintro e w2 ⟨rfl, hh2, hg2⟩
        have HH2 : Kp (HashIs w2 w.heap.size (la.take k2)) := ⟨by rw [HN.out] at hh2; exact hh2⟩
        have hB2 : Below w.heap.size w w2 := hBr.trans (below_grown hg2 (Nat.le_refl _) hBr.size)
        clear hh2 hg2 HH HBs5 hBr hcb HBx HN
        go_wp2
        go_roundw
        case rel => exact ⟨k2, i + 1, hle2, by omega, congrArg (Value.int .i64) (by have := HMin.out; omega), by go_num, HH2, hB2⟩
        case measure => simp [intOf]; omega
    · have HBx : Kp _ := ⟨HA.out.below hBr⟩
      by_cases h1 : i < m
      · have h2 : ¬ ((k : Int) < (n : Int)) := by omega
        have hii : (i : Int) < (m : Int) := by omega
        go_wp2_with (with_reducible refine wpList_cut_l (o := ⟨some 51, _, _, _, _, _⟩) el8 rfl _ _ rfl rfl HBx.out _ _ k rfl rfl hk ?_)
        intro A5 m5 d5 hbs5
        have HBs5 : Kp _ := ⟨BsA.of_bs hbs5 (Nat.le_refl _) hBr.size⟩
        have HN : Kp _ := ⟨List.take_append_drop k la⟩
        clear hbs5
        go_wp2_with fail
        refine (write_any w.heap.size (la.take k) A5 m5 d5 _ _ HH.out HBs5.out (by rw [← List.length_append, HN.out, HLa.out]; omega)).mono ?_
        rintro e w2 ⟨rfl, hh2, hg2⟩
        have HH2 : Kp (HashIs w2 w.heap.size la) := ⟨by rw [HN.out] at hh2; exact hh2⟩
        have hB2 : Below w.heap.size w w2 := hBr.trans (below_grown hg2 (Nat.le_refl _) hBr.size)
        clear hh2 hg2 HH HBs5 hBr HBx HN
        go_wp2_with fail
        refine (sum_any w.heap.size la _ HH2.out (by rw [HLa.out]; omega)).mono ?_
        have heq := eql_self (shaL la) (shaL_length _)
        generalize hD : shaL la = D at *
        have HD : Kp _ := ⟨hD⟩
        clear hD
        rintro e w3 ⟨rfl, hB3⟩
        have hB03 := hB2.trans (hB3.mono hB2.size)
        clear hB3 HH2
        go_wp2_with fail
        refine (sumf1 A n c la _ _ ((HA.out.below hB03).more hB03.size) (by rw [HLa.out]; omega)).mono ?_
        rw [HD.out]
        rintro e w4 ⟨rfl, hB4⟩
        have hB04 := hB03.trans (hB4.mono hB03.size)
        clear hB4 hB2 hB03
        go_wp2_with fail
        refine (known2_any _).mono ?_
        rintro e w5 ⟨rfl, hB5⟩
        go_wp2
        go_ret
        exact ⟨rfl, hB04.trans (hB5.mono hB04.size)⟩
      · have hii : ¬ ((i : Int) < (m : Int)) := by omega
        go_wp2_with (with_reducible refine wpList_cut_l (o := ⟨some 51, _, _, _, _, _⟩) el8 rfl _ _ rfl rfl HBx.out _ _ k rfl rfl hk ?_)
        intro A5 m5 d5 hbs5
        have HBs5 : Kp _ := ⟨BsA.of_bs hbs5 (Nat.le_refl _) hBr.size⟩
        have HN : Kp _ := ⟨List.take_append_drop k la⟩
        clear hbs5
        go_wp2_with fail
        refine (write_any w.heap.size (la.take k) A5 m5 d5 _ _ HH.out HBs5.out (by rw [← List.length_append, HN.out, HLa.out]; omega)).mono ?_
        rintro e w2 ⟨rfl, hh2, hg2⟩
        have HH2 : Kp (HashIs w2 w.heap.size la) := ⟨by rw [HN.out] at hh2; exact hh2⟩
        have hB2 : Below w.heap.size w w2 := hBr.trans (below_grown hg2 (Nat.le_refl _) hBr.size)
        clear hh2 hg2 HH HBs5 hBr HBx HN
        go_wp2_with fail
        refine (sum_any w.heap.size la _ HH2.out (by rw [HLa.out]; omega)).mono ?_
        have heq := eql_self (shaL la) (shaL_length _)
        generalize hD : shaL la = D at *
        have HD : Kp _ := ⟨hD⟩
        clear hD
        rintro e w3 ⟨rfl, hB3⟩
        have hB03 := hB2.trans (hB3.mono hB2.size)
        clear hB3 HH2
        go_wp2_with fail
        refine (sumf1 A n c la _ _ ((HA.out.below hB03).more hB03.size) (by rw [HLa.out]; omega)).mono ?_
        rw [HD.out]
        rintro e w4 ⟨rfl, hB4⟩
        have hB04 := hB03.trans (hB4.mono hB03.size)
        clear hB4 hB2 hB03
        go_wp2_with fail
        refine (known2_any _).mono ?_
        rintro e w5 ⟨rfl, hB5⟩
        go_wp2
        go_ret
        exact ⟨rfl, hB04.trans (hB5.mono hB04.size)⟩
theorem law_shaPieces (A : Option Addr) (n c : Nat) (la : List UInt8) (B : Option Addr) (m d : Nat) (lb : List UInt8) (w : World)
    (ha : Bs w w.heap.size A n c la ∧ c ≤ 140737488351232) (hb : Bs w w.heap.size B m d lb ∧ d ≤ 140737488351232) :
    Calls Try.prog 6 #[.slice A n c, .slice B m d] w fun e w' => e = .returned (.bool true) ∧ Below w.heap.size w w' :=
  walk_shaPieces A n c la B m d lb w ha.1 hb.1

end Go.Proofs.Ytnpodomdagodbaa
