/- The contracts of package bits' Get and Set, and of bytes.Clone. -/
import Derived.Test.YtgkeckfiacdpkaaDoorBtG
import Derived.Deep.QuietTactic
import Derived.BigQuiet
import Derived.Great.BuildSlice
namespace Go.Proofs.YtgkeckfiacdpkaaDoor
open Go.RowKit

theorem has_in (A : Option Addr) (n c : Nat) (i : Nat) (w : World) (hi : i ≤ 9223372036854775807) (hlt : i < 8 * n) :
    Calls Tryd.prog 29 #[.slice A n c, .int .i64 (i : Int)] w fun e w' => e = .returned (.bool true) ∧ w' = w := by
  have h := has_nat A n c i w hi
  rwa [decide_eq_true hlt] at h
theorem has_out (A : Option Addr) (n c : Nat) (i : Nat) (w : World) (hi : i ≤ 9223372036854775807) (hlt : ¬ i < 8 * n) :
    Calls Tryd.prog 29 #[.slice A n c, .int .i64 (i : Int)] w fun e w' => e = .returned (.bool false) ∧ w' = w := by
  have h := has_nat A n c i w hi
  rwa [decide_eq_false hlt] at h
theorem below_drewN (w : World) (B k : Nat) : Below B w (w.drewN k) := ⟨rfl, rfl, rfl, Nat.le_refl _, fun _ _ => rfl⟩
theorem bit_test_all : ∀ x : Fin 256, ∀ j : Fin 8, (((x.val &&& 2 ^ j.val : Nat) : Int) != 0) = x.val.testBit j.val := by decide +kernel
/-- the bit's test, as the program makes it -/
theorem bit_test (x : UInt8) (j : Nat) (hj : j < 8) : (bits .and .u8 (x.toNat : Int) ((2 ^ j : Nat) : Int) != 0) = x.toNat.testBit j := by
  have h2 : 2 ^ j < 2 ^ 8 := Nat.pow_lt_pow_right (by decide) hj
  rw [u8_and_nat _ _ x.toNat_lt h2]
  exact bit_test_all ⟨x.toNat, x.toNat_lt⟩ ⟨j, hj⟩
section
set_option maxRecDepth 100000
set_option maxHeartbeats 1000000
theorem get_neg (A : Option Addr) (n c : Nat) (i : Int) (w : World) (hi : i < 0) :
    Calls Tryd.prog 12 #[.slice A n c, .int .i64 i] w fun e w' => e = .returned (.bool false) ∧ ∃ m, w' = w.drewN m := by
  go_enter Tryd.func12, Tryd.ntmps12
  go_wp2_with fail
  go_quiet ((go_at_call 29; exact Calls.quiet_of_same (has_neg _ _ _ _ _ hi)))
  go_wp2
  go_ret
  exact ⟨rfl, _, rfl⟩
theorem get_nat (A : Option Addr) (n c : Nat) (i : Nat) (b : List UInt8) (w : World) (B : Nat) (hb : Bs w B A n c b) (hi : i ≤ 9223372036854775807) :
    Calls Tryd.prog 12 #[.slice A n c, .int .i64 (i : Int)] w fun e w' => e = .returned (.bool (gb b i)) ∧ ∃ m, w' = w.drewN m := by
  have hn63 := hb.le
  have HL : Kp _ := ⟨hb.len⟩
  by_cases hlt : i < 8 * n
  · obtain ⟨q, hq⟩ : ∃ q, q = i / 8 := ⟨_, rfl⟩
    have hqI : (i : Int) / 8 = (q : Int) := by omega
    have hqn : q < n := by omega
    have hqn' : (q : Int) < (n : Int) := by omega
    obtain ⟨bb, oo, rfl, hbl, hc⟩ := hb.cell hqn
    have HT := bit_test (b[q]'(by rw [HL.out]; exact hqn)) (i % 8) (Nat.mod_lt _ (by decide))
    have HG : Kp (gb b i = (b[q]'(by rw [HL.out]; exact hqn)).toNat.testBit (i % 8)) := ⟨by
      unfold gb
      rw [← hq, List.getD_eq_getElem?_getD, List.getElem?_eq_getElem (by rw [HL.out]; exact hqn)]; rfl⟩
    rw [HG.out]
    generalize b[q]'(by rw [HL.out]; exact hqn) = x at *
    generalize x.toNat.testBit (i % 8) = t at *
    generalize hp : ((2 ^ (i % 8) : Nat) : Int) = p at *
    have HBit : Kp _ := ⟨fun w => bit_any i w hi⟩
    rw [hp] at HBit
    have HT' : Kp _ := ⟨HT⟩
    clear hb HG hp hq HT
    go_enter Tryd.func12, Tryd.ntmps12
    go_wp2_with fail
    go_quiet (first | (go_at_call 29; exact Calls.quiet_of_same (has_in _ _ _ _ _ hi hlt)) | (go_at_call 30; exact Calls.quiet_of_same (HBit.out _)))
    go_wp2
    go_ret
    exact ⟨ret_eq (congrArg Value.bool HT'.out), _, rfl⟩
  · have hg : gb b i = false := gb_none (by rw [HL.out]; omega)
    go_enter Tryd.func12, Tryd.ntmps12
    go_wp2_with fail
    go_quiet ((go_at_call 29; exact Calls.quiet_of_same (has_out _ _ _ _ _ hi hlt)))
    go_wp2
    go_ret
    exact ⟨by rw [hg]; rfl, _, rfl⟩
set_option maxRecDepth 100000 in
set_option maxHeartbeats 400000 in
theorem clone_any (A : Option Addr) (n c : Nat) (l : List UInt8) (w : World) (ha : Bs w w.heap.size A n c l) (hn : n ≤ 4294967296) :
    Calls Tryd.prog 31 #[.slice A n c] w fun e w' => ∃ v, e = .returned v ∧ w'.ownsRow w.heap.size 5 1 v n (cells8 l) ∧ Below w.heap.size w w' := by
  have HA : Kp _ := ⟨ha⟩
  have HL : Kp _ := ⟨ha.len⟩
  have heq := fun w => Lib.run_eql_slice_nil (P := Tryd.prog) w 22 5 A n c 0 0 Tryd.underlying22
  cases hA : A with
  | none =>
    have h0 : n = 0 := by have := ha.nil hA; have := ha.cap; omega
    have hl : l = [] := List.eq_nil_of_length_eq_zero (by have := ha.len; omega)
    have hc : c = 0 := ha.nil hA
    rw [hA] at heq
    clear ha HA HL hA
    subst h0 hl hc
    go_enter Tryd.func31, Tryd.ntmps31
    go_wp2
    go_ret
    exact ⟨_, rfl, own_nil _ _ _, Below.refl _ _⟩
  | some ad =>
    subst hA
    clear ha
    have hb1 : Below w.heap.size w (w.alloc (.cells #[] 5)) := (Below.refl _ _).alloc (Nat.le_refl _) _
    have HO : Kp ((w.alloc (.cells #[] 5)).ownsRow w.heap.size 5 1 (.slice (some ⟨w.heap.size, 0, none⟩) 0 0) 0 []) :=
      ⟨rfl, .inr ⟨w.heap.size, 0, #[], rfl, Nat.le_refl _, by show (w.heap.push _)[w.heap.size]? = _; simp, Nat.le_refl _, Nat.zero_le _, rfl, rfl⟩⟩
    have HA1 : Kp _ := ⟨HA.out.below hb1⟩
    go_enter Tryd.func31, Tryd.ntmps31
    go_wp2_with (at_builtin; refine wpList_app el8 rfl _ _ rfl w.heap.size _ 0 [] rfl HO.out (some ad) n c (cells8 l) rfl (by rw [cells8_length, HL.out]) (fun h => by cases h) HA1.out.news (cells8_one _) (by simp only [maxLen]; omega) (by omega) (by simp) ?_)
    intro v2 w2 hown2 hg2 _
    have hb2 : Below w.heap.size w w2 := hb1.trans (below_of_grown HO.out (by simp) hg2)
    have H2 : Kp (w2.ownsRow w.heap.size 5 1 v2 n (cells8 l)) := ⟨by simpa using hown2⟩
    clear hown2 hg2
    go_wp2
    go_ret
    exact ⟨_, rfl, H2.out, hb2⟩
theorem set_in (A : Option Addr) (n c : Nat) (i : Nat) (t : Bool) (b : List UInt8) (w : World) (hb : Bs w w.heap.size A n c b) (hi : i ≤ 9223372036854775807) (hlt : i < 8 * n) (hn : n ≤ 4294967296) :
    Calls Tryd.prog 15 #[.slice A n c, .int .i64 (i : Int), .bool t] w fun e w' => ∃ A' c', e = .returned (.slice A' n c') ∧ Bs w' w'.heap.size A' n c' (setb b i t) ∧ Below w.heap.size w w' := by
  have HL : Kp (b.length = n) := ⟨hb.len⟩
  obtain ⟨q, hq⟩ : ∃ q, q = i / 8 := ⟨_, rfl⟩
  have hqI : (i : Int) / 8 = (q : Int) := by omega
  have hqn : q < n := by omega
  have hqn' : (q : Int) < (n : Int) := by omega
  have hqt : Int.tdiv (i : Int) 8 = (q : Int) := by rw [← hqI]; exact Int.tdiv_eq_ediv_of_nonneg (by omega)
  have hqw : IntKind.i64.wrap (q : Int) = (q : Int) := by rw [IntKind.wrap_i64]; omega
  have hm8 : i % 8 < 8 := Nat.mod_lt _ (by decide)
  have HBit : Kp _ := ⟨fun w => bit_any i w hi⟩
  have HQ : Kp (q < b.length) := ⟨by rw [HL.out]; exact hqn⟩
  obtain ⟨x, hx⟩ : ∃ x, x = b[q]'HQ.out := ⟨_, rfl⟩
  have hx' : b.getD (i / 8) 0 = x := by rw [← hq, hx, List.getD_eq_getElem?_getD, List.getElem?_eq_getElem HQ.out]; rfl
  have h2 : 2 ^ (i % 8) < 2 ^ 8 := Nat.pow_lt_pow_right (by decide) hm8
  have HVt : Kp (bits .or .u8 (x.toNat : Int) ((2 ^ (i % 8) : Nat) : Int) = ((sb8 x (i % 8) true).toNat : Int)) := ⟨by rw [sb8_or _ _ hm8]; exact u8_or_nat _ _ x.toNat_lt h2⟩
  have HVf : Kp (bits .andNot .u8 (x.toNat : Int) ((2 ^ (i % 8) : Nat) : Int) = ((sb8 x (i % 8) false).toNat : Int)) := ⟨by rw [sb8_andNot _ _ hm8]; exact u8_andNot_nat _ _ x.toNat_lt h2⟩
  have HS : Kp (∀ t, setb b i t = b.set q (sb8 x (i % 8) t)) := ⟨fun t => by unfold setb; rw [hx', hq]⟩
  have HX : Kp ((cells8 b)[q]? = some (.int .u8 (x.toNat : Int))) := ⟨by rw [cells8_at _ _ HQ.out, hx]⟩
  generalize ((2 ^ (i % 8) : Nat) : Int) = p at *
  clear hx hx' hq h2
  go_enter Tryd.func15, Tryd.ntmps15
  go_wp2_with fail
  refine (clone_any A n c b w hb hn).mono ?_
  rintro e w1 ⟨v, rfl, hown, hb1⟩
  have HB1 : Kp _ := ⟨hb1⟩
  rcases hown.2 with ⟨rfl, hx0⟩ | ⟨g, cap, cur, rfl, hg, hh, hnc, hcm, hcs, htk⟩
  · omega
  obtain ⟨T, hT⟩ : ∃ T, cur.toList = cells8 b ++ T := ⟨cur.toList.drop n, by rw [← htk]; simp⟩
  have HK : Kp (Blk w1 g 5 (cells8 b ++ T)) := ⟨⟨by rw [← hT]; simpa using hh⟩⟩
  have HG : Kp (w.heap.size ≤ g) := ⟨hg⟩
  have hcell : w1.cell? ⟨g, q, none⟩ = some (.int .u8 (x.toNat : Int)) := by
    rw [HK.out.cell? q, List.getElem?_append_left (by rw [cells8_length]; exact HQ.out)]; exact HX.out
  have hfro := HK.out.frozen q
  have HC : Kp (n ≤ cap ∧ cap ≤ maxLen) := ⟨hnc, hcm⟩
  clear hown hh htk hcs hT hg hb1 hb HX hm8 hn
  go_wp2_with (go_at_call 29; refine (has_in _ _ _ _ _ hi hlt).mono ?_; rintro e w9 ⟨rfl, rfl⟩)
  · have hv := HVt.out
    rename_i ht
    subst ht
    clear HVt HVf
    refine wp_region_still_tail 9 (by kernel_rfl) (by kernel_rfl) ?_
    simp only [List.take_succ_cons, List.take_zero, List.drop_succ_cons, List.drop_zero]
    repeat (first | still_step | still_call (HBit.out _))
    try refine wpStill_nil ?_
    change wpList _ _ _ _ _ w9.drew
    go_wp2
    go_ret
    refine ⟨_, _, rfl, ?_, (HB1.out.setCell (p := ⟨g, q, none⟩) HG.out _).drew⟩
    have hk := (HK.out.set q (.int .u8 ((sb8 x (i % 8) true).toNat : Int))).drew
    rw [List.set_append_left _ _ (by rw [cells8_length]; exact HQ.out), cells8_set, ← HS.out true] at hk
    exact hk.bytes hk.lt (by rw [List.drop_zero, List.take_append_of_le_length (by rw [cells8_length, setb_length, HL.out]; exact Nat.le_refl _), List.take_of_length_le (by rw [cells8_length, setb_length, HL.out]; exact Nat.le_refl _)]) (by rw [setb_length]; exact HL.out) cap HC.out.1 HC.out.2
  · have hv := HVf.out
    rename_i ht
    subst ht
    clear HVt HVf
    refine wp_region_still_tail 9 (by kernel_rfl) (by kernel_rfl) ?_
    simp only [List.take_succ_cons, List.take_zero, List.drop_succ_cons, List.drop_zero]
    repeat (first | still_step | still_call (HBit.out _))
    try refine wpStill_nil ?_
    change wpList _ _ _ _ _ w9.drew
    go_wp2
    go_ret
    refine ⟨_, _, rfl, ?_, (HB1.out.setCell (p := ⟨g, q, none⟩) HG.out _).drew⟩
    have hk := (HK.out.set q (.int .u8 ((sb8 x (i % 8) false).toNat : Int))).drew
    rw [List.set_append_left _ _ (by rw [cells8_length]; exact HQ.out), cells8_set, ← HS.out false] at hk
    exact hk.bytes hk.lt (by rw [List.drop_zero, List.take_append_of_le_length (by rw [cells8_length, setb_length, HL.out]; exact Nat.le_refl _), List.take_of_length_le (by rw [cells8_length, setb_length, HL.out]; exact Nat.le_refl _)]) (by rw [setb_length]; exact HL.out) cap HC.out.1 HC.out.2
theorem set_out (A : Option Addr) (n c : Nat) (i : Int) (t : Bool) (b : List UInt8) (w : World) (hb : Bs w w.heap.size A n c b) (hn : n ≤ 4294967296)
    (hh : ∀ w, Calls Tryd.prog 29 #[.slice A n c, .int .i64 i] w fun e w' => e = .returned (.bool false) ∧ w' = w) :
    Calls Tryd.prog 15 #[.slice A n c, .int .i64 i, .bool t] w fun e w' => ∃ A' c', e = .returned (.slice A' n c') ∧ Bs w' w'.heap.size A' n c' b ∧ Below w.heap.size w w' := by
  have HH : Kp _ := ⟨hh⟩
  clear hh
  go_enter Tryd.func15, Tryd.ntmps15
  go_wp2_with fail
  refine (clone_any A n c b w hb hn).mono ?_
  rintro e w1 ⟨v, rfl, hown, hb1⟩
  obtain ⟨A1, c1, rfl, hbs⟩ := Bs.of_own hown
  have HB : Kp _ := ⟨hbs⟩
  have HB1 : Kp _ := ⟨hb1⟩
  clear hown hb1 hbs hb
  go_wp2_with (go_at_call 29; refine (HH.out _).mono ?_; rintro e w9 ⟨rfl, rfl⟩)
  go_ret
  exact ⟨_, _, rfl, HB.out, HB1.out⟩
/-- Set, whatever the place -/
def setI (b : List UInt8) (i : Int) (t : Bool) : List UInt8 := if 0 ≤ i ∧ i < 8 * b.length then setb b i.toNat t else b
theorem setI_length (b : List UInt8) (i : Int) (t : Bool) : (setI b i t).length = b.length := by
  unfold setI
  split
  · exact setb_length _ _ _
  · rfl
theorem setI_nat {b : List UInt8} {i : Nat} (h : i < 8 * b.length) (t : Bool) : setI b (i : Int) t = setb b i t := by
  unfold setI
  rw [if_pos (by omega)]; simp
def gbI (b : List UInt8) (i : Int) : Bool := decide (0 ≤ i) && gb b i.toNat
theorem gbI_nat (b : List UInt8) (i : Nat) : gbI b (i : Int) = gb b i := by simp [gbI]
theorem set_any (A : Option Addr) (n c : Nat) (i : Int) (t : Bool) (b : List UInt8) (w : World) (hb : Bs w w.heap.size A n c b) (hn : n ≤ 4294967296) (h63 : i ≤ 9223372036854775807) :
    Calls Tryd.prog 15 #[.slice A n c, .int .i64 i, .bool t] w fun e w' => ∃ A' c', e = .returned (.slice A' n c') ∧ Bs w' w'.heap.size A' n c' (setI b i t) ∧ Below w.heap.size w w' := by
  have hl := hb.len
  by_cases h0 : 0 ≤ i
  · obtain ⟨k, rfl⟩ : ∃ k : Nat, i = k := ⟨i.toNat, by omega⟩
    by_cases hk : k < 8 * n
    · rw [setI_nat (by omega)]
      exact set_in A n c k t b w hb (by omega) hk hn
    · rw [show setI b (k : Int) t = b by unfold setI; rw [if_neg (by omega)]]
      exact set_out A n c k t b w hb hn fun w => has_out A n c k w (by omega) hk
  · rw [show setI b i t = b by unfold setI; rw [if_neg (by omega)]]
    exact set_out A n c i t b w hb hn fun w => has_neg A n c i w (by omega)
theorem get_any (A : Option Addr) (n c : Nat) (i : Int) (b : List UInt8) (w : World) (B : Nat) (hb : Bs w B A n c b) (h63 : i ≤ 9223372036854775807) :
    Calls Tryd.prog 12 #[.slice A n c, .int .i64 i] w fun e w' => e = .returned (.bool (gbI b i)) ∧ ∃ m, w' = w.drewN m := by
  by_cases h0 : 0 ≤ i
  · obtain ⟨k, rfl⟩ : ∃ k : Nat, i = k := ⟨i.toNat, by omega⟩
    rw [gbI_nat]
    exact get_nat A n c k b w B hb (by omega)
  · rw [show gbI b i = false by unfold gbI; rw [decide_eq_false h0]; rfl]
    exact get_neg A n c i w (by omega)
end
end Go.Proofs.YtgkeckfiacdpkaaDoor
