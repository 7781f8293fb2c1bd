/- The document's answers: Wide, Get, Set. -/
import Derived.Test.YtgkeckfiacdpkaaDoorBtT
namespace Go.Proofs.YtgkeckfiacdpkaaDoor
open Go.RowKit Go.Shelf

section
set_option maxRecDepth 100000
set_option maxHeartbeats 1000000
theorem refwide_any (n : Int) (w : World) (h1 : -9223372036854775808 ≤ n) (h2 : n ≤ 9223372036854775807) :
    Calls Tryd.prog 23 #[.int .i64 n] w fun e w' => e = .returned (.int .i64 (((n.toNat + 7) / 8 : Nat) : Int)) ∧ w' = w := by
  by_cases h0 : n ≤ 0
  · have h0' : ¬ 0 < n := by omega
    rw [show (((n.toNat + 7) / 8 : Nat) : Int) = 0 by omega]
    go_enter Tryd.func23, Tryd.ntmps23
    go_wp2
    go_ret
    exact ⟨rfl, rfl⟩
  · obtain ⟨m, rfl⟩ : ∃ m : Nat, n = m := ⟨n.toNat, by omega⟩
    have h0' : (0 : Int) < (m : Int) := by omega
    by_cases h8 : m % 8 = 0
    · have h8' : ¬ (0 < (m : Int) % 8) := by omega
      have h8n : ¬ (0 < m % 8) := by omega
      have hv : (m : Int) / 8 = ((((m : Int).toNat + 7) / 8 : Nat) : Int) := by omega
      go_enter Tryd.func23, Tryd.ntmps23
      go_wp2
      go_ret
      exact ⟨rfl, rfl⟩
    · have h8' : 0 < (m : Int) % 8 := by omega
      have h8n : 0 < m % 8 := by omega
      have HV : Kp ((m : Int) / 8 + 1 = ((((m : Int).toNat + 7) / 8 : Nat) : Int)) := ⟨by omega⟩
      go_enter Tryd.func23, Tryd.ntmps23
      go_wp2
      go_ret
      exact ⟨ret_eq (congrArg (Value.int .i64) HV.out), rfl⟩
theorem refget_in (A : Option Addr) (n c : Nat) (i : Nat) (b : List UInt8) (w : World) (B : Nat) (hb : Bs w B A n c b) (hn : n ≤ 4294967296) (hlt : i < 8 * n) :
    Calls Tryd.prog 13 #[.slice A n c, .int .i64 (i : Int)] w fun e w' => e = .returned (.bool (gb b i)) ∧ w' = w := by
  have HL : Kp (b.length = n) := ⟨hb.len⟩
  obtain ⟨q, hq⟩ : ∃ q, q = i / 8 := ⟨_, rfl⟩
  obtain ⟨m, hm⟩ : ∃ m, m = i % 8 := ⟨_, rfl⟩
  have hqI : (i : Int) / 8 = (q : Int) := by omega
  have hmI : (i : Int) % 8 = (m : Int) := by omega
  have hqn : q < n := by omega
  have hqn' : (q : Int) < (n : Int) := by omega
  have hm8 : m < 8 := by omega
  have hnge : ¬ ((n : Int) ≤ (q : Int)) := by omega
  obtain ⟨bb, oo, rfl, hbl, hc⟩ := hb.cell hqn
  have HG : Kp (gb b i = decide ((b[q]'(by rw [HL.out]; exact hqn)).toNat / 2 ^ m % 2 = 1)) := ⟨by
    rw [Bool.eq_iff_iff, decide_eq_true_iff, ← gb_dec b i, ← hq, ← hm, List.getD_eq_getElem?_getD, List.getElem?_eq_getElem (by rw [HL.out]; exact hqn)]; rfl⟩
  rw [HG.out]
  have hx := (b[q]'(by rw [HL.out]; exact hqn)).toNat_lt
  generalize (b[q]'(by rw [HL.out]; exact hqn)).toNat = x at *
  clear hb HG hq hm
  go_enter Tryd.func13, Tryd.ntmps13
  go_wp2
  go_loopg [5, 6] m (fun gk v5 v6 wr => ∃ (k y : Nat), k + gk = m ∧ v6 = .int .i64 (k : Int) ∧ v5 = .int .i64 (y : Int) ∧ Kp (y = x / 2 ^ k) ∧ y < 256 ∧ wr = w)
  case atStart => exact ⟨0, x, by omega, rfl, by go_num, ⟨by simp⟩, hx, rfl⟩
  case round =>
    obtain ⟨k, y, hkm, rfl, rfl, HY, hy, rfl⟩ := hrel
    cases gk with
    | zero =>
      have hend : ¬ ((k : Int) < (m : Int)) := by omega
      have HKe : Kp (k = m) := ⟨by omega⟩
      obtain ⟨r, hr⟩ : ∃ r, r = y % 2 := ⟨_, rfl⟩
      have hrI : (y : Int) % 2 = (r : Int) := by omega
      have HV : Kp (decide (x / 2 ^ m % 2 = 1) = decide (r = 1)) := ⟨by rw [← HKe.out, ← HY.out, hr]⟩
      clear hr
      go_wp2
      go_ret
      rw [HV.out]
      exact ⟨ret_eq (congrArg Value.bool (show ((r : Int) == 1) = decide (r = 1) by rw [Bool.eq_iff_iff]; simp; omega)), rfl⟩
    | succ g2 =>
      have hgo : (k : Int) < (m : Int) := by omega
      have hyI : (y : Int) / 2 = ((y / 2 : Nat) : Int) := by omega
      have HY2 : Kp (y / 2 = x / 2 ^ (k + 1)) := ⟨by rw [HY.out, Nat.div_div_eq_div_mul, Nat.pow_succ]⟩
      have hy2 : y / 2 < 256 := by omega
      generalize y / 2 = y2 at *
      go_wp2
      go_roundg g2
      case measure => omega
      case rel => exact ⟨k + 1, y2, by omega, by go_num, rfl, HY2, hy2, rfl⟩
theorem refget_any (A : Option Addr) (n c : Nat) (i : Int) (b : List UInt8) (w : World) (B : Nat) (hb : Bs w B A n c b) (hn : n ≤ 4294967296) (h63 : i ≤ 9223372036854775807) :
    Calls Tryd.prog 13 #[.slice A n c, .int .i64 i] w fun e w' => e = .returned (.bool (gbI b i)) ∧ w' = w := by
  have hl := hb.len
  by_cases h0 : 0 ≤ i
  · obtain ⟨k, rfl⟩ : ∃ k : Nat, i = k := ⟨i.toNat, by omega⟩
    rw [gbI_nat]
    by_cases hk : k < 8 * n
    · exact refget_in A n c k b w B hb hn hk
    · have hge : (n : Int) ≤ (k : Int) / 8 := by omega
      have hg : gb b k = false := gb_none (by omega)
      clear hb
      go_enter Tryd.func13, Tryd.ntmps13
      go_wp2
      go_ret
      exact ⟨by rw [hg]; rfl, rfl⟩
  · rw [show gbI b i = false by unfold gbI; rw [decide_eq_false h0]; rfl]
    have h0' : i < 0 := by omega
    clear hb
    go_enter Tryd.func13, Tryd.ntmps13
    go_wp2
    go_ret
    exact ⟨rfl, rfl⟩
theorem flip_test (x : UInt8) (j : Nat) (t : Bool) (h : x.toNat.testBit j ≠ t) : sb8 x j t = x ^^^ UInt8.ofNat (2 ^ j) := by
  unfold sb8
  rw [if_neg h]
theorem refset_flip (A : Option Addr) (n c : Nat) (i : Nat) (t : Bool) (b : List UInt8) (w : World) (hb : Bs w w.heap.size A n c b) (hlt : i < 8 * n) (hn : n ≤ 4294967296) (hne : gb b i ≠ t) :
    Calls Tryd.prog 16 #[.slice A n c, .int .i64 (i : Int), .bool t] w fun e w' => ∃ A' c', e = .returned (.slice A' n c') ∧ Bs w' w'.heap.size A' n c' (setb b i t) ∧ Below w.heap.size w w' := by
  have HL : Kp (b.length = n) := ⟨hb.len⟩
  obtain ⟨q, hq⟩ : ∃ q, q = i / 8 := ⟨_, rfl⟩
  obtain ⟨m, hm⟩ : ∃ m, m = i % 8 := ⟨_, rfl⟩
  have hqI : (i : Int) / 8 = (q : Int) := by omega
  have hmI : (i : Int) % 8 = (m : Int) := by omega
  have hqn : q < n := by omega
  have hqn' : (q : Int) < (n : Int) := by omega
  have hm8 : m < 8 := by omega
  have hnge : ¬ ((n : Int) ≤ (q : Int)) := by omega
  have HQ : Kp (q < b.length) := ⟨by rw [HL.out]; exact hqn⟩
  obtain ⟨x, hx⟩ : ∃ x, x = b[q]'HQ.out := ⟨_, rfl⟩
  have hx' : b.getD (i / 8) 0 = x := by rw [← hq, hx, List.getD_eq_getElem?_getD, List.getElem?_eq_getElem HQ.out]; rfl
  have hxb : x.toNat.testBit m ≠ t := by
    intro e
    apply hne
    unfold gb
    rw [hx', ← hm]; exact e
  have HS : Kp (setb b i t = b.set q (flip8 x m)) := ⟨by unfold setb; rw [hx', ← hq, ← hm, flip_test x m t hxb]; rfl⟩
  have hv := flip8_val x (m : Int)
  rw [show ((m : Int)).toNat = m by omega] at hv
  have HX : Kp ((cells8 b)[q]? = some (.int .u8 (x.toNat : Int))) := ⟨by rw [cells8_at _ _ HQ.out, hx]⟩
  have HB : Kp _ := ⟨hb⟩
  have HGe : Kp (gbI b (i : Int) = !t) := ⟨by rw [gbI_nat]; cases h : gb b i <;> cases t <;> simp_all⟩
  clear hx hx' hq hm hxb hne
  go_enter Tryd.func16, Tryd.ntmps16
  go_wp2_with (at_builtin; refine wpList_app el8 rfl _ _ rfl w.heap.size _ 0 [] rfl (own_nil _ _ _) A n c (cells8 b) rfl ?_ ?_ hb.news (cells8_one _) ?_ ?_ (Nat.le_refl _) ?_)
  · rw [cells8_length, HL.out]
  · exact fun h => ⟨by have := hb.nil h; have := hb.cap; omega, hb.nil h⟩
  · simp only [maxLen]; omega
  · omega
  intro v1 w1 hown hg hbk
  have hbel : Below w.heap.size w w1 := (Below.refl _ _).grown hg (Nat.le_refl _) (by simp [Value.ownBlock])
  have hown : w1.ownsRow w.heap.size 5 1 v1 n (cells8 b) := by simpa using hown
  clear hg hbk hb
  rcases hown.2 with ⟨rfl, hx0⟩ | ⟨g, cap, cur, rfl, hg, hh, hnc, hcm, hcs, htk⟩
  · omega
  obtain ⟨T, hT⟩ : ∃ T, cur.toList = cells8 b ++ T := ⟨cur.toList.drop n, by rw [← htk]; simp⟩
  have HK : Kp (Blk w1 g 5 (cells8 b ++ T)) := ⟨⟨by rw [← hT]; simpa using hh⟩⟩
  have HG : Kp (w.heap.size ≤ g) := ⟨hg⟩
  have HB1 : Kp _ := ⟨hbel⟩
  have HBs : Kp (Bs w1 w.heap.size A n c b) := ⟨HB.out.below hbel⟩
  have hcell : w1.cell? ⟨g, q, none⟩ = some (.int .u8 (x.toNat : Int)) := by
    rw [HK.out.cell? q, List.getElem?_append_left (by rw [cells8_length]; exact HQ.out)]; exact HX.out
  have hfro := HK.out.frozen q
  have HC : Kp (n ≤ cap ∧ cap ≤ maxLen) := ⟨hnc, hcm⟩
  have HG1 : Kp _ := ⟨refget_any A n c (i : Int) b w1 _ HBs.out hn (by omega)⟩
  rw [HGe.out] at HG1
  clear hown hh htk hcs hT hg hbel HX
  go_wp2_with (go_at_call 13; refine HG1.out.mono ?_; rintro e w9 ⟨rfl, rfl⟩)
  go_ret
  refine ⟨_, _, rfl, ?_, HB1.out.setCell (p := ⟨g, q, none⟩) HG.out _⟩
  have hk := HK.out.set q (.int .u8 ((flip8 x m).toNat : Int))
  rw [List.set_append_left _ _ (by rw [cells8_length]; exact HQ.out), cells8_set, ← HS.out] at hk
  exact hk.bytes hk.lt (by rw [List.drop_zero, List.take_append_of_le_length (by rw [cells8_length, setb_length, HL.out]; exact Nat.le_refl _), List.take_of_length_le (by rw [cells8_length, setb_length, HL.out]; exact Nat.le_refl _)]) (by rw [setb_length]; exact HL.out) cap HC.out.1 HC.out.2
theorem setb_same {b : List UInt8} {i : Nat} {t : Bool} (h : gb b i = t) : setb b i t = b := by
  unfold setb sb8
  have h' : (b.getD (i / 8) 0).toNat.testBit (i % 8) = t := h
  rw [if_pos h']
  by_cases hl : i / 8 < b.length
  · rw [List.getD_eq_getElem?_getD, List.getElem?_eq_getElem hl, Option.getD_some]; simp
  · rw [List.set_eq_of_length_le (by omega)]
theorem refset_same (A : Option Addr) (n c : Nat) (i : Int) (t : Bool) (b : List UInt8) (w : World) (hb : Bs w w.heap.size A n c b) (hn : n ≤ 4294967296) (h63 : i ≤ 9223372036854775807) (h : i < 0 ∨ (0 ≤ i ∧ (n : Int) ≤ i / 8) ∨ (0 ≤ i ∧ i / 8 < (n : Int) ∧ gbI b i = t)) :
    Calls Tryd.prog 16 #[.slice A n c, .int .i64 i, .bool t] w fun e w' => ∃ A' c', e = .returned (.slice A' n c') ∧ Bs w' w'.heap.size A' n c' b ∧ Below w.heap.size w w' := by
  have HL : Kp (b.length = n) := ⟨hb.len⟩
  have HB : Kp _ := ⟨hb⟩
  go_enter Tryd.func16, Tryd.ntmps16
  go_wp2_with (at_builtin; refine wpList_app el8 rfl _ _ rfl w.heap.size _ 0 [] rfl (own_nil _ _ _) A n c (cells8 b) rfl ?_ ?_ hb.news (cells8_one _) ?_ ?_ (Nat.le_refl _) ?_)
  · rw [cells8_length, HL.out]
  · exact fun h => ⟨by have := hb.nil h; have := hb.cap; omega, hb.nil h⟩
  · simp only [maxLen]; omega
  · omega
  intro v1 w1 hown hg hbk
  have hbel : Below w.heap.size w w1 := (Below.refl _ _).grown hg (Nat.le_refl _) (by simp [Value.ownBlock])
  have hown : w1.ownsRow w.heap.size 5 1 v1 n (cells8 b) := by simpa using hown
  obtain ⟨A1, c1, rfl, hbs⟩ := Bs.of_own hown
  have HBs : Kp _ := ⟨hbs⟩
  have HB1 : Kp _ := ⟨hbel⟩
  have HG1 : Kp _ := ⟨refget_any A n c i b w1 _ (HB.out.below hbel) hn h63⟩
  clear hown hg hbk hbs hbel hb HB
  rcases h with h | ⟨h1, h2⟩ | ⟨h1, h2, h3⟩
  · go_wp2
    go_ret
    exact ⟨_, _, rfl, HBs.out, HB1.out⟩
  · go_wp2
    go_ret
    exact ⟨_, _, rfl, HBs.out, HB1.out⟩
  · have h2' : ¬ ((n : Int) ≤ i / 8) := by omega
    rw [h3] at HG1
    clear h3
    go_wp2_with (go_at_call 13; refine HG1.out.mono ?_; rintro e w9 ⟨rfl, rfl⟩)
    go_ret
    exact ⟨_, _, rfl, HBs.out, HB1.out⟩
theorem refset_any (A : Option Addr) (n c : Nat) (i : Int) (t : Bool) (b : List UInt8) (w : World) (hb : Bs w w.heap.size A n c b) (hn : n ≤ 4294967296) (h63 : i ≤ 9223372036854775807) :
    Calls Tryd.prog 16 #[.slice A n c, .int .i64 i, .bool t] w fun e w' => ∃ A' c', e = .returned (.slice A' n c') ∧ Bs w' w'.heap.size A' n c' (setI b i t) ∧ Below w.heap.size w w' := by
  have hl := hb.len
  by_cases h0 : 0 ≤ i
  · obtain ⟨k, rfl⟩ : ∃ k : Nat, i = k := ⟨i.toNat, by omega⟩
    by_cases hk : k < 8 * n
    · rw [setI_nat (by omega)]
      by_cases hg : gb b k = t
      · rw [setb_same hg]
        exact refset_same A n c k t b w hb hn h63 (.inr (.inr ⟨h0, by omega, by rw [gbI_nat]; exact hg⟩))
      · exact refset_flip A n c k t b w hb hk hn hg
    · rw [show setI b (k : Int) t = b by unfold setI; rw [if_neg (by omega)]]
      exact refset_same A n c k t b w hb hn h63 (.inr (.inl ⟨h0, by omega⟩))
  · rw [show setI b i t = b by unfold setI; rw [if_neg (by omega)]]
    exact refset_same A n c i t b w hb hn h63 (.inl (by omega))
end
end Go.Proofs.YtgkeckfiacdpkaaDoor
