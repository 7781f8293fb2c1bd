/- The law BitsAll. -/
import Derived.Test.YtgkeckfiacdpkaaDoorBtK
import Derived.Test.YtgkeckfiacdpkaaDoorBLFirst
import Derived.Deep.LoopGhost
namespace Go.Proofs.YtgkeckfiacdpkaaDoor
open Go.RowKit Go.Shelf

/-- a row in which the first j of the bits are taken -/
def Fst (l : List UInt8) (j : Nat) : Prop := ∀ i, i < 8 * l.length → gb l i = decide (i < j)
theorem fst_zero (m : Nat) : Fst (List.replicate m 0) 0 := fun i _ => by
  unfold gb
  rw [List.getD_eq_getElem?_getD, List.getElem?_replicate]
  split <;> simp
theorem fst_next {l : List UInt8} {j : Nat} (h : Fst l j) (hj : j < 8 * l.length) : Fst (setb l j true) (j + 1) := fun i hi => by
  rw [setb_length] at hi
  rw [gb_setb _ _ _ _ hj, h i hi]
  by_cases e : j = i
  · subst e; simp
  · rw [if_neg e]
    exact decide_eq_decide.2 (by omega)
theorem fst_free {l : List UInt8} {j k : Nat} (h : Fst l j) (hjk : j ≤ k) (hk : k ≤ 8 * l.length) : firstI (freeL l 0 k) = if j < k then (j : Int) else -1 := by
  by_cases hj : j < k
  · rw [if_pos hj]
    have e : freeL l 0 k = j :: (List.range k).filter fun i => (decide (0 ≤ i) && !gb l i) && decide (i ≠ j) := by
      unfold freeL pickL
      refine filter_first hj ?_ fun i hi => ?_
      · show (decide (0 ≤ j) && !gb l j) = true
        rw [h j (by omega)]; simp
      · show (decide (0 ≤ i) && !gb l i) = false
        rw [h i (by omega), decide_eq_true hi]; simp
    rw [e]; rfl
  · rw [if_neg hj]
    have e : freeL l 0 k = [] := List.filter_eq_nil_iff.2 fun i hi => by
      have := List.mem_range.1 hi
      show ¬ (decide (0 ≤ i) && !gb l i) = true
      rw [h i (by omega), decide_eq_true (show i < j by omega)]; simp
    rw [e]; rfl
theorem fst_full {l : List UInt8} {j k : Nat} (h : Fst l j) (hjk : j ≤ k) (hk : k ≤ 8 * l.length) : (fullL l 0 k).length = j := by
  have h1 : fullL l 0 k = (List.range k).filter fun i => decide (i < j) := by
    unfold fullL pickL
    apply List.filter_congr
    intro i hi
    have := List.mem_range.1 hi
    show (decide (0 ≤ i) && gb l i) = decide (i < j)
    rw [h i (by omega)]; simp
  rw [h1, show k = j + (k - j) by omega, List.range_add, List.filter_append, List.length_append, List.filter_eq_self.2 (fun i hi => decide_eq_true (List.mem_range.1 hi)),
    List.filter_eq_nil_iff.2 (fun i hi => by
      obtain ⟨a, _, rfl⟩ := List.mem_map.1 hi
      simp)]
  simp
/-- a row in which bits from i on, below k, are taken -/
def Lst (l : List UInt8) (i k : Nat) : Prop := ∀ j, j < 8 * l.length → gb l j = (decide (i ≤ j) && decide (j < k))
theorem lst_start {l : List UInt8} {k : Nat} (h : Fst l k) : Lst l 0 k := fun j hj => by rw [h j hj]; simp
theorem lst_next {l : List UInt8} {i k : Nat} (h : Lst l i k) (hi : i < 8 * l.length) : Lst (setb l i false) (i + 1) k := fun j hj => by
  rw [setb_length] at hj
  rw [gb_setb _ _ _ _ hi, h j hj]
  by_cases e : i = j
  · subst e
    rw [if_pos rfl, decide_eq_false (show ¬ i + 1 ≤ i by omega)]; rfl
  · rw [if_neg e]
    congr 1
    exact decide_eq_decide.2 (by omega)
theorem lst_done {l : List UInt8} {k : Nat} (h : Lst l k k) : l = List.replicate l.length 0 := by
  refine bits_ext (by simp) fun j hj => ?_
  rw [h j hj, (fst_zero l.length) j (by simpa using hj)]
  by_cases hk : k ≤ j
  · rw [decide_eq_false (show ¬ j < k by omega)]; simp
  · rw [decide_eq_false hk]; simp
section
set_option maxRecDepth 100000
set_option maxHeartbeats 2000000
theorem law_bitsAll (z1 : Int) (w : World) (hz1 : (Lit.int .u8 z1).wf = true) (hT : TabD w ∧ 0 < w.heap.size) :
    Calls Tryd.prog 6 #[.int .u8 z1] w fun e w' => e = .returned (.bool true) ∧ Below w.heap.size w w' := by
  have b1 := u8_b hz1
  obtain ⟨f, rfl⟩ := Int.eq_ofNat_of_zero_le b1.1
  have hf : f ≤ 255 := by omega
  clear hz1 b1
  have HT : Kp _ := ⟨hT.1⟩
  have HP : Kp _ := ⟨hT.2⟩
  have HBel : Kp (Below w.heap.size w w) := ⟨Below.refl _ _⟩
  obtain ⟨k, hk⟩ : ∃ k, k = f % 60 := ⟨_, rfl⟩
  have rk : (f : Int) % 60 = (k : Int) := by rw [hk]; rfl
  have hk60 : k < 60 := by omega
  obtain ⟨m, hm⟩ : ∃ m, m = (k + 7) / 8 := ⟨_, rfl⟩
  have hkm : k ≤ 8 * m := by omega
  have hm8 : m ≤ 8 := by omega
  have HW : Kp _ := ⟨fun X => wide_any (k : Int) X (by omega) (by omega)⟩
  rw [show ((k : Int).toNat + 7) / 8 = m by omega] at HW
  have rm : ((k : Int) + 7) / 8 = (m : Int) := by omega
  have hTk : hiN m (k : Int) = k := by unfold hiN; omega
  have hT8 : hiN m (8 * (m : Int)) = 8 * m := by unfold hiN; omega
  have HF : Kp (∀ (X : World) (A : Option Addr) (c : Nat) (l : List UInt8) (j : Nat), 0 < X.heap.size → TabD X → Bs X X.heap.size A m c l → Fst l j → j ≤ k → Calls Tryd.prog 17 #[.slice A m c, .int .i64 0, .int .i64 (k : Int)] X fun e X' => e = .returned (.int .i64 (if j < k then (j : Int) else -1)) ∧ Below X.heap.size X X') := ⟨fun X A c l j h1 h2 h3 h4 h5 => by
    have h9 := first_any A m c l 0 (k : Int) X h1 h2 h3 (by omega) (by omega) (by omega)
    rw [hTk, show (0 : Int).toNat = 0 from rfl, fst_free h4 h5 (by rw [h3.len]; exact hkm)] at h9
    exact h9⟩
  have HC : Kp (∀ (X : World) (A : Option Addr) (c : Nat) (l : List UInt8) (j : Nat), Bs X X.heap.size A m c l → Fst l j → j ≤ k → Calls Tryd.prog 20 #[.slice A m c, .int .i64 0, .int .i64 (k : Int)] X fun e X' => e = .returned (.int .i64 (j : Int)) ∧ Below X.heap.size X X') := ⟨fun X A c l j h3 h4 h5 => by
    have h9 := counts_any A m c l 0 (k : Int) X h3 (by omega) (by omega) (by omega)
    rw [hTk, show (0 : Int).toNat = 0 from rfl, fst_full h4 h5 (by rw [h3.len]; exact hkm)] at h9
    exact h9⟩
  have HC8 : Kp (∀ (X : World) (A : Option Addr) (c : Nat) (l : List UInt8), Bs X X.heap.size A m c l → Fst l k → Calls Tryd.prog 20 #[.slice A m c, .int .i64 0, .int .i64 (8 * (m : Int))] X fun e X' => e = .returned (.int .i64 (k : Int)) ∧ Below X.heap.size X X') := ⟨fun X A c l h3 h4 => by
    have h9 := counts_any A m c l 0 (8 * (m : Int)) X h3 (by omega) (by omega) (by omega)
    rw [hT8, show (0 : Int).toNat = 0 from rfl, fst_full h4 hkm (by rw [h3.len]; exact Nat.le_refl _)] at h9
    exact h9⟩
  clear hk hm hTk hT8
  go_enter Tryd.func6, Tryd.ntmps6
  go_wp2_with (first
    | (go_at_call 22; refine (HW.out _).mono ?_; rintro e x1 ⟨rfl, rfl⟩)
    | (with_reducible refine wpList_mk (o := ⟨some 12, _, _, _, _, _⟩) el8 rfl _ _ rfl 0 .i64 .i64 (m : Int) (m : Int) m rfl rfl rfl rfl (by omega) (by simp only [maxLen]; omega) (Nat.zero_le _) ?_))
  intro w5 hown hg
  have hb : Below x1.heap.size x1 w5 := (Below.refl _ _).grown hg (Nat.le_refl _) (by simp)
  rw [show List.replicate m (Value.int .u8 0) = cells8 (List.replicate m 0) by simp [cells8]] at hown
  obtain ⟨A0, c0, e0, hrow⟩ := Bs.of_own hown
  rw [e0]
  have HB : Kp _ := ⟨hrow⟩
  replace HT : Kp _ := ⟨HT.out.below hb HP.out⟩
  replace HP : Kp _ := ⟨Nat.lt_of_lt_of_le HP.out hb.size⟩
  replace HBel : Kp _ := ⟨HBel.out.trans (hb.mono HBel.out.size)⟩
  have HF0 : Kp _ := ⟨fst_zero m⟩
  have HL0 : Kp _ := ⟨List.length_replicate (n := m) (a := (0 : UInt8))⟩
  generalize List.replicate m (0 : UInt8) = l0 at *
  clear hown hg hb hrow e0 HW
  go_wp2
  go_loopg [4, 5] k (fun gk v4 v5 wr => ∃ (j : Nat) (A : Option Addr) (c : Nat) (l : List UInt8), j + gk = k ∧ v5 = .int .i64 (j : Int) ∧ v4 = .slice A m c ∧ Kp (Bs wr wr.heap.size A m c l) ∧ Kp (Fst l j) ∧ Kp (l.length = m) ∧ Kp (TabD wr) ∧ Kp (0 < wr.heap.size) ∧ Kp (Below x1.heap.size x1 wr))
  case atStart => exact ⟨0, A0, c0, l0, by omega, rfl, rfl, HB, HF0, HL0, HT, HP, HBel⟩
  case round =>
    clear HB HF0 HL0 HT HP HBel
    obtain ⟨j, A, c, l, hjk, rfl, rfl, HB, HFs, HLn, HT, HP, HBel⟩ := hrel
    cases gk with
    | zero =>
      have hend : ¬ ((j : Int) < (k : Int)) := by omega
      obtain rfl : j = k := by omega
      clear hjk
      have hcall := HF.out wr A c l j HP.out HT.out HB.out HFs.out (Nat.le_refl _)
      rw [if_neg (Nat.lt_irrefl _)] at hcall
      have HC1 : Kp _ := ⟨hcall⟩
      clear hcall
      go_wp2_with fail
      refine (HC1.out).mono ?_
      rintro e x21 ⟨rfl, hb⟩
      replace HB : Kp _ := ⟨HB.out.next hb (Nat.le_refl _)⟩
      replace HT : Kp _ := ⟨HT.out.below hb HP.out⟩
      replace HP : Kp _ := ⟨Nat.lt_of_lt_of_le HP.out hb.size⟩
      replace HBel : Kp _ := ⟨HBel.out.trans (hb.mono HBel.out.size)⟩
      clear hb
      clear HC1
      go_wp2_with fail
      refine (HC8.out _ _ _ _ HB.out HFs.out).mono ?_
      rintro e x22 ⟨rfl, hb⟩
      replace HB : Kp _ := ⟨HB.out.next hb (Nat.le_refl _)⟩
      replace HT : Kp _ := ⟨HT.out.below hb HP.out⟩
      replace HP : Kp _ := ⟨Nat.lt_of_lt_of_le HP.out hb.size⟩
      replace HBel : Kp _ := ⟨HBel.out.trans (hb.mono HBel.out.size)⟩
      clear hb
      go_wp2
      rw [rm]
      go_loopg [4, 6] j (fun gk v4 v6 wz => ∃ (i : Nat) (A : Option Addr) (c : Nat) (l : List UInt8), i + gk = j ∧ v6 = .int .i64 (i : Int) ∧ v4 = .slice A m c ∧ Kp (Bs wz wz.heap.size A m c l) ∧ Kp (Lst l i j) ∧ Kp (l.length = m) ∧ Kp (TabD wz) ∧ Kp (0 < wz.heap.size) ∧ Kp (Below x1.heap.size x1 wz))
      case atStart => exact ⟨0, A, c, l, by omega, rfl, rfl, HB, ⟨lst_start HFs.out⟩, HLn, HT, HP, HBel⟩
      case round =>
        clear HB HFs HLn HT HP HBel
        obtain ⟨i, A, c, l, hik, rfl, rfl, HB, HLs, HLn, HT, HP, HBel⟩ := hrel
        cases gk with
        | zero =>
          have hend2 : ¬ ((i : Int) < (j : Int)) := by omega
          have HE : Kp (l = List.replicate m 0) := ⟨by
            have h := HLs.out
            rw [show i = j by omega] at h
            have h2 := lst_done h
            rwa [HLn.out] at h2⟩
          clear hik HLs
          go_wp2_with (with_reducible refine wpList_mk (o := ⟨some 65, _, _, _, _, _⟩) el8 rfl _ _ rfl 0 .i64 .i64 (m : Int) (m : Int) m rfl rfl rfl rfl (by omega) (by simp only [maxLen]; omega) (Nat.zero_le _) ?_)
          intro w6 hown hg
          have hb : Below wr.heap.size wr w6 := (Below.refl _ _).grown hg (Nat.le_refl _) (by simp)
          rw [show List.replicate m (Value.int .u8 0) = cells8 (List.replicate m 0) by simp [cells8]] at hown
          obtain ⟨A7, c7, e7, hrow⟩ := Bs.of_own hown
          rw [e7]
          have HZ7 : Kp _ := ⟨hrow⟩
          replace HB : Kp _ := ⟨HB.out.next hb (Nat.le_refl _)⟩
          replace HT : Kp _ := ⟨HT.out.below hb HP.out⟩
          replace HP : Kp _ := ⟨Nat.lt_of_lt_of_le HP.out hb.size⟩
          replace HBel : Kp _ := ⟨HBel.out.trans (hb.mono HBel.out.size)⟩
          clear hb
          clear hown hg hrow e7
          rw [← HE.out] at HZ7
          have hcall := same_any A A7 m c m c7 _ _ _ _ _ HB.out HZ7.out
          rw [beq_self_eq_true] at hcall
          have HCl : Kp _ := ⟨hcall⟩
          clear hcall
          go_wp2_with fail
          refine (HCl.out).mono ?_
          rintro e x51 ⟨rfl, rfl⟩
          go_wp2_with fail
          refine (known12_any _ HP.out HT.out).mono ?_
          rintro e x52 ⟨rfl, hb⟩
          replace HB : Kp _ := ⟨HB.out.next hb (Nat.le_refl _)⟩
          replace HZ7 : Kp _ := ⟨HZ7.out.next hb (Nat.le_refl _)⟩
          replace HT : Kp _ := ⟨HT.out.below hb HP.out⟩
          replace HP : Kp _ := ⟨Nat.lt_of_lt_of_le HP.out hb.size⟩
          replace HBel : Kp _ := ⟨HBel.out.trans (hb.mono HBel.out.size)⟩
          clear hb
          go_wp2
          go_ret
          exact ⟨rfl, HBel.out⟩
        | succ g3 =>
          have hgo2 : (i : Int) < (j : Int) := by omega
          have HNx : Kp (Lst (setI l (i : Int) false) (i + 1) j) := ⟨by rw [setI_nat (by rw [HLn.out]; omega)]; exact lst_next HLs.out (by rw [HLn.out]; omega)⟩
          have HLx : Kp ((setI l (i : Int) false).length = m) := ⟨by rw [setI_length]; exact HLn.out⟩
          have HCl : Kp _ := ⟨set_any A m c (i : Int) false l _ HB.out (by omega) (by omega)⟩
          clear HLs
          go_wp2_with fail
          refine (HCl.out).mono ?_
          rintro e x41 ⟨As9, cs9, rfl, hrow, hb⟩
          replace HB : Kp _ := ⟨HB.out.next hb (Nat.le_refl _)⟩
          replace HT : Kp _ := ⟨HT.out.below hb HP.out⟩
          replace HP : Kp _ := ⟨Nat.lt_of_lt_of_le HP.out hb.size⟩
          replace HBel : Kp _ := ⟨HBel.out.trans (hb.mono HBel.out.size)⟩
          clear hb
          have Hs9 : Kp _ := ⟨hrow⟩
          clear hrow HCl HB
          go_wp2
          go_roundg g3
          case measure => omega
          case rel => exact ⟨i + 1, As9, cs9, _, by omega, by go_num, rfl, Hs9, HNx, HLx, HT, HP, HBel⟩
    | succ g2 =>
      have hgo : (j : Int) < (k : Int) := by omega
      have hjk' : j < k := by omega
      have HNx : Kp (Fst (setI l (j : Int) true) (j + 1)) := ⟨by rw [setI_nat (by rw [HLn.out]; omega)]; exact fst_next HFs.out (by rw [HLn.out]; omega)⟩
      have HLx : Kp ((setI l (j : Int) true).length = m) := ⟨by rw [setI_length]; exact HLn.out⟩
      have hcall := HF.out wr A c l j HP.out HT.out HB.out HFs.out (by omega)
      rw [if_pos hjk'] at hcall
      have HC1 : Kp _ := ⟨hcall⟩
      clear hcall
      go_wp2_with fail
      refine (HC1.out).mono ?_
      rintro e x31 ⟨rfl, hb⟩
      replace HB : Kp _ := ⟨HB.out.next hb (Nat.le_refl _)⟩
      replace HT : Kp _ := ⟨HT.out.below hb HP.out⟩
      replace HP : Kp _ := ⟨Nat.lt_of_lt_of_le HP.out hb.size⟩
      replace HBel : Kp _ := ⟨HBel.out.trans (hb.mono HBel.out.size)⟩
      clear hb
      clear HC1
      go_wp2_with fail
      refine (HC.out _ _ _ _ _ HB.out HFs.out (by omega)).mono ?_
      rintro e x32 ⟨rfl, hb⟩
      replace HB : Kp _ := ⟨HB.out.next hb (Nat.le_refl _)⟩
      replace HT : Kp _ := ⟨HT.out.below hb HP.out⟩
      replace HP : Kp _ := ⟨Nat.lt_of_lt_of_le HP.out hb.size⟩
      replace HBel : Kp _ := ⟨HBel.out.trans (hb.mono HBel.out.size)⟩
      clear hb
      have HCl : Kp _ := ⟨set_any A m c (j : Int) true l _ HB.out (by omega) (by omega)⟩
      go_wp2_with fail
      refine (HCl.out).mono ?_
      rintro e x33 ⟨As8, cs8, rfl, hrow, hb⟩
      replace HB : Kp _ := ⟨HB.out.next hb (Nat.le_refl _)⟩
      replace HT : Kp _ := ⟨HT.out.below hb HP.out⟩
      replace HP : Kp _ := ⟨Nat.lt_of_lt_of_le HP.out hb.size⟩
      replace HBel : Kp _ := ⟨HBel.out.trans (hb.mono HBel.out.size)⟩
      clear hb
      have Hs8 : Kp _ := ⟨hrow⟩
      clear hrow HCl HB
      go_wp2
      go_roundg g2
      case measure => omega
      case rel => exact ⟨j + 1, As8, cs8, _, by omega, by go_num, rfl, Hs8, HNx, HLx, HT, HP, HBel⟩
end
end Go.Proofs.YtgkeckfiacdpkaaDoor
