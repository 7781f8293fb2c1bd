/- The law BitsFirst. -/
import Derived.Test.YtgkeckfiacdpkaaDoorBtK
import Derived.Deep.LoopGhost
namespace Go.Proofs.YtgkeckfiacdpkaaDoor
open Go.RowKit Go.Shelf

theorem sorted_first {b : List UInt8} {F T i : Nat} {r : List Nat} (h : freeL b F T = i :: r) : i < T ∧ F ≤ i ∧ gb b i = false ∧ ∀ j, F ≤ j → j < i → gb b j = true := by
  have hm : i ∈ freeL b F T := by rw [h]; simp
  obtain ⟨h1, h2, h3⟩ := pick_mem.1 hm
  refine ⟨h1, h2, by simpa using h3, fun j hj hji => ?_⟩
  cases hg : gb b j with
  | true => rfl
  | false =>
    have hjm : j ∈ freeL b F T := pick_mem.2 ⟨by omega, hj, by simp [hg]⟩
    have hp : (freeL b F T).Pairwise (· < ·) := List.Pairwise.filter _ List.pairwise_lt_range
    rw [h] at hjm hp
    rcases List.mem_cons.1 hjm with e | e
    · omega
    · have := (List.pairwise_cons.1 hp).1 j e
      omega
theorem none_first {b : List UInt8} {F T : Nat} (h : freeL b F T = []) : ∀ j, F ≤ j → j < T → gb b j = true := fun j hj hjt => by
  cases hg : gb b j with
  | true => rfl
  | false =>
    have hjm : j ∈ freeL b F T := pick_mem.2 ⟨hjt, hj, by simp [hg]⟩
    rw [h] at hjm
    cases hjm
section
set_option maxRecDepth 100000
set_option maxHeartbeats 2000000
theorem law_bitsFirst (A : Option Addr) (n c : Nat) (b : List UInt8) (z2 z3 z4 : Int) (w : World) (ha' : Bs w w.heap.size A n c b ∧ c ≤ 140737488351232) (hz2 : (Lit.int .i64 z2).wf = true) (hz3 : (Lit.int .i64 z3).wf = true) (hz4 : (Lit.int .i64 z4).wf = true) (hT : TabD w ∧ 0 < w.heap.size) :
    Calls Tryd.prog 7 #[.slice A n c, .int .i64 z2, .int .i64 z3, .int .i64 z4] w fun e w' => e = .returned (.bool true) ∧ Below w.heap.size w w' := by
  obtain ⟨ha, _⟩ := ha'
  have HB : Kp _ := ⟨ha⟩
  have HLn : Kp (b.length = n) := ⟨ha.len⟩
  have b2 := i64_b hz2
  have b3 := i64_b hz3
  have b4 := i64_b hz4
  clear hz2 hz3 hz4 ha
  have HT : Kp _ := ⟨hT.1⟩
  have HP : Kp _ := ⟨hT.2⟩
  have HBel : Kp (Below w.heap.size w w) := ⟨Below.refl _ _⟩
  by_cases hbig : 100 < n
  · have hbd : decide (100 < (n : Int)) = true := decide_eq_true (by omega)
    go_enter Tryd.func7, Tryd.ntmps7
    go_wp2_with fail
    refine (known12_any _ HP.out HT.out).mono ?_
    rintro e x1 ⟨rfl, hb⟩
    replace HT : Kp _ := ⟨HT.out.below hb HP.out⟩
    replace HP : Kp _ := ⟨Nat.lt_of_lt_of_le HP.out hb.size⟩
    replace HBel : Kp _ := ⟨HBel.out.trans (hb.mono HBel.out.size)⟩
    clear hb
    go_wp2
    go_ret
    exact ⟨rfl, HBel.out⟩
  have hn : n ≤ 100 := by omega
  have hbd : decide (100 < (n : Int)) = false := decide_eq_false (by omega)
  have HF1 : Kp _ := ⟨fun (X : World) (h1 : 0 < X.heap.size) (h2 : TabD X) (h3 : Bs X X.heap.size A n c b) => first_any A n c b z2 z3 X h1 h2 h3 (by omega) b2.2 b3.2⟩
  have HGj : Kp (∀ (j : Nat) (X : World), Bs X X.heap.size A n c b → j < 8 * n → gb b j = true → Calls Tryd.prog 12 #[.slice A n c, .int .i64 (j : Int)] X fun e X' => e = .returned (.bool true) ∧ ∃ m, X' = X.drewN m) := ⟨fun j X h3 hj hg => by
    have h := get_nat A n c j b X _ h3 (by omega)
    rwa [hg] at h⟩
  have HGk : Kp (∀ (j : Nat) (X : World), Bs X X.heap.size A n c b → j < 8 * n → gb b j = false → Calls Tryd.prog 12 #[.slice A n c, .int .i64 (j : Int)] X fun e X' => e = .returned (.bool false) ∧ ∃ m, X' = X.drewN m) := ⟨fun j X h3 hj hg => by
    have h := get_nat A n c j b X _ h3 (by omega)
    rwa [hg] at h⟩
  have HGi : Kp ((z4 < 0 ∨ 8 * (n : Int) ≤ z4) → ∀ (X : World), Bs X X.heap.size A n c b → Calls Tryd.prog 12 #[.slice A n c, .int .i64 z4] X fun e X' => e = .returned (.bool false) ∧ ∃ m, X' = X.drewN m) := ⟨fun hz X h3 => by
    have h := get_any A n c z4 b X _ h3 b4.2
    rwa [show gbI b z4 = false by
      unfold gbI
      by_cases h0 : 0 ≤ z4
      · rw [gb_none (by rw [HLn.out]; omega)]; simp
      · rw [decide_eq_false h0]; rfl] at h⟩
  have HSi : Kp ((z4 < 0 ∨ 8 * (n : Int) ≤ z4) → ∀ (X : World), Bs X X.heap.size A n c b → Calls Tryd.prog 15 #[.slice A n c, .int .i64 z4, .bool true] X fun e X' => ∃ A' c', e = .returned (.slice A' n c') ∧ Bs X' X'.heap.size A' n c' b ∧ Below X.heap.size X X') := ⟨fun hz X h3 => by
    have h := set_any A n c z4 true b X h3 (by omega) b4.2
    rwa [show setI b z4 true = b by unfold setI; rw [if_neg (by rw [HLn.out]; omega)]] at h⟩
  obtain ⟨F, hF⟩ : ∃ F, F = z2.toNat := ⟨_, rfl⟩
  obtain ⟨T, hT'⟩ : ∃ T, T = hiN n z3 := ⟨_, rfl⟩
  rw [← hF, ← hT'] at HF1
  have hT8 : T ≤ 8 * n := by rw [hT']; unfold hiN; omega
  have hTv : (T : Int) = max 0 (min z3 (8 * n)) := by rw [hT']; unfold hiN; omega
  have hcF : (z2 < 0 ∧ F = 0) ∨ (0 ≤ z2 ∧ z2 = (F : Int)) := by omega
  have hcT : z3 ≤ 8 * (n : Int) ∨ 8 * (n : Int) < z3 := by omega
  clear hF hT' b2 b3
  cases hL : freeL b F T with
  | cons i0 r =>
    obtain ⟨g1, g2, g3, g4⟩ := sorted_first hL
    rw [hL] at HF1
    have HAll : Kp (∀ j : Nat, F ≤ j → (j : Int) < (i0 : Int) → gb b j = true) := ⟨fun j h1 h2 => g4 j h1 (by omega)⟩
    have HG0 : Kp _ := ⟨fun (X : World) (h3 : Bs X X.heap.size A n c b) => HGk.out i0 X h3 (by omega) g3⟩
    have HFi : Kp (∀ (X : World), 0 < X.heap.size → TabD X → Bs X X.heap.size A n c b → Calls Tryd.prog 17 #[.slice A n c, .int .i64 z2, .int .i64 z3] X fun e X' => e = .returned (.int .i64 (i0 : Int)) ∧ Below X.heap.size X X') := ⟨HF1.out⟩
    have hk0 : ¬ ((i0 : Int) < (F : Int)) := by omega
    clear hL g3 g4 HF1 HGk
    rcases hcF with ⟨hf, rfl⟩ | ⟨hf, rfl⟩
    · rcases hcT with ht | ht
      · have hdum : True := trivial
        have hk1 : ¬ (z3 ≤ (i0 : Int)) := by omega
        have hk2 : (i0 : Int) < z3 := by omega
        clear hTv
        go_enter Tryd.func7, Tryd.ntmps7
        go_wp2_with fail
        refine (HFi.out _ HP.out HT.out HB.out).mono ?_
        rintro e x1 ⟨rfl, hb⟩
        replace HB : Kp _ := ⟨HB.out.next hb (Nat.le_refl _)⟩
        replace HT : Kp _ := ⟨HT.out.below hb HP.out⟩
        replace HP : Kp _ := ⟨Nat.lt_of_lt_of_le HP.out hb.size⟩
        replace HBel : Kp _ := ⟨HBel.out.trans (hb.mono HBel.out.size)⟩
        clear hb
        go_wp2_with fail
        refine (HG0.out _ HB.out).mono ?_
        rintro e x2 ⟨rfl, mD, rfl⟩
        have hb := below_drewN x1 x1.heap.size mD
        replace HB : Kp _ := ⟨HB.out.next hb (Nat.le_refl _)⟩
        replace HT : Kp _ := ⟨HT.out.below hb HP.out⟩
        replace HP : Kp _ := ⟨Nat.lt_of_lt_of_le HP.out hb.size⟩
        replace HBel : Kp _ := ⟨HBel.out.trans (hb.mono HBel.out.size)⟩
        clear hb
        generalize x1.drewN mD = x2 at *
        go_wp2
        go_loopg [13] (i0 - 0) (fun gk v13 wr => ∃ j : Nat, v13 = .int .i64 (j : Int) ∧ Kp (0 ≤ j) ∧ Kp ((gk : Int) = max 0 ((i0 : Int) - (j : Int))) ∧ Kp (TabD wr) ∧ Kp (0 < wr.heap.size) ∧ Kp (Below w.heap.size w wr) ∧ Kp (Bs wr wr.heap.size A n c b))
        case atStart => exact ⟨0, rfl, ⟨Nat.le_refl _⟩, ⟨by omega⟩, HT, HP, HBel, HB⟩
        case round =>
          clear HT HP HBel HB
          obtain ⟨j, rfl, HFj, HGk, HT, HP, HBel, HB⟩ := hrel
          by_cases hj : (j : Int) < (i0 : Int)
          · have hjd : decide ((j : Int) < (i0 : Int)) = true := decide_eq_true hj
            have hj8 : j < 8 * n := by omega
            have HGt : Kp _ := ⟨HGj.out j wr HB.out hj8 (HAll.out j HFj.out hj)⟩
            have HGn : Kp ((gk : Int) - 1 = max 0 ((i0 : Int) - ((j + 1 : Nat) : Int)) ∧ 0 < gk) := ⟨by have := HGk.out; omega⟩
            clear HGk
            go_wp2_with fail
            refine HGt.out.mono ?_
            rintro e x90 ⟨rfl, mD, rfl⟩
            have hb := below_drewN wr wr.heap.size mD
            replace HB : Kp _ := ⟨HB.out.next hb (Nat.le_refl _)⟩
            replace HT : Kp _ := ⟨HT.out.below hb HP.out⟩
            replace HP : Kp _ := ⟨Nat.lt_of_lt_of_le HP.out hb.size⟩
            replace HBel : Kp _ := ⟨HBel.out.trans (hb.mono HBel.out.size)⟩
            clear hb HGt
            generalize wr.drewN mD = x91 at *
            go_wp2
            go_roundg (gk - 1)
            case measure => have := HGn.out.2; omega
            case rel => exact ⟨j + 1, by go_num, ⟨by have := HFj.out; omega⟩, ⟨by have := HGn.out; omega⟩, HT, HP, HBel, HB⟩
          · have hjd : decide ((j : Int) < (i0 : Int)) = false := decide_eq_false hj
            clear HGk HFj
            by_cases hz0 : 0 ≤ z4
            · by_cases hz8 : z4 < 8 * (n : Int)
              · have hzd : decide (z4 < 8 * (n : Int)) = true := decide_eq_true hz8
                go_wp2_with fail
                refine (known12_any _ HP.out HT.out).mono ?_
                rintro e x51 ⟨rfl, hb⟩
                replace HB : Kp _ := ⟨HB.out.next hb (Nat.le_refl _)⟩
                replace HT : Kp _ := ⟨HT.out.below hb HP.out⟩
                replace HP : Kp _ := ⟨Nat.lt_of_lt_of_le HP.out hb.size⟩
                replace HBel : Kp _ := ⟨HBel.out.trans (hb.mono HBel.out.size)⟩
                clear hb
                go_wp2
                go_ret
                exact ⟨rfl, HBel.out⟩
              · have hzd : decide (z4 < 8 * (n : Int)) = false := decide_eq_false hz8
                have HGi' : Kp _ := ⟨HGi.out (by omega)⟩
                have HSi' : Kp _ := ⟨HSi.out (by omega)⟩
                clear HGi HSi
                go_wp2_with fail
                refine (HGi'.out _ HB.out).mono ?_
                rintro e x51 ⟨rfl, mD, rfl⟩
                have hb := below_drewN wr wr.heap.size mD
                replace HB : Kp _ := ⟨HB.out.next hb (Nat.le_refl _)⟩
                replace HT : Kp _ := ⟨HT.out.below hb HP.out⟩
                replace HP : Kp _ := ⟨Nat.lt_of_lt_of_le HP.out hb.size⟩
                replace HBel : Kp _ := ⟨HBel.out.trans (hb.mono HBel.out.size)⟩
                clear hb
                generalize wr.drewN mD = x51 at *
                go_wp2_with fail
                refine (HSi'.out _ HB.out).mono ?_
                rintro e x52 ⟨A9, c9, rfl, hrow, hb⟩
                replace HB : Kp _ := ⟨HB.out.next hb (Nat.le_refl _)⟩
                replace HT : Kp _ := ⟨HT.out.below hb HP.out⟩
                replace HP : Kp _ := ⟨Nat.lt_of_lt_of_le HP.out hb.size⟩
                replace HBel : Kp _ := ⟨HBel.out.trans (hb.mono HBel.out.size)⟩
                clear hb
                have H9 : Kp _ := ⟨hrow⟩
                clear hrow
                have hcall := same_any A9 A n c9 n c _ _ _ _ _ H9.out HB.out
                rw [beq_self_eq_true] at hcall
                have HCl : Kp _ := ⟨hcall⟩
                clear hcall
                go_wp2_with fail
                refine (HCl.out).mono ?_
                rintro e x53 ⟨rfl, rfl⟩
                go_wp2_with fail
                refine (known12_any _ HP.out HT.out).mono ?_
                rintro e x54 ⟨rfl, hb⟩
                replace HB : Kp _ := ⟨HB.out.next hb (Nat.le_refl _)⟩
                replace H9 : Kp _ := ⟨H9.out.next hb (Nat.le_refl _)⟩
                replace HT : Kp _ := ⟨HT.out.below hb HP.out⟩
                replace HP : Kp _ := ⟨Nat.lt_of_lt_of_le HP.out hb.size⟩
                replace HBel : Kp _ := ⟨HBel.out.trans (hb.mono HBel.out.size)⟩
                clear hb
                go_wp2
                go_ret
                exact ⟨rfl, HBel.out⟩
            · have hz1 : z4 < 0 := by omega
              have HGi' : Kp _ := ⟨HGi.out (by omega)⟩
              have HSi' : Kp _ := ⟨HSi.out (by omega)⟩
              clear HGi HSi
              go_wp2_with fail
              refine (HGi'.out _ HB.out).mono ?_
              rintro e x51 ⟨rfl, mD, rfl⟩
              have hb := below_drewN wr wr.heap.size mD
              replace HB : Kp _ := ⟨HB.out.next hb (Nat.le_refl _)⟩
              replace HT : Kp _ := ⟨HT.out.below hb HP.out⟩
              replace HP : Kp _ := ⟨Nat.lt_of_lt_of_le HP.out hb.size⟩
              replace HBel : Kp _ := ⟨HBel.out.trans (hb.mono HBel.out.size)⟩
              clear hb
              generalize wr.drewN mD = x51 at *
              go_wp2_with fail
              refine (HSi'.out _ HB.out).mono ?_
              rintro e x52 ⟨A9, c9, rfl, hrow, hb⟩
              replace HB : Kp _ := ⟨HB.out.next hb (Nat.le_refl _)⟩
              replace HT : Kp _ := ⟨HT.out.below hb HP.out⟩
              replace HP : Kp _ := ⟨Nat.lt_of_lt_of_le HP.out hb.size⟩
              replace HBel : Kp _ := ⟨HBel.out.trans (hb.mono HBel.out.size)⟩
              clear hb
              have H9 : Kp _ := ⟨hrow⟩
              clear hrow
              have hcall := same_any A9 A n c9 n c _ _ _ _ _ H9.out HB.out
              rw [beq_self_eq_true] at hcall
              have HCl : Kp _ := ⟨hcall⟩
              clear hcall
              go_wp2_with fail
              refine (HCl.out).mono ?_
              rintro e x53 ⟨rfl, rfl⟩
              go_wp2_with fail
              refine (known12_any _ HP.out HT.out).mono ?_
              rintro e x54 ⟨rfl, hb⟩
              replace HB : Kp _ := ⟨HB.out.next hb (Nat.le_refl _)⟩
              replace H9 : Kp _ := ⟨H9.out.next hb (Nat.le_refl _)⟩
              replace HT : Kp _ := ⟨HT.out.below hb HP.out⟩
              replace HP : Kp _ := ⟨Nat.lt_of_lt_of_le HP.out hb.size⟩
              replace HBel : Kp _ := ⟨HBel.out.trans (hb.mono HBel.out.size)⟩
              clear hb
              go_wp2
              go_ret
              exact ⟨rfl, HBel.out⟩
      · have hdum : True := trivial
        have hk1 : ¬ ((8 * (n : Int)) ≤ (i0 : Int)) := by omega
        have hk2 : (i0 : Int) < (8 * (n : Int)) := by omega
        clear hTv
        go_enter Tryd.func7, Tryd.ntmps7
        go_wp2_with fail
        refine (HFi.out _ HP.out HT.out HB.out).mono ?_
        rintro e x1 ⟨rfl, hb⟩
        replace HB : Kp _ := ⟨HB.out.next hb (Nat.le_refl _)⟩
        replace HT : Kp _ := ⟨HT.out.below hb HP.out⟩
        replace HP : Kp _ := ⟨Nat.lt_of_lt_of_le HP.out hb.size⟩
        replace HBel : Kp _ := ⟨HBel.out.trans (hb.mono HBel.out.size)⟩
        clear hb
        go_wp2_with fail
        refine (HG0.out _ HB.out).mono ?_
        rintro e x2 ⟨rfl, mD, rfl⟩
        have hb := below_drewN x1 x1.heap.size mD
        replace HB : Kp _ := ⟨HB.out.next hb (Nat.le_refl _)⟩
        replace HT : Kp _ := ⟨HT.out.below hb HP.out⟩
        replace HP : Kp _ := ⟨Nat.lt_of_lt_of_le HP.out hb.size⟩
        replace HBel : Kp _ := ⟨HBel.out.trans (hb.mono HBel.out.size)⟩
        clear hb
        generalize x1.drewN mD = x2 at *
        go_wp2
        go_loopg [13] (i0 - 0) (fun gk v13 wr => ∃ j : Nat, v13 = .int .i64 (j : Int) ∧ Kp (0 ≤ j) ∧ Kp ((gk : Int) = max 0 ((i0 : Int) - (j : Int))) ∧ Kp (TabD wr) ∧ Kp (0 < wr.heap.size) ∧ Kp (Below w.heap.size w wr) ∧ Kp (Bs wr wr.heap.size A n c b))
        case atStart => exact ⟨0, rfl, ⟨Nat.le_refl _⟩, ⟨by omega⟩, HT, HP, HBel, HB⟩
        case round =>
          clear HT HP HBel HB
          obtain ⟨j, rfl, HFj, HGk, HT, HP, HBel, HB⟩ := hrel
          by_cases hj : (j : Int) < (i0 : Int)
          · have hjd : decide ((j : Int) < (i0 : Int)) = true := decide_eq_true hj
            have hj8 : j < 8 * n := by omega
            have HGt : Kp _ := ⟨HGj.out j wr HB.out hj8 (HAll.out j HFj.out hj)⟩
            have HGn : Kp ((gk : Int) - 1 = max 0 ((i0 : Int) - ((j + 1 : Nat) : Int)) ∧ 0 < gk) := ⟨by have := HGk.out; omega⟩
            clear HGk
            go_wp2_with fail
            refine HGt.out.mono ?_
            rintro e x90 ⟨rfl, mD, rfl⟩
            have hb := below_drewN wr wr.heap.size mD
            replace HB : Kp _ := ⟨HB.out.next hb (Nat.le_refl _)⟩
            replace HT : Kp _ := ⟨HT.out.below hb HP.out⟩
            replace HP : Kp _ := ⟨Nat.lt_of_lt_of_le HP.out hb.size⟩
            replace HBel : Kp _ := ⟨HBel.out.trans (hb.mono HBel.out.size)⟩
            clear hb HGt
            generalize wr.drewN mD = x91 at *
            go_wp2
            go_roundg (gk - 1)
            case measure => have := HGn.out.2; omega
            case rel => exact ⟨j + 1, by go_num, ⟨by have := HFj.out; omega⟩, ⟨by have := HGn.out; omega⟩, HT, HP, HBel, HB⟩
          · have hjd : decide ((j : Int) < (i0 : Int)) = false := decide_eq_false hj
            clear HGk HFj
            by_cases hz0 : 0 ≤ z4
            · by_cases hz8 : z4 < 8 * (n : Int)
              · have hzd : decide (z4 < 8 * (n : Int)) = true := decide_eq_true hz8
                go_wp2_with fail
                refine (known12_any _ HP.out HT.out).mono ?_
                rintro e x51 ⟨rfl, hb⟩
                replace HB : Kp _ := ⟨HB.out.next hb (Nat.le_refl _)⟩
                replace HT : Kp _ := ⟨HT.out.below hb HP.out⟩
                replace HP : Kp _ := ⟨Nat.lt_of_lt_of_le HP.out hb.size⟩
                replace HBel : Kp _ := ⟨HBel.out.trans (hb.mono HBel.out.size)⟩
                clear hb
                go_wp2
                go_ret
                exact ⟨rfl, HBel.out⟩
              · have hzd : decide (z4 < 8 * (n : Int)) = false := decide_eq_false hz8
                have HGi' : Kp _ := ⟨HGi.out (by omega)⟩
                have HSi' : Kp _ := ⟨HSi.out (by omega)⟩
                clear HGi HSi
                go_wp2_with fail
                refine (HGi'.out _ HB.out).mono ?_
                rintro e x51 ⟨rfl, mD, rfl⟩
                have hb := below_drewN wr wr.heap.size mD
                replace HB : Kp _ := ⟨HB.out.next hb (Nat.le_refl _)⟩
                replace HT : Kp _ := ⟨HT.out.below hb HP.out⟩
                replace HP : Kp _ := ⟨Nat.lt_of_lt_of_le HP.out hb.size⟩
                replace HBel : Kp _ := ⟨HBel.out.trans (hb.mono HBel.out.size)⟩
                clear hb
                generalize wr.drewN mD = x51 at *
                go_wp2_with fail
                refine (HSi'.out _ HB.out).mono ?_
                rintro e x52 ⟨A9, c9, rfl, hrow, hb⟩
                replace HB : Kp _ := ⟨HB.out.next hb (Nat.le_refl _)⟩
                replace HT : Kp _ := ⟨HT.out.below hb HP.out⟩
                replace HP : Kp _ := ⟨Nat.lt_of_lt_of_le HP.out hb.size⟩
                replace HBel : Kp _ := ⟨HBel.out.trans (hb.mono HBel.out.size)⟩
                clear hb
                have H9 : Kp _ := ⟨hrow⟩
                clear hrow
                have hcall := same_any A9 A n c9 n c _ _ _ _ _ H9.out HB.out
                rw [beq_self_eq_true] at hcall
                have HCl : Kp _ := ⟨hcall⟩
                clear hcall
                go_wp2_with fail
                refine (HCl.out).mono ?_
                rintro e x53 ⟨rfl, rfl⟩
                go_wp2_with fail
                refine (known12_any _ HP.out HT.out).mono ?_
                rintro e x54 ⟨rfl, hb⟩
                replace HB : Kp _ := ⟨HB.out.next hb (Nat.le_refl _)⟩
                replace H9 : Kp _ := ⟨H9.out.next hb (Nat.le_refl _)⟩
                replace HT : Kp _ := ⟨HT.out.below hb HP.out⟩
                replace HP : Kp _ := ⟨Nat.lt_of_lt_of_le HP.out hb.size⟩
                replace HBel : Kp _ := ⟨HBel.out.trans (hb.mono HBel.out.size)⟩
                clear hb
                go_wp2
                go_ret
                exact ⟨rfl, HBel.out⟩
            · have hz1 : z4 < 0 := by omega
              have HGi' : Kp _ := ⟨HGi.out (by omega)⟩
              have HSi' : Kp _ := ⟨HSi.out (by omega)⟩
              clear HGi HSi
              go_wp2_with fail
              refine (HGi'.out _ HB.out).mono ?_
              rintro e x51 ⟨rfl, mD, rfl⟩
              have hb := below_drewN wr wr.heap.size mD
              replace HB : Kp _ := ⟨HB.out.next hb (Nat.le_refl _)⟩
              replace HT : Kp _ := ⟨HT.out.below hb HP.out⟩
              replace HP : Kp _ := ⟨Nat.lt_of_lt_of_le HP.out hb.size⟩
              replace HBel : Kp _ := ⟨HBel.out.trans (hb.mono HBel.out.size)⟩
              clear hb
              generalize wr.drewN mD = x51 at *
              go_wp2_with fail
              refine (HSi'.out _ HB.out).mono ?_
              rintro e x52 ⟨A9, c9, rfl, hrow, hb⟩
              replace HB : Kp _ := ⟨HB.out.next hb (Nat.le_refl _)⟩
              replace HT : Kp _ := ⟨HT.out.below hb HP.out⟩
              replace HP : Kp _ := ⟨Nat.lt_of_lt_of_le HP.out hb.size⟩
              replace HBel : Kp _ := ⟨HBel.out.trans (hb.mono HBel.out.size)⟩
              clear hb
              have H9 : Kp _ := ⟨hrow⟩
              clear hrow
              have hcall := same_any A9 A n c9 n c _ _ _ _ _ H9.out HB.out
              rw [beq_self_eq_true] at hcall
              have HCl : Kp _ := ⟨hcall⟩
              clear hcall
              go_wp2_with fail
              refine (HCl.out).mono ?_
              rintro e x53 ⟨rfl, rfl⟩
              go_wp2_with fail
              refine (known12_any _ HP.out HT.out).mono ?_
              rintro e x54 ⟨rfl, hb⟩
              replace HB : Kp _ := ⟨HB.out.next hb (Nat.le_refl _)⟩
              replace H9 : Kp _ := ⟨H9.out.next hb (Nat.le_refl _)⟩
              replace HT : Kp _ := ⟨HT.out.below hb HP.out⟩
              replace HP : Kp _ := ⟨Nat.lt_of_lt_of_le HP.out hb.size⟩
              replace HBel : Kp _ := ⟨HBel.out.trans (hb.mono HBel.out.size)⟩
              clear hb
              go_wp2
              go_ret
              exact ⟨rfl, HBel.out⟩
    · rcases hcT with ht | ht
      · have hdum : True := trivial
        have hk1 : ¬ (z3 ≤ (i0 : Int)) := by omega
        have hk2 : (i0 : Int) < z3 := by omega
        have hk0d : decide (i0 < F) = false := decide_eq_false (by omega)
        clear hTv
        go_enter Tryd.func7, Tryd.ntmps7
        go_wp2_with fail
        refine (HFi.out _ HP.out HT.out HB.out).mono ?_
        rintro e x1 ⟨rfl, hb⟩
        replace HB : Kp _ := ⟨HB.out.next hb (Nat.le_refl _)⟩
        replace HT : Kp _ := ⟨HT.out.below hb HP.out⟩
        replace HP : Kp _ := ⟨Nat.lt_of_lt_of_le HP.out hb.size⟩
        replace HBel : Kp _ := ⟨HBel.out.trans (hb.mono HBel.out.size)⟩
        clear hb
        go_wp2_with fail
        refine (HG0.out _ HB.out).mono ?_
        rintro e x2 ⟨rfl, mD, rfl⟩
        have hb := below_drewN x1 x1.heap.size mD
        replace HB : Kp _ := ⟨HB.out.next hb (Nat.le_refl _)⟩
        replace HT : Kp _ := ⟨HT.out.below hb HP.out⟩
        replace HP : Kp _ := ⟨Nat.lt_of_lt_of_le HP.out hb.size⟩
        replace HBel : Kp _ := ⟨HBel.out.trans (hb.mono HBel.out.size)⟩
        clear hb
        generalize x1.drewN mD = x2 at *
        go_wp2
        go_loopg [13] (i0 - F) (fun gk v13 wr => ∃ j : Nat, v13 = .int .i64 (j : Int) ∧ Kp (F ≤ j) ∧ Kp ((gk : Int) = max 0 ((i0 : Int) - (j : Int))) ∧ Kp (TabD wr) ∧ Kp (0 < wr.heap.size) ∧ Kp (Below w.heap.size w wr) ∧ Kp (Bs wr wr.heap.size A n c b))
        case atStart => exact ⟨F, rfl, ⟨Nat.le_refl _⟩, ⟨by omega⟩, HT, HP, HBel, HB⟩
        case round =>
          clear HT HP HBel HB
          obtain ⟨j, rfl, HFj, HGk, HT, HP, HBel, HB⟩ := hrel
          by_cases hj : (j : Int) < (i0 : Int)
          · have hjd : decide ((j : Int) < (i0 : Int)) = true := decide_eq_true hj
            have hj8 : j < 8 * n := by omega
            have HGt : Kp _ := ⟨HGj.out j wr HB.out hj8 (HAll.out j HFj.out hj)⟩
            have HGn : Kp ((gk : Int) - 1 = max 0 ((i0 : Int) - ((j + 1 : Nat) : Int)) ∧ 0 < gk) := ⟨by have := HGk.out; omega⟩
            clear HGk
            go_wp2_with fail
            refine HGt.out.mono ?_
            rintro e x90 ⟨rfl, mD, rfl⟩
            have hb := below_drewN wr wr.heap.size mD
            replace HB : Kp _ := ⟨HB.out.next hb (Nat.le_refl _)⟩
            replace HT : Kp _ := ⟨HT.out.below hb HP.out⟩
            replace HP : Kp _ := ⟨Nat.lt_of_lt_of_le HP.out hb.size⟩
            replace HBel : Kp _ := ⟨HBel.out.trans (hb.mono HBel.out.size)⟩
            clear hb HGt
            generalize wr.drewN mD = x91 at *
            go_wp2
            go_roundg (gk - 1)
            case measure => have := HGn.out.2; omega
            case rel => exact ⟨j + 1, by go_num, ⟨by have := HFj.out; omega⟩, ⟨by have := HGn.out; omega⟩, HT, HP, HBel, HB⟩
          · have hjd : decide ((j : Int) < (i0 : Int)) = false := decide_eq_false hj
            clear HGk HFj
            by_cases hz0 : 0 ≤ z4
            · by_cases hz8 : z4 < 8 * (n : Int)
              · have hzd : decide (z4 < 8 * (n : Int)) = true := decide_eq_true hz8
                go_wp2_with fail
                refine (known12_any _ HP.out HT.out).mono ?_
                rintro e x51 ⟨rfl, hb⟩
                replace HB : Kp _ := ⟨HB.out.next hb (Nat.le_refl _)⟩
                replace HT : Kp _ := ⟨HT.out.below hb HP.out⟩
                replace HP : Kp _ := ⟨Nat.lt_of_lt_of_le HP.out hb.size⟩
                replace HBel : Kp _ := ⟨HBel.out.trans (hb.mono HBel.out.size)⟩
                clear hb
                go_wp2
                go_ret
                exact ⟨rfl, HBel.out⟩
              · have hzd : decide (z4 < 8 * (n : Int)) = false := decide_eq_false hz8
                have HGi' : Kp _ := ⟨HGi.out (by omega)⟩
                have HSi' : Kp _ := ⟨HSi.out (by omega)⟩
                clear HGi HSi
                go_wp2_with fail
                refine (HGi'.out _ HB.out).mono ?_
                rintro e x51 ⟨rfl, mD, rfl⟩
                have hb := below_drewN wr wr.heap.size mD
                replace HB : Kp _ := ⟨HB.out.next hb (Nat.le_refl _)⟩
                replace HT : Kp _ := ⟨HT.out.below hb HP.out⟩
                replace HP : Kp _ := ⟨Nat.lt_of_lt_of_le HP.out hb.size⟩
                replace HBel : Kp _ := ⟨HBel.out.trans (hb.mono HBel.out.size)⟩
                clear hb
                generalize wr.drewN mD = x51 at *
                go_wp2_with fail
                refine (HSi'.out _ HB.out).mono ?_
                rintro e x52 ⟨A9, c9, rfl, hrow, hb⟩
                replace HB : Kp _ := ⟨HB.out.next hb (Nat.le_refl _)⟩
                replace HT : Kp _ := ⟨HT.out.below hb HP.out⟩
                replace HP : Kp _ := ⟨Nat.lt_of_lt_of_le HP.out hb.size⟩
                replace HBel : Kp _ := ⟨HBel.out.trans (hb.mono HBel.out.size)⟩
                clear hb
                have H9 : Kp _ := ⟨hrow⟩
                clear hrow
                have hcall := same_any A9 A n c9 n c _ _ _ _ _ H9.out HB.out
                rw [beq_self_eq_true] at hcall
                have HCl : Kp _ := ⟨hcall⟩
                clear hcall
                go_wp2_with fail
                refine (HCl.out).mono ?_
                rintro e x53 ⟨rfl, rfl⟩
                go_wp2_with fail
                refine (known12_any _ HP.out HT.out).mono ?_
                rintro e x54 ⟨rfl, hb⟩
                replace HB : Kp _ := ⟨HB.out.next hb (Nat.le_refl _)⟩
                replace H9 : Kp _ := ⟨H9.out.next hb (Nat.le_refl _)⟩
                replace HT : Kp _ := ⟨HT.out.below hb HP.out⟩
                replace HP : Kp _ := ⟨Nat.lt_of_lt_of_le HP.out hb.size⟩
                replace HBel : Kp _ := ⟨HBel.out.trans (hb.mono HBel.out.size)⟩
                clear hb
                go_wp2
                go_ret
                exact ⟨rfl, HBel.out⟩
            · have hz1 : z4 < 0 := by omega
              have HGi' : Kp _ := ⟨HGi.out (by omega)⟩
              have HSi' : Kp _ := ⟨HSi.out (by omega)⟩
              clear HGi HSi
              go_wp2_with fail
              refine (HGi'.out _ HB.out).mono ?_
              rintro e x51 ⟨rfl, mD, rfl⟩
              have hb := below_drewN wr wr.heap.size mD
              replace HB : Kp _ := ⟨HB.out.next hb (Nat.le_refl _)⟩
              replace HT : Kp _ := ⟨HT.out.below hb HP.out⟩
              replace HP : Kp _ := ⟨Nat.lt_of_lt_of_le HP.out hb.size⟩
              replace HBel : Kp _ := ⟨HBel.out.trans (hb.mono HBel.out.size)⟩
              clear hb
              generalize wr.drewN mD = x51 at *
              go_wp2_with fail
              refine (HSi'.out _ HB.out).mono ?_
              rintro e x52 ⟨A9, c9, rfl, hrow, hb⟩
              replace HB : Kp _ := ⟨HB.out.next hb (Nat.le_refl _)⟩
              replace HT : Kp _ := ⟨HT.out.below hb HP.out⟩
              replace HP : Kp _ := ⟨Nat.lt_of_lt_of_le HP.out hb.size⟩
              replace HBel : Kp _ := ⟨HBel.out.trans (hb.mono HBel.out.size)⟩
              clear hb
              have H9 : Kp _ := ⟨hrow⟩
              clear hrow
              have hcall := same_any A9 A n c9 n c _ _ _ _ _ H9.out HB.out
              rw [beq_self_eq_true] at hcall
              have HCl : Kp _ := ⟨hcall⟩
              clear hcall
              go_wp2_with fail
              refine (HCl.out).mono ?_
              rintro e x53 ⟨rfl, rfl⟩
              go_wp2_with fail
              refine (known12_any _ HP.out HT.out).mono ?_
              rintro e x54 ⟨rfl, hb⟩
              replace HB : Kp _ := ⟨HB.out.next hb (Nat.le_refl _)⟩
              replace H9 : Kp _ := ⟨H9.out.next hb (Nat.le_refl _)⟩
              replace HT : Kp _ := ⟨HT.out.below hb HP.out⟩
              replace HP : Kp _ := ⟨Nat.lt_of_lt_of_le HP.out hb.size⟩
              replace HBel : Kp _ := ⟨HBel.out.trans (hb.mono HBel.out.size)⟩
              clear hb
              go_wp2
              go_ret
              exact ⟨rfl, HBel.out⟩
      · have hdum : True := trivial
        have hk1 : ¬ ((8 * (n : Int)) ≤ (i0 : Int)) := by omega
        have hk2 : (i0 : Int) < (8 * (n : Int)) := by omega
        have hk0d : decide (i0 < F) = false := decide_eq_false (by omega)
        clear hTv
        go_enter Tryd.func7, Tryd.ntmps7
        go_wp2_with fail
        refine (HFi.out _ HP.out HT.out HB.out).mono ?_
        rintro e x1 ⟨rfl, hb⟩
        replace HB : Kp _ := ⟨HB.out.next hb (Nat.le_refl _)⟩
        replace HT : Kp _ := ⟨HT.out.below hb HP.out⟩
        replace HP : Kp _ := ⟨Nat.lt_of_lt_of_le HP.out hb.size⟩
        replace HBel : Kp _ := ⟨HBel.out.trans (hb.mono HBel.out.size)⟩
        clear hb
        go_wp2_with fail
        refine (HG0.out _ HB.out).mono ?_
        rintro e x2 ⟨rfl, mD, rfl⟩
        have hb := below_drewN x1 x1.heap.size mD
        replace HB : Kp _ := ⟨HB.out.next hb (Nat.le_refl _)⟩
        replace HT : Kp _ := ⟨HT.out.below hb HP.out⟩
        replace HP : Kp _ := ⟨Nat.lt_of_lt_of_le HP.out hb.size⟩
        replace HBel : Kp _ := ⟨HBel.out.trans (hb.mono HBel.out.size)⟩
        clear hb
        generalize x1.drewN mD = x2 at *
        go_wp2
        go_loopg [13] (i0 - F) (fun gk v13 wr => ∃ j : Nat, v13 = .int .i64 (j : Int) ∧ Kp (F ≤ j) ∧ Kp ((gk : Int) = max 0 ((i0 : Int) - (j : Int))) ∧ Kp (TabD wr) ∧ Kp (0 < wr.heap.size) ∧ Kp (Below w.heap.size w wr) ∧ Kp (Bs wr wr.heap.size A n c b))
        case atStart => exact ⟨F, rfl, ⟨Nat.le_refl _⟩, ⟨by omega⟩, HT, HP, HBel, HB⟩
        case round =>
          clear HT HP HBel HB
          obtain ⟨j, rfl, HFj, HGk, HT, HP, HBel, HB⟩ := hrel
          by_cases hj : (j : Int) < (i0 : Int)
          · have hjd : decide ((j : Int) < (i0 : Int)) = true := decide_eq_true hj
            have hj8 : j < 8 * n := by omega
            have HGt : Kp _ := ⟨HGj.out j wr HB.out hj8 (HAll.out j HFj.out hj)⟩
            have HGn : Kp ((gk : Int) - 1 = max 0 ((i0 : Int) - ((j + 1 : Nat) : Int)) ∧ 0 < gk) := ⟨by have := HGk.out; omega⟩
            clear HGk
            go_wp2_with fail
            refine HGt.out.mono ?_
            rintro e x90 ⟨rfl, mD, rfl⟩
            have hb := below_drewN wr wr.heap.size mD
            replace HB : Kp _ := ⟨HB.out.next hb (Nat.le_refl _)⟩
            replace HT : Kp _ := ⟨HT.out.below hb HP.out⟩
            replace HP : Kp _ := ⟨Nat.lt_of_lt_of_le HP.out hb.size⟩
            replace HBel : Kp _ := ⟨HBel.out.trans (hb.mono HBel.out.size)⟩
            clear hb HGt
            generalize wr.drewN mD = x91 at *
            go_wp2
            go_roundg (gk - 1)
            case measure => have := HGn.out.2; omega
            case rel => exact ⟨j + 1, by go_num, ⟨by have := HFj.out; omega⟩, ⟨by have := HGn.out; omega⟩, HT, HP, HBel, HB⟩
          · have hjd : decide ((j : Int) < (i0 : Int)) = false := decide_eq_false hj
            clear HGk HFj
            by_cases hz0 : 0 ≤ z4
            · by_cases hz8 : z4 < 8 * (n : Int)
              · have hzd : decide (z4 < 8 * (n : Int)) = true := decide_eq_true hz8
                go_wp2_with fail
                refine (known12_any _ HP.out HT.out).mono ?_
                rintro e x51 ⟨rfl, hb⟩
                replace HB : Kp _ := ⟨HB.out.next hb (Nat.le_refl _)⟩
                replace HT : Kp _ := ⟨HT.out.below hb HP.out⟩
                replace HP : Kp _ := ⟨Nat.lt_of_lt_of_le HP.out hb.size⟩
                replace HBel : Kp _ := ⟨HBel.out.trans (hb.mono HBel.out.size)⟩
                clear hb
                go_wp2
                go_ret
                exact ⟨rfl, HBel.out⟩
              · have hzd : decide (z4 < 8 * (n : Int)) = false := decide_eq_false hz8
                have HGi' : Kp _ := ⟨HGi.out (by omega)⟩
                have HSi' : Kp _ := ⟨HSi.out (by omega)⟩
                clear HGi HSi
                go_wp2_with fail
                refine (HGi'.out _ HB.out).mono ?_
                rintro e x51 ⟨rfl, mD, rfl⟩
                have hb := below_drewN wr wr.heap.size mD
                replace HB : Kp _ := ⟨HB.out.next hb (Nat.le_refl _)⟩
                replace HT : Kp _ := ⟨HT.out.below hb HP.out⟩
                replace HP : Kp _ := ⟨Nat.lt_of_lt_of_le HP.out hb.size⟩
                replace HBel : Kp _ := ⟨HBel.out.trans (hb.mono HBel.out.size)⟩
                clear hb
                generalize wr.drewN mD = x51 at *
                go_wp2_with fail
                refine (HSi'.out _ HB.out).mono ?_
                rintro e x52 ⟨A9, c9, rfl, hrow, hb⟩
                replace HB : Kp _ := ⟨HB.out.next hb (Nat.le_refl _)⟩
                replace HT : Kp _ := ⟨HT.out.below hb HP.out⟩
                replace HP : Kp _ := ⟨Nat.lt_of_lt_of_le HP.out hb.size⟩
                replace HBel : Kp _ := ⟨HBel.out.trans (hb.mono HBel.out.size)⟩
                clear hb
                have H9 : Kp _ := ⟨hrow⟩
                clear hrow
                have hcall := same_any A9 A n c9 n c _ _ _ _ _ H9.out HB.out
                rw [beq_self_eq_true] at hcall
                have HCl : Kp _ := ⟨hcall⟩
                clear hcall
                go_wp2_with fail
                refine (HCl.out).mono ?_
                rintro e x53 ⟨rfl, rfl⟩
                go_wp2_with fail
                refine (known12_any _ HP.out HT.out).mono ?_
                rintro e x54 ⟨rfl, hb⟩
                replace HB : Kp _ := ⟨HB.out.next hb (Nat.le_refl _)⟩
                replace H9 : Kp _ := ⟨H9.out.next hb (Nat.le_refl _)⟩
                replace HT : Kp _ := ⟨HT.out.below hb HP.out⟩
                replace HP : Kp _ := ⟨Nat.lt_of_lt_of_le HP.out hb.size⟩
                replace HBel : Kp _ := ⟨HBel.out.trans (hb.mono HBel.out.size)⟩
                clear hb
                go_wp2
                go_ret
                exact ⟨rfl, HBel.out⟩
            · have hz1 : z4 < 0 := by omega
              have HGi' : Kp _ := ⟨HGi.out (by omega)⟩
              have HSi' : Kp _ := ⟨HSi.out (by omega)⟩
              clear HGi HSi
              go_wp2_with fail
              refine (HGi'.out _ HB.out).mono ?_
              rintro e x51 ⟨rfl, mD, rfl⟩
              have hb := below_drewN wr wr.heap.size mD
              replace HB : Kp _ := ⟨HB.out.next hb (Nat.le_refl _)⟩
              replace HT : Kp _ := ⟨HT.out.below hb HP.out⟩
              replace HP : Kp _ := ⟨Nat.lt_of_lt_of_le HP.out hb.size⟩
              replace HBel : Kp _ := ⟨HBel.out.trans (hb.mono HBel.out.size)⟩
              clear hb
              generalize wr.drewN mD = x51 at *
              go_wp2_with fail
              refine (HSi'.out _ HB.out).mono ?_
              rintro e x52 ⟨A9, c9, rfl, hrow, hb⟩
              replace HB : Kp _ := ⟨HB.out.next hb (Nat.le_refl _)⟩
              replace HT : Kp _ := ⟨HT.out.below hb HP.out⟩
              replace HP : Kp _ := ⟨Nat.lt_of_lt_of_le HP.out hb.size⟩
              replace HBel : Kp _ := ⟨HBel.out.trans (hb.mono HBel.out.size)⟩
              clear hb
              have H9 : Kp _ := ⟨hrow⟩
              clear hrow
              have hcall := same_any A9 A n c9 n c _ _ _ _ _ H9.out HB.out
              rw [beq_self_eq_true] at hcall
              have HCl : Kp _ := ⟨hcall⟩
              clear hcall
              go_wp2_with fail
              refine (HCl.out).mono ?_
              rintro e x53 ⟨rfl, rfl⟩
              go_wp2_with fail
              refine (known12_any _ HP.out HT.out).mono ?_
              rintro e x54 ⟨rfl, hb⟩
              replace HB : Kp _ := ⟨HB.out.next hb (Nat.le_refl _)⟩
              replace H9 : Kp _ := ⟨H9.out.next hb (Nat.le_refl _)⟩
              replace HT : Kp _ := ⟨HT.out.below hb HP.out⟩
              replace HP : Kp _ := ⟨Nat.lt_of_lt_of_le HP.out hb.size⟩
              replace HBel : Kp _ := ⟨HBel.out.trans (hb.mono HBel.out.size)⟩
              clear hb
              go_wp2
              go_ret
              exact ⟨rfl, HBel.out⟩
  | nil =>
    have hall := none_first hL
    rw [hL] at HF1
    have HFi : Kp (∀ (X : World), 0 < X.heap.size → TabD X → Bs X X.heap.size A n c b → Calls Tryd.prog 17 #[.slice A n c, .int .i64 z2, .int .i64 z3] X fun e X' => e = .returned (.int .i64 (-1)) ∧ Below X.heap.size X X') := ⟨HF1.out⟩
    clear hL HF1 HGk
    rcases hcF with ⟨hf, rfl⟩ | ⟨hf, rfl⟩
    · rcases hcT with ht | ht
      · have hdum : True := trivial
        have HAll : Kp (∀ j : Nat, 0 ≤ j → (j : Int) < z3 → gb b j = true) := ⟨fun j h1 h2 => hall j h1 (by omega)⟩
        clear hTv hall
        go_enter Tryd.func7, Tryd.ntmps7
        go_wp2_with fail
        refine (HFi.out _ HP.out HT.out HB.out).mono ?_
        rintro e x1 ⟨rfl, hb⟩
        replace HB : Kp _ := ⟨HB.out.next hb (Nat.le_refl _)⟩
        replace HT : Kp _ := ⟨HT.out.below hb HP.out⟩
        replace HP : Kp _ := ⟨Nat.lt_of_lt_of_le HP.out hb.size⟩
        replace HBel : Kp _ := ⟨HBel.out.trans (hb.mono HBel.out.size)⟩
        clear hb
        go_wp2
        go_loopg [13] (z3 - 0).toNat (fun gk v13 wr => ∃ j : Nat, v13 = .int .i64 (j : Int) ∧ Kp (0 ≤ j) ∧ Kp ((gk : Int) = max 0 (z3 - (j : Int))) ∧ Kp (TabD wr) ∧ Kp (0 < wr.heap.size) ∧ Kp (Below w.heap.size w wr) ∧ Kp (Bs wr wr.heap.size A n c b))
        case atStart => exact ⟨0, rfl, ⟨Nat.le_refl _⟩, ⟨by omega⟩, HT, HP, HBel, HB⟩
        case round =>
          clear HT HP HBel HB
          obtain ⟨j, rfl, HFj, HGk, HT, HP, HBel, HB⟩ := hrel
          by_cases hj : (j : Int) < z3
          · have hjd : decide ((j : Int) < z3) = true := decide_eq_true hj
            have hj8 : j < 8 * n := by omega
            have HGt : Kp _ := ⟨HGj.out j wr HB.out hj8 (HAll.out j HFj.out hj)⟩
            have HGn : Kp ((gk : Int) - 1 = max 0 (z3 - ((j + 1 : Nat) : Int)) ∧ 0 < gk) := ⟨by have := HGk.out; omega⟩
            clear HGk
            go_wp2_with fail
            refine HGt.out.mono ?_
            rintro e x90 ⟨rfl, mD, rfl⟩
            have hb := below_drewN wr wr.heap.size mD
            replace HB : Kp _ := ⟨HB.out.next hb (Nat.le_refl _)⟩
            replace HT : Kp _ := ⟨HT.out.below hb HP.out⟩
            replace HP : Kp _ := ⟨Nat.lt_of_lt_of_le HP.out hb.size⟩
            replace HBel : Kp _ := ⟨HBel.out.trans (hb.mono HBel.out.size)⟩
            clear hb HGt
            generalize wr.drewN mD = x91 at *
            go_wp2
            go_roundg (gk - 1)
            case measure => have := HGn.out.2; omega
            case rel => exact ⟨j + 1, by go_num, ⟨by have := HFj.out; omega⟩, ⟨by have := HGn.out; omega⟩, HT, HP, HBel, HB⟩
          · have hjd : decide ((j : Int) < z3) = false := decide_eq_false hj
            clear HGk HFj
            by_cases hz0 : 0 ≤ z4
            · by_cases hz8 : z4 < 8 * (n : Int)
              · have hzd : decide (z4 < 8 * (n : Int)) = true := decide_eq_true hz8
                go_wp2_with fail
                refine (known12_any _ HP.out HT.out).mono ?_
                rintro e x51 ⟨rfl, hb⟩
                replace HB : Kp _ := ⟨HB.out.next hb (Nat.le_refl _)⟩
                replace HT : Kp _ := ⟨HT.out.below hb HP.out⟩
                replace HP : Kp _ := ⟨Nat.lt_of_lt_of_le HP.out hb.size⟩
                replace HBel : Kp _ := ⟨HBel.out.trans (hb.mono HBel.out.size)⟩
                clear hb
                go_wp2
                go_ret
                exact ⟨rfl, HBel.out⟩
              · have hzd : decide (z4 < 8 * (n : Int)) = false := decide_eq_false hz8
                have HGi' : Kp _ := ⟨HGi.out (by omega)⟩
                have HSi' : Kp _ := ⟨HSi.out (by omega)⟩
                clear HGi HSi
                go_wp2_with fail
                refine (HGi'.out _ HB.out).mono ?_
                rintro e x51 ⟨rfl, mD, rfl⟩
                have hb := below_drewN wr wr.heap.size mD
                replace HB : Kp _ := ⟨HB.out.next hb (Nat.le_refl _)⟩
                replace HT : Kp _ := ⟨HT.out.below hb HP.out⟩
                replace HP : Kp _ := ⟨Nat.lt_of_lt_of_le HP.out hb.size⟩
                replace HBel : Kp _ := ⟨HBel.out.trans (hb.mono HBel.out.size)⟩
                clear hb
                generalize wr.drewN mD = x51 at *
                go_wp2_with fail
                refine (HSi'.out _ HB.out).mono ?_
                rintro e x52 ⟨A9, c9, rfl, hrow, hb⟩
                replace HB : Kp _ := ⟨HB.out.next hb (Nat.le_refl _)⟩
                replace HT : Kp _ := ⟨HT.out.below hb HP.out⟩
                replace HP : Kp _ := ⟨Nat.lt_of_lt_of_le HP.out hb.size⟩
                replace HBel : Kp _ := ⟨HBel.out.trans (hb.mono HBel.out.size)⟩
                clear hb
                have H9 : Kp _ := ⟨hrow⟩
                clear hrow
                have hcall := same_any A9 A n c9 n c _ _ _ _ _ H9.out HB.out
                rw [beq_self_eq_true] at hcall
                have HCl : Kp _ := ⟨hcall⟩
                clear hcall
                go_wp2_with fail
                refine (HCl.out).mono ?_
                rintro e x53 ⟨rfl, rfl⟩
                go_wp2_with fail
                refine (known12_any _ HP.out HT.out).mono ?_
                rintro e x54 ⟨rfl, hb⟩
                replace HB : Kp _ := ⟨HB.out.next hb (Nat.le_refl _)⟩
                replace H9 : Kp _ := ⟨H9.out.next hb (Nat.le_refl _)⟩
                replace HT : Kp _ := ⟨HT.out.below hb HP.out⟩
                replace HP : Kp _ := ⟨Nat.lt_of_lt_of_le HP.out hb.size⟩
                replace HBel : Kp _ := ⟨HBel.out.trans (hb.mono HBel.out.size)⟩
                clear hb
                go_wp2
                go_ret
                exact ⟨rfl, HBel.out⟩
            · have hz1 : z4 < 0 := by omega
              have HGi' : Kp _ := ⟨HGi.out (by omega)⟩
              have HSi' : Kp _ := ⟨HSi.out (by omega)⟩
              clear HGi HSi
              go_wp2_with fail
              refine (HGi'.out _ HB.out).mono ?_
              rintro e x51 ⟨rfl, mD, rfl⟩
              have hb := below_drewN wr wr.heap.size mD
              replace HB : Kp _ := ⟨HB.out.next hb (Nat.le_refl _)⟩
              replace HT : Kp _ := ⟨HT.out.below hb HP.out⟩
              replace HP : Kp _ := ⟨Nat.lt_of_lt_of_le HP.out hb.size⟩
              replace HBel : Kp _ := ⟨HBel.out.trans (hb.mono HBel.out.size)⟩
              clear hb
              generalize wr.drewN mD = x51 at *
              go_wp2_with fail
              refine (HSi'.out _ HB.out).mono ?_
              rintro e x52 ⟨A9, c9, rfl, hrow, hb⟩
              replace HB : Kp _ := ⟨HB.out.next hb (Nat.le_refl _)⟩
              replace HT : Kp _ := ⟨HT.out.below hb HP.out⟩
              replace HP : Kp _ := ⟨Nat.lt_of_lt_of_le HP.out hb.size⟩
              replace HBel : Kp _ := ⟨HBel.out.trans (hb.mono HBel.out.size)⟩
              clear hb
              have H9 : Kp _ := ⟨hrow⟩
              clear hrow
              have hcall := same_any A9 A n c9 n c _ _ _ _ _ H9.out HB.out
              rw [beq_self_eq_true] at hcall
              have HCl : Kp _ := ⟨hcall⟩
              clear hcall
              go_wp2_with fail
              refine (HCl.out).mono ?_
              rintro e x53 ⟨rfl, rfl⟩
              go_wp2_with fail
              refine (known12_any _ HP.out HT.out).mono ?_
              rintro e x54 ⟨rfl, hb⟩
              replace HB : Kp _ := ⟨HB.out.next hb (Nat.le_refl _)⟩
              replace H9 : Kp _ := ⟨H9.out.next hb (Nat.le_refl _)⟩
              replace HT : Kp _ := ⟨HT.out.below hb HP.out⟩
              replace HP : Kp _ := ⟨Nat.lt_of_lt_of_le HP.out hb.size⟩
              replace HBel : Kp _ := ⟨HBel.out.trans (hb.mono HBel.out.size)⟩
              clear hb
              go_wp2
              go_ret
              exact ⟨rfl, HBel.out⟩
      · have hdum : True := trivial
        have HAll : Kp (∀ j : Nat, 0 ≤ j → (j : Int) < (8 * (n : Int)) → gb b j = true) := ⟨fun j h1 h2 => hall j h1 (by omega)⟩
        clear hTv hall
        go_enter Tryd.func7, Tryd.ntmps7
        go_wp2_with fail
        refine (HFi.out _ HP.out HT.out HB.out).mono ?_
        rintro e x1 ⟨rfl, hb⟩
        replace HB : Kp _ := ⟨HB.out.next hb (Nat.le_refl _)⟩
        replace HT : Kp _ := ⟨HT.out.below hb HP.out⟩
        replace HP : Kp _ := ⟨Nat.lt_of_lt_of_le HP.out hb.size⟩
        replace HBel : Kp _ := ⟨HBel.out.trans (hb.mono HBel.out.size)⟩
        clear hb
        go_wp2
        go_loopg [13] ((8 * (n : Int)) - 0).toNat (fun gk v13 wr => ∃ j : Nat, v13 = .int .i64 (j : Int) ∧ Kp (0 ≤ j) ∧ Kp ((gk : Int) = max 0 ((8 * (n : Int)) - (j : Int))) ∧ Kp (TabD wr) ∧ Kp (0 < wr.heap.size) ∧ Kp (Below w.heap.size w wr) ∧ Kp (Bs wr wr.heap.size A n c b))
        case atStart => exact ⟨0, rfl, ⟨Nat.le_refl _⟩, ⟨by omega⟩, HT, HP, HBel, HB⟩
        case round =>
          clear HT HP HBel HB
          obtain ⟨j, rfl, HFj, HGk, HT, HP, HBel, HB⟩ := hrel
          by_cases hj : (j : Int) < (8 * (n : Int))
          · have hjd : decide ((j : Int) < (8 * (n : Int))) = true := decide_eq_true hj
            have hj8 : j < 8 * n := by omega
            have HGt : Kp _ := ⟨HGj.out j wr HB.out hj8 (HAll.out j HFj.out hj)⟩
            have HGn : Kp ((gk : Int) - 1 = max 0 ((8 * (n : Int)) - ((j + 1 : Nat) : Int)) ∧ 0 < gk) := ⟨by have := HGk.out; omega⟩
            clear HGk
            go_wp2_with fail
            refine HGt.out.mono ?_
            rintro e x90 ⟨rfl, mD, rfl⟩
            have hb := below_drewN wr wr.heap.size mD
            replace HB : Kp _ := ⟨HB.out.next hb (Nat.le_refl _)⟩
            replace HT : Kp _ := ⟨HT.out.below hb HP.out⟩
            replace HP : Kp _ := ⟨Nat.lt_of_lt_of_le HP.out hb.size⟩
            replace HBel : Kp _ := ⟨HBel.out.trans (hb.mono HBel.out.size)⟩
            clear hb HGt
            generalize wr.drewN mD = x91 at *
            go_wp2
            go_roundg (gk - 1)
            case measure => have := HGn.out.2; omega
            case rel => exact ⟨j + 1, by go_num, ⟨by have := HFj.out; omega⟩, ⟨by have := HGn.out; omega⟩, HT, HP, HBel, HB⟩
          · have hjd : decide ((j : Int) < (8 * (n : Int))) = false := decide_eq_false hj
            clear HGk HFj
            by_cases hz0 : 0 ≤ z4
            · by_cases hz8 : z4 < 8 * (n : Int)
              · have hzd : decide (z4 < 8 * (n : Int)) = true := decide_eq_true hz8
                go_wp2_with fail
                refine (known12_any _ HP.out HT.out).mono ?_
                rintro e x51 ⟨rfl, hb⟩
                replace HB : Kp _ := ⟨HB.out.next hb (Nat.le_refl _)⟩
                replace HT : Kp _ := ⟨HT.out.below hb HP.out⟩
                replace HP : Kp _ := ⟨Nat.lt_of_lt_of_le HP.out hb.size⟩
                replace HBel : Kp _ := ⟨HBel.out.trans (hb.mono HBel.out.size)⟩
                clear hb
                go_wp2
                go_ret
                exact ⟨rfl, HBel.out⟩
              · have hzd : decide (z4 < 8 * (n : Int)) = false := decide_eq_false hz8
                have HGi' : Kp _ := ⟨HGi.out (by omega)⟩
                have HSi' : Kp _ := ⟨HSi.out (by omega)⟩
                clear HGi HSi
                go_wp2_with fail
                refine (HGi'.out _ HB.out).mono ?_
                rintro e x51 ⟨rfl, mD, rfl⟩
                have hb := below_drewN wr wr.heap.size mD
                replace HB : Kp _ := ⟨HB.out.next hb (Nat.le_refl _)⟩
                replace HT : Kp _ := ⟨HT.out.below hb HP.out⟩
                replace HP : Kp _ := ⟨Nat.lt_of_lt_of_le HP.out hb.size⟩
                replace HBel : Kp _ := ⟨HBel.out.trans (hb.mono HBel.out.size)⟩
                clear hb
                generalize wr.drewN mD = x51 at *
                go_wp2_with fail
                refine (HSi'.out _ HB.out).mono ?_
                rintro e x52 ⟨A9, c9, rfl, hrow, hb⟩
                replace HB : Kp _ := ⟨HB.out.next hb (Nat.le_refl _)⟩
                replace HT : Kp _ := ⟨HT.out.below hb HP.out⟩
                replace HP : Kp _ := ⟨Nat.lt_of_lt_of_le HP.out hb.size⟩
                replace HBel : Kp _ := ⟨HBel.out.trans (hb.mono HBel.out.size)⟩
                clear hb
                have H9 : Kp _ := ⟨hrow⟩
                clear hrow
                have hcall := same_any A9 A n c9 n c _ _ _ _ _ H9.out HB.out
                rw [beq_self_eq_true] at hcall
                have HCl : Kp _ := ⟨hcall⟩
                clear hcall
                go_wp2_with fail
                refine (HCl.out).mono ?_
                rintro e x53 ⟨rfl, rfl⟩
                go_wp2_with fail
                refine (known12_any _ HP.out HT.out).mono ?_
                rintro e x54 ⟨rfl, hb⟩
                replace HB : Kp _ := ⟨HB.out.next hb (Nat.le_refl _)⟩
                replace H9 : Kp _ := ⟨H9.out.next hb (Nat.le_refl _)⟩
                replace HT : Kp _ := ⟨HT.out.below hb HP.out⟩
                replace HP : Kp _ := ⟨Nat.lt_of_lt_of_le HP.out hb.size⟩
                replace HBel : Kp _ := ⟨HBel.out.trans (hb.mono HBel.out.size)⟩
                clear hb
                go_wp2
                go_ret
                exact ⟨rfl, HBel.out⟩
            · have hz1 : z4 < 0 := by omega
              have HGi' : Kp _ := ⟨HGi.out (by omega)⟩
              have HSi' : Kp _ := ⟨HSi.out (by omega)⟩
              clear HGi HSi
              go_wp2_with fail
              refine (HGi'.out _ HB.out).mono ?_
              rintro e x51 ⟨rfl, mD, rfl⟩
              have hb := below_drewN wr wr.heap.size mD
              replace HB : Kp _ := ⟨HB.out.next hb (Nat.le_refl _)⟩
              replace HT : Kp _ := ⟨HT.out.below hb HP.out⟩
              replace HP : Kp _ := ⟨Nat.lt_of_lt_of_le HP.out hb.size⟩
              replace HBel : Kp _ := ⟨HBel.out.trans (hb.mono HBel.out.size)⟩
              clear hb
              generalize wr.drewN mD = x51 at *
              go_wp2_with fail
              refine (HSi'.out _ HB.out).mono ?_
              rintro e x52 ⟨A9, c9, rfl, hrow, hb⟩
              replace HB : Kp _ := ⟨HB.out.next hb (Nat.le_refl _)⟩
              replace HT : Kp _ := ⟨HT.out.below hb HP.out⟩
              replace HP : Kp _ := ⟨Nat.lt_of_lt_of_le HP.out hb.size⟩
              replace HBel : Kp _ := ⟨HBel.out.trans (hb.mono HBel.out.size)⟩
              clear hb
              have H9 : Kp _ := ⟨hrow⟩
              clear hrow
              have hcall := same_any A9 A n c9 n c _ _ _ _ _ H9.out HB.out
              rw [beq_self_eq_true] at hcall
              have HCl : Kp _ := ⟨hcall⟩
              clear hcall
              go_wp2_with fail
              refine (HCl.out).mono ?_
              rintro e x53 ⟨rfl, rfl⟩
              go_wp2_with fail
              refine (known12_any _ HP.out HT.out).mono ?_
              rintro e x54 ⟨rfl, hb⟩
              replace HB : Kp _ := ⟨HB.out.next hb (Nat.le_refl _)⟩
              replace H9 : Kp _ := ⟨H9.out.next hb (Nat.le_refl _)⟩
              replace HT : Kp _ := ⟨HT.out.below hb HP.out⟩
              replace HP : Kp _ := ⟨Nat.lt_of_lt_of_le HP.out hb.size⟩
              replace HBel : Kp _ := ⟨HBel.out.trans (hb.mono HBel.out.size)⟩
              clear hb
              go_wp2
              go_ret
              exact ⟨rfl, HBel.out⟩
    · rcases hcT with ht | ht
      · have hdum : True := trivial
        have HAll : Kp (∀ j : Nat, F ≤ j → (j : Int) < z3 → gb b j = true) := ⟨fun j h1 h2 => hall j h1 (by omega)⟩
        clear hTv hall
        go_enter Tryd.func7, Tryd.ntmps7
        go_wp2_with fail
        refine (HFi.out _ HP.out HT.out HB.out).mono ?_
        rintro e x1 ⟨rfl, hb⟩
        replace HB : Kp _ := ⟨HB.out.next hb (Nat.le_refl _)⟩
        replace HT : Kp _ := ⟨HT.out.below hb HP.out⟩
        replace HP : Kp _ := ⟨Nat.lt_of_lt_of_le HP.out hb.size⟩
        replace HBel : Kp _ := ⟨HBel.out.trans (hb.mono HBel.out.size)⟩
        clear hb
        go_wp2
        go_loopg [13] (z3 - (F : Int)).toNat (fun gk v13 wr => ∃ j : Nat, v13 = .int .i64 (j : Int) ∧ Kp (F ≤ j) ∧ Kp ((gk : Int) = max 0 (z3 - (j : Int))) ∧ Kp (TabD wr) ∧ Kp (0 < wr.heap.size) ∧ Kp (Below w.heap.size w wr) ∧ Kp (Bs wr wr.heap.size A n c b))
        case atStart => exact ⟨F, rfl, ⟨Nat.le_refl _⟩, ⟨by omega⟩, HT, HP, HBel, HB⟩
        case round =>
          clear HT HP HBel HB
          obtain ⟨j, rfl, HFj, HGk, HT, HP, HBel, HB⟩ := hrel
          by_cases hj : (j : Int) < z3
          · have hjd : decide ((j : Int) < z3) = true := decide_eq_true hj
            have hj8 : j < 8 * n := by omega
            have HGt : Kp _ := ⟨HGj.out j wr HB.out hj8 (HAll.out j HFj.out hj)⟩
            have HGn : Kp ((gk : Int) - 1 = max 0 (z3 - ((j + 1 : Nat) : Int)) ∧ 0 < gk) := ⟨by have := HGk.out; omega⟩
            clear HGk
            go_wp2_with fail
            refine HGt.out.mono ?_
            rintro e x90 ⟨rfl, mD, rfl⟩
            have hb := below_drewN wr wr.heap.size mD
            replace HB : Kp _ := ⟨HB.out.next hb (Nat.le_refl _)⟩
            replace HT : Kp _ := ⟨HT.out.below hb HP.out⟩
            replace HP : Kp _ := ⟨Nat.lt_of_lt_of_le HP.out hb.size⟩
            replace HBel : Kp _ := ⟨HBel.out.trans (hb.mono HBel.out.size)⟩
            clear hb HGt
            generalize wr.drewN mD = x91 at *
            go_wp2
            go_roundg (gk - 1)
            case measure => have := HGn.out.2; omega
            case rel => exact ⟨j + 1, by go_num, ⟨by have := HFj.out; omega⟩, ⟨by have := HGn.out; omega⟩, HT, HP, HBel, HB⟩
          · have hjd : decide ((j : Int) < z3) = false := decide_eq_false hj
            clear HGk HFj
            by_cases hz0 : 0 ≤ z4
            · by_cases hz8 : z4 < 8 * (n : Int)
              · have hzd : decide (z4 < 8 * (n : Int)) = true := decide_eq_true hz8
                go_wp2_with fail
                refine (known12_any _ HP.out HT.out).mono ?_
                rintro e x51 ⟨rfl, hb⟩
                replace HB : Kp _ := ⟨HB.out.next hb (Nat.le_refl _)⟩
                replace HT : Kp _ := ⟨HT.out.below hb HP.out⟩
                replace HP : Kp _ := ⟨Nat.lt_of_lt_of_le HP.out hb.size⟩
                replace HBel : Kp _ := ⟨HBel.out.trans (hb.mono HBel.out.size)⟩
                clear hb
                go_wp2
                go_ret
                exact ⟨rfl, HBel.out⟩
              · have hzd : decide (z4 < 8 * (n : Int)) = false := decide_eq_false hz8
                have HGi' : Kp _ := ⟨HGi.out (by omega)⟩
                have HSi' : Kp _ := ⟨HSi.out (by omega)⟩
                clear HGi HSi
                go_wp2_with fail
                refine (HGi'.out _ HB.out).mono ?_
                rintro e x51 ⟨rfl, mD, rfl⟩
                have hb := below_drewN wr wr.heap.size mD
                replace HB : Kp _ := ⟨HB.out.next hb (Nat.le_refl _)⟩
                replace HT : Kp _ := ⟨HT.out.below hb HP.out⟩
                replace HP : Kp _ := ⟨Nat.lt_of_lt_of_le HP.out hb.size⟩
                replace HBel : Kp _ := ⟨HBel.out.trans (hb.mono HBel.out.size)⟩
                clear hb
                generalize wr.drewN mD = x51 at *
                go_wp2_with fail
                refine (HSi'.out _ HB.out).mono ?_
                rintro e x52 ⟨A9, c9, rfl, hrow, hb⟩
                replace HB : Kp _ := ⟨HB.out.next hb (Nat.le_refl _)⟩
                replace HT : Kp _ := ⟨HT.out.below hb HP.out⟩
                replace HP : Kp _ := ⟨Nat.lt_of_lt_of_le HP.out hb.size⟩
                replace HBel : Kp _ := ⟨HBel.out.trans (hb.mono HBel.out.size)⟩
                clear hb
                have H9 : Kp _ := ⟨hrow⟩
                clear hrow
                have hcall := same_any A9 A n c9 n c _ _ _ _ _ H9.out HB.out
                rw [beq_self_eq_true] at hcall
                have HCl : Kp _ := ⟨hcall⟩
                clear hcall
                go_wp2_with fail
                refine (HCl.out).mono ?_
                rintro e x53 ⟨rfl, rfl⟩
                go_wp2_with fail
                refine (known12_any _ HP.out HT.out).mono ?_
                rintro e x54 ⟨rfl, hb⟩
                replace HB : Kp _ := ⟨HB.out.next hb (Nat.le_refl _)⟩
                replace H9 : Kp _ := ⟨H9.out.next hb (Nat.le_refl _)⟩
                replace HT : Kp _ := ⟨HT.out.below hb HP.out⟩
                replace HP : Kp _ := ⟨Nat.lt_of_lt_of_le HP.out hb.size⟩
                replace HBel : Kp _ := ⟨HBel.out.trans (hb.mono HBel.out.size)⟩
                clear hb
                go_wp2
                go_ret
                exact ⟨rfl, HBel.out⟩
            · have hz1 : z4 < 0 := by omega
              have HGi' : Kp _ := ⟨HGi.out (by omega)⟩
              have HSi' : Kp _ := ⟨HSi.out (by omega)⟩
              clear HGi HSi
              go_wp2_with fail
              refine (HGi'.out _ HB.out).mono ?_
              rintro e x51 ⟨rfl, mD, rfl⟩
              have hb := below_drewN wr wr.heap.size mD
              replace HB : Kp _ := ⟨HB.out.next hb (Nat.le_refl _)⟩
              replace HT : Kp _ := ⟨HT.out.below hb HP.out⟩
              replace HP : Kp _ := ⟨Nat.lt_of_lt_of_le HP.out hb.size⟩
              replace HBel : Kp _ := ⟨HBel.out.trans (hb.mono HBel.out.size)⟩
              clear hb
              generalize wr.drewN mD = x51 at *
              go_wp2_with fail
              refine (HSi'.out _ HB.out).mono ?_
              rintro e x52 ⟨A9, c9, rfl, hrow, hb⟩
              replace HB : Kp _ := ⟨HB.out.next hb (Nat.le_refl _)⟩
              replace HT : Kp _ := ⟨HT.out.below hb HP.out⟩
              replace HP : Kp _ := ⟨Nat.lt_of_lt_of_le HP.out hb.size⟩
              replace HBel : Kp _ := ⟨HBel.out.trans (hb.mono HBel.out.size)⟩
              clear hb
              have H9 : Kp _ := ⟨hrow⟩
              clear hrow
              have hcall := same_any A9 A n c9 n c _ _ _ _ _ H9.out HB.out
              rw [beq_self_eq_true] at hcall
              have HCl : Kp _ := ⟨hcall⟩
              clear hcall
              go_wp2_with fail
              refine (HCl.out).mono ?_
              rintro e x53 ⟨rfl, rfl⟩
              go_wp2_with fail
              refine (known12_any _ HP.out HT.out).mono ?_
              rintro e x54 ⟨rfl, hb⟩
              replace HB : Kp _ := ⟨HB.out.next hb (Nat.le_refl _)⟩
              replace H9 : Kp _ := ⟨H9.out.next hb (Nat.le_refl _)⟩
              replace HT : Kp _ := ⟨HT.out.below hb HP.out⟩
              replace HP : Kp _ := ⟨Nat.lt_of_lt_of_le HP.out hb.size⟩
              replace HBel : Kp _ := ⟨HBel.out.trans (hb.mono HBel.out.size)⟩
              clear hb
              go_wp2
              go_ret
              exact ⟨rfl, HBel.out⟩
      · have hdum : True := trivial
        have HAll : Kp (∀ j : Nat, F ≤ j → (j : Int) < (8 * (n : Int)) → gb b j = true) := ⟨fun j h1 h2 => hall j h1 (by omega)⟩
        clear hTv hall
        go_enter Tryd.func7, Tryd.ntmps7
        go_wp2_with fail
        refine (HFi.out _ HP.out HT.out HB.out).mono ?_
        rintro e x1 ⟨rfl, hb⟩
        replace HB : Kp _ := ⟨HB.out.next hb (Nat.le_refl _)⟩
        replace HT : Kp _ := ⟨HT.out.below hb HP.out⟩
        replace HP : Kp _ := ⟨Nat.lt_of_lt_of_le HP.out hb.size⟩
        replace HBel : Kp _ := ⟨HBel.out.trans (hb.mono HBel.out.size)⟩
        clear hb
        go_wp2
        go_loopg [13] ((8 * (n : Int)) - (F : Int)).toNat (fun gk v13 wr => ∃ j : Nat, v13 = .int .i64 (j : Int) ∧ Kp (F ≤ j) ∧ Kp ((gk : Int) = max 0 ((8 * (n : Int)) - (j : Int))) ∧ Kp (TabD wr) ∧ Kp (0 < wr.heap.size) ∧ Kp (Below w.heap.size w wr) ∧ Kp (Bs wr wr.heap.size A n c b))
        case atStart => exact ⟨F, rfl, ⟨Nat.le_refl _⟩, ⟨by omega⟩, HT, HP, HBel, HB⟩
        case round =>
          clear HT HP HBel HB
          obtain ⟨j, rfl, HFj, HGk, HT, HP, HBel, HB⟩ := hrel
          by_cases hj : (j : Int) < (8 * (n : Int))
          · have hjd : decide ((j : Int) < (8 * (n : Int))) = true := decide_eq_true hj
            have hj8 : j < 8 * n := by omega
            have HGt : Kp _ := ⟨HGj.out j wr HB.out hj8 (HAll.out j HFj.out hj)⟩
            have HGn : Kp ((gk : Int) - 1 = max 0 ((8 * (n : Int)) - ((j + 1 : Nat) : Int)) ∧ 0 < gk) := ⟨by have := HGk.out; omega⟩
            clear HGk
            go_wp2_with fail
            refine HGt.out.mono ?_
            rintro e x90 ⟨rfl, mD, rfl⟩
            have hb := below_drewN wr wr.heap.size mD
            replace HB : Kp _ := ⟨HB.out.next hb (Nat.le_refl _)⟩
            replace HT : Kp _ := ⟨HT.out.below hb HP.out⟩
            replace HP : Kp _ := ⟨Nat.lt_of_lt_of_le HP.out hb.size⟩
            replace HBel : Kp _ := ⟨HBel.out.trans (hb.mono HBel.out.size)⟩
            clear hb HGt
            generalize wr.drewN mD = x91 at *
            go_wp2
            go_roundg (gk - 1)
            case measure => have := HGn.out.2; omega
            case rel => exact ⟨j + 1, by go_num, ⟨by have := HFj.out; omega⟩, ⟨by have := HGn.out; omega⟩, HT, HP, HBel, HB⟩
          · have hjd : decide ((j : Int) < (8 * (n : Int))) = false := decide_eq_false hj
            clear HGk HFj
            by_cases hz0 : 0 ≤ z4
            · by_cases hz8 : z4 < 8 * (n : Int)
              · have hzd : decide (z4 < 8 * (n : Int)) = true := decide_eq_true hz8
                go_wp2_with fail
                refine (known12_any _ HP.out HT.out).mono ?_
                rintro e x51 ⟨rfl, hb⟩
                replace HB : Kp _ := ⟨HB.out.next hb (Nat.le_refl _)⟩
                replace HT : Kp _ := ⟨HT.out.below hb HP.out⟩
                replace HP : Kp _ := ⟨Nat.lt_of_lt_of_le HP.out hb.size⟩
                replace HBel : Kp _ := ⟨HBel.out.trans (hb.mono HBel.out.size)⟩
                clear hb
                go_wp2
                go_ret
                exact ⟨rfl, HBel.out⟩
              · have hzd : decide (z4 < 8 * (n : Int)) = false := decide_eq_false hz8
                have HGi' : Kp _ := ⟨HGi.out (by omega)⟩
                have HSi' : Kp _ := ⟨HSi.out (by omega)⟩
                clear HGi HSi
                go_wp2_with fail
                refine (HGi'.out _ HB.out).mono ?_
                rintro e x51 ⟨rfl, mD, rfl⟩
                have hb := below_drewN wr wr.heap.size mD
                replace HB : Kp _ := ⟨HB.out.next hb (Nat.le_refl _)⟩
                replace HT : Kp _ := ⟨HT.out.below hb HP.out⟩
                replace HP : Kp _ := ⟨Nat.lt_of_lt_of_le HP.out hb.size⟩
                replace HBel : Kp _ := ⟨HBel.out.trans (hb.mono HBel.out.size)⟩
                clear hb
                generalize wr.drewN mD = x51 at *
                go_wp2_with fail
                refine (HSi'.out _ HB.out).mono ?_
                rintro e x52 ⟨A9, c9, rfl, hrow, hb⟩
                replace HB : Kp _ := ⟨HB.out.next hb (Nat.le_refl _)⟩
                replace HT : Kp _ := ⟨HT.out.below hb HP.out⟩
                replace HP : Kp _ := ⟨Nat.lt_of_lt_of_le HP.out hb.size⟩
                replace HBel : Kp _ := ⟨HBel.out.trans (hb.mono HBel.out.size)⟩
                clear hb
                have H9 : Kp _ := ⟨hrow⟩
                clear hrow
                have hcall := same_any A9 A n c9 n c _ _ _ _ _ H9.out HB.out
                rw [beq_self_eq_true] at hcall
                have HCl : Kp _ := ⟨hcall⟩
                clear hcall
                go_wp2_with fail
                refine (HCl.out).mono ?_
                rintro e x53 ⟨rfl, rfl⟩
                go_wp2_with fail
                refine (known12_any _ HP.out HT.out).mono ?_
                rintro e x54 ⟨rfl, hb⟩
                replace HB : Kp _ := ⟨HB.out.next hb (Nat.le_refl _)⟩
                replace H9 : Kp _ := ⟨H9.out.next hb (Nat.le_refl _)⟩
                replace HT : Kp _ := ⟨HT.out.below hb HP.out⟩
                replace HP : Kp _ := ⟨Nat.lt_of_lt_of_le HP.out hb.size⟩
                replace HBel : Kp _ := ⟨HBel.out.trans (hb.mono HBel.out.size)⟩
                clear hb
                go_wp2
                go_ret
                exact ⟨rfl, HBel.out⟩
            · have hz1 : z4 < 0 := by omega
              have HGi' : Kp _ := ⟨HGi.out (by omega)⟩
              have HSi' : Kp _ := ⟨HSi.out (by omega)⟩
              clear HGi HSi
              go_wp2_with fail
              refine (HGi'.out _ HB.out).mono ?_
              rintro e x51 ⟨rfl, mD, rfl⟩
              have hb := below_drewN wr wr.heap.size mD
              replace HB : Kp _ := ⟨HB.out.next hb (Nat.le_refl _)⟩
              replace HT : Kp _ := ⟨HT.out.below hb HP.out⟩
              replace HP : Kp _ := ⟨Nat.lt_of_lt_of_le HP.out hb.size⟩
              replace HBel : Kp _ := ⟨HBel.out.trans (hb.mono HBel.out.size)⟩
              clear hb
              generalize wr.drewN mD = x51 at *
              go_wp2_with fail
              refine (HSi'.out _ HB.out).mono ?_
              rintro e x52 ⟨A9, c9, rfl, hrow, hb⟩
              replace HB : Kp _ := ⟨HB.out.next hb (Nat.le_refl _)⟩
              replace HT : Kp _ := ⟨HT.out.below hb HP.out⟩
              replace HP : Kp _ := ⟨Nat.lt_of_lt_of_le HP.out hb.size⟩
              replace HBel : Kp _ := ⟨HBel.out.trans (hb.mono HBel.out.size)⟩
              clear hb
              have H9 : Kp _ := ⟨hrow⟩
              clear hrow
              have hcall := same_any A9 A n c9 n c _ _ _ _ _ H9.out HB.out
              rw [beq_self_eq_true] at hcall
              have HCl : Kp _ := ⟨hcall⟩
              clear hcall
              go_wp2_with fail
              refine (HCl.out).mono ?_
              rintro e x53 ⟨rfl, rfl⟩
              go_wp2_with fail
              refine (known12_any _ HP.out HT.out).mono ?_
              rintro e x54 ⟨rfl, hb⟩
              replace HB : Kp _ := ⟨HB.out.next hb (Nat.le_refl _)⟩
              replace H9 : Kp _ := ⟨H9.out.next hb (Nat.le_refl _)⟩
              replace HT : Kp _ := ⟨HT.out.below hb HP.out⟩
              replace HP : Kp _ := ⟨Nat.lt_of_lt_of_le HP.out hb.size⟩
              replace HBel : Kp _ := ⟨HBel.out.trans (hb.mono HBel.out.size)⟩
              clear hb
              go_wp2
              go_ret
              exact ⟨rfl, HBel.out⟩
end
end Go.Proofs.YtgkeckfiacdpkaaDoor
