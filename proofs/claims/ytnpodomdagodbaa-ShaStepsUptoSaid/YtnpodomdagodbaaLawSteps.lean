/- The walk of ShaSteps. -/
import Derived.Test.YtnpodomdagodbaaWrite
import Derived.Test.YtnpodomdagodbaaLawSums
import Derived.Deep.RegionWith
namespace Go.Proofs.Ytnpodomdagodbaa
open Go.RowKit

theorem Ls.prefix {w : World} {B : Nat} {A : Option Addr} {n c : Nat} {ls : List (List UInt8)} (h : Ls w B A n c ls) {k : Nat} (hk : k ≤ n) : Ls w B A k c (ls.take k) :=
  ⟨by rw [List.length_take, h.len]; omega, Nat.le_trans hk h.cap, h.max, h.nil, fun h0 => by
    obtain ⟨b, o, hA, hb, hc⟩ := h.cells (by omega)
    refine ⟨b, o, hA, hb, fun j hj => ?_⟩
    have hj' : j < ls.length := by rw [List.length_take] at hj; omega
    obtain ⟨A', n', c', h1, h2⟩ := hc j hj'
    refine ⟨A', n', c', h1, ?_⟩
    rw [List.getElem_take]
    exact h2⟩

set_option maxRecDepth 100000 in
set_option maxHeartbeats 4000000 in
theorem walk_shaSteps (A : Option Addr) (n c : Nat) (ls : List (List UInt8)) (w : World) (ha : Ls w w.heap.size A n c ls) (hn : n ≤ 1048576) (hf : ls.flatten.length ≤ 1048576) :
    Calls Try.prog 4 #[.slice A n c] w fun e w' => e = .returned (.bool true) ∧ Below w.heap.size w w' := by
  have HA : Kp _ := ⟨ha⟩
  have HF : Kp _ := ⟨hf⟩
  clear ha hf
  go_enter Try.func4, Try.ntmps4
  go_wp2_with fail
  refine (refjoin_any A n c ls w HA.out (by have := HF.out; omega)).mono ?_
  rintro e w1 ⟨v1, rfl, hown1, hB1⟩
  obtain ⟨A1, c1, rfl, _⟩ := Bs.of_own hown1
  obtain ⟨L, hL⟩ : ∃ L, L = ls.flatten.length := ⟨_, rfl⟩
  rw [← hL]
  have HL : Kp _ := ⟨hL⟩
  clear hown1 HF hL
  by_cases h1 : (600 : Int) < (L : Int)
  · go_wp2_with fail
    refine (known2_any _).mono ?_
    rintro e w2 ⟨rfl, hB2⟩
    go_wp2
    go_ret
    exact ⟨rfl, below_next hB1 hB2⟩
  by_cases h2 : (20 : Int) < (n : Int)
  · go_wp2_with fail
    refine (known2_any _).mono ?_
    rintro e w2 ⟨rfl, hB2⟩
    go_wp2
    go_ret
    exact ⟨rfl, below_next hB1 hB2⟩
  have hL6 : L ≤ 600 := by omega
  go_wp2_with fail
  refine (new_any _).mono ?_
  rintro e w2 ⟨rfl, hh2, hB2⟩
  have HH2 : Kp _ := ⟨hh2⟩
  have hB12 : Below w.heap.size w w2 := below_next hB1 hB2
  have hg1 : w.heap.size ≤ w1.heap.size := hB1.size
  obtain ⟨g, hg⟩ : ∃ g, g = w1.heap.size := ⟨_, rfl⟩
  rw [← hg] at HH2 hg1 ⊢
  clear hh2 hB1 hB2 hg
  go_wp2
  go_loopw [4] (fun v wr => ∃ i : Nat, i ≤ n ∧ v = .int .i64 i ∧ Kp (HashIs wr g (ls.take i).flatten) ∧ Below w.heap.size w wr) (fun v _ => n - (intOf v).toNat)
  case atStart => exact ⟨0, Nat.zero_le _, rfl, by simpa using HH2, hB12⟩
  case round =>
    clear HH2 hB12
    obtain ⟨i, hi, rfl, HH, hBr⟩ := hrel
    by_cases hlt : i < n
    · have hii : (i : Int) < (n : Int) := by omega
      have hli : i < ls.length := by rw [HA.out.len]; exact hlt
      obtain ⟨b, o, A', n', c', rfl, _, hcell, hbs⟩ := (HA.out.below hBr).at hlt
      have HP : Kp _ := ⟨hbs⟩
      have HFl : Kp _ := ⟨take_flat ls i hli⟩
      have HFL : Kp ((ls.take (i + 1)).flatten.length ≤ 600) := ⟨by have := take_flat_le ls (i + 1); have := HL.out; omega⟩
      generalize ls[i] = P at *
      clear hbs
      go_wp2_with fail
      refine (write_any g (ls.take i).flatten A' n' c' P _ HH.out (BsA.of_bs HP.out hg1 hBr.size) (by have h := HFL.out; rw [HFl.out, List.length_append] at h; omega)).mono ?_
      rintro e w3 ⟨rfl, hh3, hg3⟩
      have HH3 : Kp (HashIs w3 g (ls.take (i + 1)).flatten) := ⟨by rw [HFl.out]; exact hh3⟩
      have hB3 : Below w.heap.size w w3 := hBr.trans (below_grown hg3 hg1 hBr.size)
      have HAp : Kp _ := ⟨HA.out.prefix (k := i + 1) (by omega)⟩
      clear hh3 hg3 HH hcell HP HFl hBr
      generalize hT : (ls.take (i + 1)).flatten = T at *
      have HT : Kp _ := ⟨hT⟩
      clear hT
      have c1 : ∀ W, Below w3.heap.size w3 W → Calls Try.prog 21 #[.pointer (some ⟨g, 0, none⟩)] W fun e w' => e = .returned (.agg (cells8 (shaL T)).toArray) ∧ Below W.heap.size W w' := fun W hW => sum_any g T W (HH3.out.below hW HH3.out.lt) (by have := HFL.out; omega)
      have c2 : ∀ W, Below w3.heap.size w3 W → Calls Try.prog 15 #[.slice (some ⟨b, o, none⟩) (i + 1) c] W fun e w' => ∃ v, e = .returned v ∧ w'.ownsRow W.heap.size 5 1 v T.length (cells8 T) ∧ Below W.heap.size W w' := fun W hW => by
        have h := refjoin_any (some ⟨b, o, none⟩) (i + 1) c (ls.take (i + 1)) W ((HAp.out.below (hB3.trans (hW.mono hB3.size))).more (Nat.le_trans hB3.size hW.size)) (by rw [HT.out]; have := HFL.out; omega)
        rw [HT.out] at h
        exact h
      have C1 : Kp _ := ⟨c1⟩
      have C2 : Kp _ := ⟨c2⟩
      have heq := eql_self (shaL T) (shaL_length _)
      have HTl : Kp (T.length ≤ 1048576) := ⟨by have := HFL.out; omega⟩
      generalize hD : shaL T = D at *
      have HD : Kp _ := ⟨hD⟩
      have hii2 : (i : Int) + 1 ≤ (n : Int) := by omega
      have hcn := HA.out.cap
      have hcm := HA.out.max
      simp only [maxLen] at hcm
      have hw1 : IntKind.i64.wrap ((i : Int) + 1) = (i : Int) + 1 := by rw [IntKind.wrap_i64]; omega
      have hw2 : ((i : Int) + 1).toNat = i + 1 := by omega
      have hw3 : (i : Int) + 1 ≤ (c : Int) := by omega
      have hw4 : (0 : Int) ≤ (i : Int) + 1 := by omega
      clear c1 c2 hD
      go_wp2_with fail
      go_region_with (first
        | (go_at_call 21; refine (C1.out _ (by exact (Below.refl _ _).drew)).mono ?_; rintro e w4 ⟨rfl, hb4⟩)
        | (go_at_call 15; refine (C2.out _ (by exact ((Below.refl w3.heap.size w3).drew).trans hb4)).mono ?_; rintro e w5 ⟨v5, rfl, hown5, hb5⟩; obtain ⟨A5, c5, rfl, hbs5⟩ := Bs.of_own hown5; have HBs5 : Kp _ := ⟨hbs5⟩; clear hown5 hbs5)
        | (go_at_call 18; refine (refsum_any _ _ _ _ _ HBs5.out HTl.out).mono ?_; rw [HD.out]; rintro e w6 ⟨rfl, hb6⟩))
      have hb34 := hb4.mono (B' := w.heap.size) (by have := hB3.size; simp; omega)
      have hb45 := hb5.mono (B' := w.heap.size) (by have := hB3.size; have := hb4.size; simp at this; omega)
      have hb56 := hb6.mono (B' := w.heap.size) (by have := hB3.size; have := hb4.size; have := hb5.size; simp at *; omega)
      have hB6 : Below w.heap.size w w6 := ((hB3.drew.trans hb34).trans hb45).trans hb56
      have HH6 : Kp (HashIs w6 g (ls.take (i + 1)).flatten) := ⟨by
        rw [HT.out]
        have hl := HH3.out.lt
        exact HH3.out.below ((((Below.refl w3.heap.size w3).drew).trans hb4).trans (((hb5.mono (by have := hb4.size; simp at this; omega))).trans (hb6.mono (by have := hb4.size; have := hb5.size; simp at *; omega)))) hl⟩
      clear hb4 hb5 hb6 hb34 hb45 hb56 HH3 hw1 hw2 hw3 hw4
      go_wp2
      go_roundw
      case rel => exact ⟨i + 1, by omega, by go_num, HH6, hB6⟩
      case measure => simp [intOf]; omega
    · have hii : ¬ ((i : Int) < (n : Int)) := by omega
      go_wp2_with fail
      refine (known2_any _).mono ?_
      rintro e w4 ⟨rfl, hB4⟩
      go_wp2
      go_ret
      exact ⟨rfl, hBr.trans (hB4.mono hBr.size)⟩
theorem law_shaSteps (A : Option Addr) (n c : Nat) (ls : List (List UInt8)) (w : World) (ha : Ls w w.heap.size A n c ls) (hn : n ≤ 1048576) (hf : ls.flatten.length ≤ 1048576) :
    Calls Try.prog 4 #[.slice A n c] w fun e w' => e = .returned (.bool true) ∧ Below w.heap.size w w' := walk_shaSteps A n c ls w ha hn hf

end Go.Proofs.Ytnpodomdagodbaa
