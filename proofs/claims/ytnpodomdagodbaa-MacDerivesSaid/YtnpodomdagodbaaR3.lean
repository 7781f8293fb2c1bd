/- The contracts of sacristanref03's Slice and pad. -/
import Derived.Test.YtnpodomdagodbaaR2Sum
namespace Go.Proofs.Ytnpodomdagodbaa
open Go.RowKit

set_option maxHeartbeats 1000000 in
theorem slice_any (D : List UInt8) (hD : D.length = 32) (w : World) :
    Calls Try.prog 28 #[.agg (cells8 D).toArray] w fun e w' => ∃ v, e = .returned v ∧ w'.ownsRow (w.heap.size + 1) 5 1 v 32 (cells8 D) ∧ Below w.heap.size w w' := by
  have HB0 : Kp _ := ⟨Blk.new w 27 (cells8 D)⟩
  have HD : Kp _ := ⟨hD⟩
  clear hD
  go_enter Try.func28, Try.ntmps28
  go_wp2_with fail
  go_loopw [3, 4] (fun v i wr => ∃ k : Nat, k ≤ 32 ∧ i = .int .i64 k ∧ Hid (wr.ownsRow (w.heap.size + 1) 5 1 v k (cells8 (D.take k))) ∧ Below (w.heap.size + 1) (w.alloc (.cells (cells8 D).toArray 27)) wr) (fun _ i _ => 32 - (intOf i).toNat)
  case atStart => exact ⟨0, Nat.zero_le _, rfl, own_nil _ _ _, Below.refl _ _⟩
  case round =>
    obtain ⟨k, hk, rfl, H, hB⟩ := hrel
    by_cases hlt : k < 32
    · have hkD : k < D.length := by rw [HD.out]; exact hlt
      have hc : wr.cell? ⟨w.heap.size, k, none⟩ = some (.int .u8 (D[k].toNat : Int)) := by
        rw [(HB0.out.below hB (by omega)).cell? k, cells8_at D k hkD]
      have HT : Kp _ := ⟨List.take_succ_eq_append_getElem hkD⟩
      generalize D[k] = x at *
      go_wp2_with (at_builtin; refine wpList_app1 el8 rfl _ _ rfl (w.heap.size + 1) _ k _ rfl H.out rfl rfl (by simp only [maxLen]; omega) (by omega) (by have := hB.size; simpa using this) ?_)
      intro v' w' H' hb' _ _
      have H2 : Hid (w'.ownsRow (w.heap.size + 1) 5 1 v' (k + 1) (cells8 (D.take (k + 1)))) := by
        show World.ownsRow _ _ _ _ _ _ _
        rw [HT.out, cells8_append]
        exact H'.out
      clear H H'
      go_wp2
      go_roundw
      case rel => exact ⟨k + 1, by omega, by go_num, H2, hB.trans hb'⟩
      case measure => simp [intOf]; omega
    · obtain rfl : k = 32 := by omega
      have H2 : Hid (wr.ownsRow (w.heap.size + 1) 5 1 u3 32 (cells8 D)) := by
        have h1 := H.out
        rw [List.take_of_length_le (by rw [HD.out]; exact Nat.le_refl _)] at h1
        exact h1
      clear H
      go_wp2
      go_ret
      exact ⟨_, rfl, H2.out, ((Below.refl _ _).alloc (Nat.le_refl _) _).trans (hB.mono (by omega))⟩

/-- a key's pad: its bytes and noughts, each with a byte -/
def padK (key : List UInt8) (c : UInt8) (j : Nat) : List UInt8 := (List.range j).map fun i => (key.getD i 0) ^^^ c
theorem padK_succ (key : List UInt8) (c : UInt8) (j : Nat) : padK key c (j + 1) = padK key c j ++ [key.getD j 0 ^^^ c] := by
  simp [padK, List.range_succ]
theorem padK_length (key : List UInt8) (c : UInt8) (j : Nat) : (padK key c j).length = j := by simp [padK]
theorem u8_xor (a b : UInt8) : bits .xor .u8 (a.toNat : Int) (b.toNat : Int) = ((a ^^^ b).toNat : Int) := by
  rw [u8_xor_nat _ _ a.toNat_lt b.toNat_lt, UInt8.toNat_xor]

section
attribute [local go_sem] u8_xor
set_option maxHeartbeats 1000000 in
theorem refpad_any (A : Option Addr) (n d : Nat) (key : List UInt8) (c : UInt8) (w : World) (L : Nat) (hL : L ≤ w.heap.size) (ha : Bs w L A n d key) :
    Calls Try.prog 37 #[.slice A n d, .int .u8 c.toNat] w fun e w' => ∃ v, e = .returned v ∧ w'.ownsRow w.heap.size 5 1 v 64 (cells8 (padK key c 64)) ∧ Below w.heap.size w w' := by
  have hn := ha.le
  have HA : Kp _ := ⟨ha⟩
  have HN : Kp _ := ⟨ha.len⟩
  clear ha
  go_enter Try.func37, Try.ntmps37
  go_wp2_with fail
  go_loopw [5, 6] (fun v i wr => ∃ k : Nat, k ≤ 64 ∧ i = .int .i64 k ∧ Hid (wr.ownsRow w.heap.size 5 1 v k (cells8 (padK key c k))) ∧ Below w.heap.size w wr) (fun _ i _ => 64 - (intOf i).toNat)
  case atStart => exact ⟨0, Nat.zero_le _, rfl, own_nil _ _ _, Below.refl _ _⟩
  case round =>
    obtain ⟨k, hk, rfl, H, hB⟩ := hrel
    by_cases hlt : k < 64
    · have HS : Kp _ := ⟨padK_succ key c k⟩
      by_cases hkn : k < n
      · have hky : k < key.length := by rw [HN.out]; exact hkn
        obtain ⟨b, o, rfl, _, hc⟩ := (HA.out.below (hB.mono hL)).cell hkn
        have HX : Kp (key.getD k 0 = key[k]) := ⟨by simp [List.getD, List.getElem?_eq_getElem hky]⟩
        rw [← HX.out] at hc
        generalize key.getD k 0 = x at *
        go_wp2_with (at_builtin; refine wpList_app1 el8 rfl _ _ rfl w.heap.size _ k _ rfl H.out rfl rfl (by simp only [maxLen]; omega) (by omega) hB.size ?_)
        intro v' w' H' hb' _ _
        have H2 : Hid (w'.ownsRow w.heap.size 5 1 v' (k + 1) (cells8 (padK key c (k + 1)))) := by
          show World.ownsRow _ _ _ _ _ _ _
          rw [HS.out, cells8_append]
          exact H'.out
        clear H H'
        go_wp2
        go_roundw
        case rel => exact ⟨k + 1, by omega, by go_num, H2, hB.trans hb'⟩
        case measure => simp [intOf]; omega
      · have HX : Kp (key.getD k 0 = 0) := ⟨by simp [List.getD, List.getElem?_eq_none (show key.length ≤ k by rw [HN.out]; omega)]⟩
        rw [HX.out, UInt8.zero_xor] at HS
        have hx0 : bits .xor .u8 (0 : Int) (c.toNat : Int) = (c.toNat : Int) := by have := u8_xor 0 c; rwa [UInt8.zero_xor] at this
        go_wp2_with (at_builtin; refine wpList_app1 el8 rfl _ _ rfl w.heap.size _ k _ rfl H.out rfl rfl (by simp only [maxLen]; omega) (by omega) hB.size ?_)
        intro v' w' H' hb' _ _
        have H2 : Hid (w'.ownsRow w.heap.size 5 1 v' (k + 1) (cells8 (padK key c (k + 1)))) := by
          show World.ownsRow _ _ _ _ _ _ _
          rw [HS.out, cells8_append]
          exact H'.out
        clear H H'
        go_wp2
        go_roundw
        case rel => exact ⟨k + 1, by omega, by go_num, H2, hB.trans hb'⟩
        case measure => simp [intOf]; omega
    · obtain rfl : k = 64 := by omega
      go_wp2
      go_ret
      exact ⟨_, rfl, H.out, hB⟩
end
end Go.Proofs.Ytnpodomdagodbaa
