/- The contract of the closure that mac's Tag makes: a block's bytes, each with a byte. -/
import Derived.Test.YtnpodomdagodbaaR3
import Derived.Test.YtnpodomdagodbaaCPad
namespace Go.Proofs.Ytnpodomdagodbaa
open Go.RowKit

theorem padK_row (fl : List UInt8) (c : UInt8) (k : Nat) (hk : k < 64) :
    (cells8 (padK fl c k ++ List.replicate (64 - k) 0)).set k (.int .u8 ((fl.getD k 0 ^^^ c).toNat : Int)) = cells8 (padK fl c (k + 1) ++ List.replicate (64 - (k + 1)) 0) := by
  have h1 : (padK fl c k).length = k := padK_length _ _ _
  rw [padK_succ, List.append_assoc, cells8_append, cells8_append, List.set_append_right _ _ (by rw [cells8_length]; omega), cells8_length, h1, Nat.sub_self]
  rw [show 64 - k = (64 - (k + 1)) + 1 by omega, List.replicate_succ]
  rfl
/-- the bytes that pad lays behind a key make no difference to it -/
theorem padK_padL (key : List UInt8) (c : UInt8) (n : Nat) : padK (padL key 64) c n = padK key c n := by
  unfold padK
  refine List.map_congr_left fun i _ => ?_
  congr 1
  unfold padL
  simp only [List.getD_eq_getElem?_getD]
  by_cases h : i < key.length
  · rw [List.getElem?_append_left h]
  · rw [List.getElem?_append_right (by omega), List.getElem?_eq_none (show key.length ≤ i by omega), List.getElem?_replicate]
    split <;> rfl

section
attribute [local go_sem] u8_xor
set_option maxHeartbeats 1000000 in
theorem padv_any (g : Nat) (F : Option Addr) (d : Nat) (fl : List UInt8) (c : UInt8) (w : World) (hc : w.cell? ⟨g, 0, none⟩ = some (.slice F 64 d)) (hg : g < w.heap.size) (ha : Bs w w.heap.size F 64 d fl) :
    Calls Try.prog 39 #[.int .u8 c.toNat, .pointer (some ⟨g, 0, none⟩)] w fun e w' => ∃ v, e = .returned v ∧ w'.ownsRow w.heap.size 5 1 v 64 (cells8 (padK fl c 64)) ∧ Below w.heap.size w w' := by
  have HA : Kp _ := ⟨ha⟩
  have HN : Kp _ := ⟨ha.len⟩
  have HC : Kp _ := ⟨hc⟩
  clear ha hc
  go_enter Try.func39, Try.ntmps39
  go_wp2_with (with_reducible refine wpList_mk (o := ⟨some 6, _, _, _, _, _⟩) el8 rfl _ _ rfl w.heap.size _ _ _ _ 64 rfl rfl (by omega) (by omega) (by omega) (by simp only [maxLen]; omega) (Nat.le_refl _) ?_)
  intro w1 hown hg1
  have hb1 : Below w.heap.size w w1 := (Below.refl _ _).grown hg1 (Nat.le_refl _) (by simp)
  have H1 := Lib.hid hown
  clear hg1 hown
  go_wp2
  go_loopw [9] (fun i wr => ∃ k : Nat, k ≤ 64 ∧ i = .int .i64 k ∧ Hid (wr.ownsRow w.heap.size 5 1 (.slice (some ⟨w.heap.size, 0, none⟩) 64 64) 64 (cells8 (padK fl c k ++ List.replicate (64 - k) 0))) ∧ Below w.heap.size w wr) (fun i _ => 64 - (intOf i).toNat)
  case atStart => exact ⟨0, Nat.zero_le _, rfl, by simpa [cells8, padK] using H1, hb1⟩
  case round =>
    obtain ⟨k, hk, rfl, H, hb⟩ := hrel
    by_cases hlt : k < 64
    · have hkl : k < fl.length := by rw [HN.out]; exact hlt
      have hcv : wr.cell? ⟨g, 0, none⟩ = some (.slice F 64 d) := (hb.cell hg).trans HC.out
      obtain ⟨b, o, rfl, _, hcx⟩ := (HA.out.below hb).cell hlt
      have HX : Kp (fl.getD k 0 = fl[k]) := ⟨by simp [List.getD, List.getElem?_eq_getElem hkl]⟩
      have HR := Lib.hid (padK_row fl c k hlt)
      rw [← HX.out] at hcx
      generalize fl.getD k 0 = x at *
      have hcz : (wr.cell? ⟨w.heap.size, k, none⟩).isSome = true := by
        rw [H.out.cellAt k (by omega)]
        simp [cells8, padK]; omega
      have hf := H.out.frozenAt k
      obtain ⟨z, hz⟩ := Option.isSome_iff_exists.1 hcz
      clear hcz
      go_wp2
      go_roundw
      case rel =>
        have hst := H.out.stored k (.int .u8 ((x ^^^ c).toNat : Int))
        refine ⟨k + 1, by omega, by go_num, ?_, hb.setCell (Nat.le_refl _) _⟩
        show World.ownsRow _ _ _ _ _ _ _
        rw [← HR.out]
        exact hst.1
      case measure => simp [intOf]; omega
    · obtain rfl : k = 64 := by omega
      have H2 := H.out
      rw [Nat.sub_self] at H2
      simp only [List.replicate_zero, List.append_nil] at H2
      have H3 := Lib.hid H2
      clear H2
      go_wp2
      go_ret
      exact ⟨_, rfl, H3.out, hb⟩
end
end Go.Proofs.Ytnpodomdagodbaa
