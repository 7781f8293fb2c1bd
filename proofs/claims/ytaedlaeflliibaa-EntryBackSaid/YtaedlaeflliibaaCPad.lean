/- The contract of codec's Pad. -/
import Derived.Test.YtaedlaeflliibaaEl
import Derived.Test.YtaedlaeflliibaaPure
namespace Go.Proofs.Ytaedlaeflliibaa
open Go.RowKit

def padL (xs : List UInt8) (wide : Int) : List UInt8 := xs ++ List.replicate (wide.toNat - xs.length) 0
theorem padL_length (xs : List UInt8) (wide : Int) : (padL xs wide).length = max xs.length wide.toNat := by simp [padL]; omega

set_option maxHeartbeats 400000 in
theorem pad_any (A : Option Addr) (n c : Nat) (wide : Int) (xs : List UInt8) (w : World) (ha : Bs w w.heap.size A n c xs) (hn : n ≤ 4294967296) (hw : wide ≤ 4294967296) :
    Calls Try.prog 46 #[.slice A n c, .int .i64 wide] w fun e w' => ∃ v, e = .returned v ∧ w'.ownsRow w.heap.size 5 1 v (padL xs wide).length (cells8 (padL xs wide)) ∧ Below w.heap.size w w' := by
  obtain ⟨N, hN⟩ : ∃ N : Nat, N = max n wide.toNat := ⟨_, rfl⟩
  have HNN := Lib.hid hN
  have HL := Lib.hid ha.len
  have hN1 : N ≤ 4294967296 := by omega
  clear hN
  go_enter Try.func46, Try.ntmps46
  rcases (by omega : (n : Int) < wide ∨ wide ≤ (n : Int)) with h | h
  all_goals
    go_wp2_with (with_reducible refine wpList_mk (o := ⟨some 10, _, _, _, _, _⟩) el8 rfl _ _ rfl w.heap.size _ _ _ _ N rfl rfl (by have := HNN.out; omega) (by have := HNN.out; omega) (by omega) (by simp only [maxLen]; omega) (Nat.le_refl _) ?_)
    intro w1 hown hg
    have hb1 : Below w.heap.size w w1 := (Below.refl _ _).grown hg (Nat.le_refl _) (by simp)
    have H1 := Lib.hid hown
    have ha1 := ha.below hb1
    clear hg hown
    go_wp2_with (with_reducible refine wpList_copyBs (o := ⟨some 13, _, _, _, _, _⟩) el8 rfl _ _ rfl w.heap.size _ _ _ rfl H1.out rfl ha1 ?_)
    intro w2 H2 hb2 _
    have H3 : Hid (w2.ownsRow w.heap.size 5 1 (.slice (some ⟨w.heap.size, 0, none⟩) N N) (padL xs wide).length (cells8 (padL xs wide))) := by
      have h2 := H2.out
      have e1 : (padL xs wide).length = N := by rw [padL_length, HL.out, HNN.out]
      have e2 : cells8 (xs.take N) ++ List.replicate (N - n) (Value.int .u8 0) = cells8 (padL xs wide) := by
        rw [List.take_of_length_le (by rw [HL.out, HNN.out]; omega), padL, cells8_append, HL.out]
        simp [cells8]
        have := HNN.out
        omega
      rw [e2] at h2
      rw [e1]
      exact h2
    clear H1 H2
    go_wp2
    go_ret
    exact ⟨_, rfl, H3.out, hb1.trans hb2⟩

end Go.Proofs.Ytaedlaeflliibaa
