/- The contract of codec's Put. -/
import Derived.Test.YtaedlaeflliibaaEl
import Derived.Test.YtaedlaeflliibaaPure
namespace Go.Proofs.Ytaedlaeflliibaa
open Go.RowKit

set_option maxHeartbeats 400000 in
theorem put_any (n : Nat) (wide : Int) (w : World) (hn : n < 18446744073709551616) :
    Calls Try.prog 45 #[.int .u64 n, .int .i64 wide] w fun e w' => ∃ v, e = .returned v ∧ w'.ownsRow w.heap.size 5 1 v (min (max wide 0) 8).toNat (cells8 (putN n (min (max wide 0) 8).toNat)) ∧ Below w.heap.size w w' := by
  obtain ⟨N, hN⟩ : ∃ N : Nat, N = (min (max wide 0) 8).toNat := ⟨_, rfl⟩
  rw [← hN]
  have hN8 : N ≤ 8 := by omega
  have HN := Lib.hid hn
  have HNN := Lib.hid hN
  clear hn hN
  go_enter Try.func45, Try.ntmps45
  have hcase : wide < 0 ∨ (0 ≤ wide ∧ wide ≤ 8) ∨ 8 < wide := by omega
  rcases hcase with h | ⟨h0, h⟩ | h
  all_goals
    go_wp2_with (with_reducible refine wpList_mk (o := ⟨some 10, _, _, _, _, _⟩) el8 rfl _ _ rfl w.heap.size _ _ _ _ N rfl rfl (by have := HNN.out; omega) (by have := HNN.out; omega) (by omega) (by simp only [maxLen]; omega) (Nat.le_refl _) ?_)
    intro w1 hown hg
    have hb1 : Below w.heap.size w w1 := (Below.refl _ _).grown hg (Nat.le_refl _) (by simp)
    have H1 := Lib.hid hown
    clear hg hown
    go_wp2
    go_loopw [13] (fun i wr => ∃ k : Nat, k ≤ N ∧ i = .int .i64 k ∧ Hid (wr.ownsRow w.heap.size 5 1 (.slice (some ⟨w.heap.size, 0, none⟩) N N) N (cells8 (List.replicate (N - k) 0 ++ putN n k))) ∧ Below w.heap.size w wr) (fun i _ => N - (intOf i).toNat)
    case atStart => exact ⟨0, Nat.zero_le _, rfl, by simpa [cells8, putN] using H1, hb1⟩
    case round =>
      obtain ⟨k, hk, rfl, H, hb⟩ := hrel
      by_cases hlt : k < N
      · have hc : wr.cell? ⟨w.heap.size, N - 1 - k, none⟩ = some (.int .u8 0) := by
          have h1 := H.out.cellAt (N - 1 - k) (by omega)
          rw [h1]
          exact put_spot (by omega)
        have hf := H.out.frozenAt (N - 1 - k)
        have HR := Lib.hid (put_row (n := n) hlt)
        go_wp2
        go_roundw
        case rel =>
          have hst := H.out.stored (N - 1 - k) (.int .u8 ((n : Int) / 2 ^ (8 * k) % 256))
          refine ⟨k + 1, by omega, by go_num, ?_, hb.setCell (Nat.le_refl _) _⟩
          show World.ownsRow _ _ _ _ _ _ _
          rw [← HR.out]
          exact hst.1
        case measure => simp [intOf]; omega
      · obtain rfl : k = N := by omega
        have H2 := H.out
        rw [Nat.sub_self] at H2
        simp only [List.replicate_zero, List.nil_append] at H2
        have H3 := Lib.hid H2
        clear H2
        go_wp2
        go_ret
        exact ⟨_, rfl, H3.out, hb⟩

end Go.Proofs.Ytaedlaeflliibaa
