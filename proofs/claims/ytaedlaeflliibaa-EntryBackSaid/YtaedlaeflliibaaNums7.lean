/- The contracts of codec.Get and of the document's Get and Put. -/
import Derived.Test.YtaedlaeflliibaaEl
import Derived.Test.YtaedlaeflliibaaPure
namespace Go.Proofs.Ytaedlaeflliibaa
open Go.RowKit

set_option maxHeartbeats 400000 in
theorem get_any (A : Option Addr) (n c : Nat) (xs : List UInt8) (w : World) (L : Nat) (ha : Bs w L A n c xs) :
    Calls Try.prog 49 #[.slice A n c] w fun e w' => e = .returned (.int .u64 (getN (xs.drop (n - 8)))) ∧ w = w' := by
  have hn := ha.le
  go_enter Try.func49, Try.ntmps49
  rcases (by omega : 8 ≤ n ∨ n < 8) with h8 | h8
  all_goals
    go_wp2_with (with_reducible refine wpList_cut_l (o := ⟨some 11, _, _, _, _, _⟩) el8 rfl _ _ rfl rfl ha _ _ (n - 8) rfl (by omega) (by omega) ?_)
    intro A' m d hb
    have hlen : (xs.drop (n - 8)).length ≤ 8 := by have := ha.len; simp; omega
    generalize hys : xs.drop (n - 8) = ys at *
    have HYS := Lib.hid hys
    clear hys
    have hm := hb.le
    have HML := Lib.hid hb.len
    go_wp2
    go_loop [3, 13] (fun s i => ∃ k : Nat, k ≤ m ∧ i = .int .i64 k ∧ s = .int .u64 (getN (ys.take k))) (fun _ i => m - (intOf i).toNat)
    case atStart => exact ⟨0, Nat.zero_le _, rfl, rfl⟩
    case round =>
      obtain ⟨k, hk, rfl, rfl⟩ := hrel
      by_cases hlt : k < m
      · obtain ⟨b, o, rfl, _, hc⟩ := hb.cell hlt
        have hky : k < ys.length := by rw [HML.out]; exact hlt
        have hs := getN_take_succ ys k hky
        have hl8 := getN_lt8 (ys.take (k + 1)) (by simp; omega)
        have HS := Lib.hid (get_step (getN (ys.take k)) (ys[k].toNat) (UInt8.toNat_lt _) (by omega))
        have HS2 := Lib.hid hs
        clear hs hl8
        go_wp2
        go_round
        case rel => exact ⟨k + 1, by omega, by go_num, by rw [HS.out, HS2.out]⟩
        case measure => simp [intOf]; omega
      · go_wp2
        go_ret
        exact ⟨ret_eq (by rw [List.take_of_length_le (by rw [HML.out]; omega), HYS.out]; rfl), rfl⟩

set_option maxHeartbeats 400000 in
theorem refget_any (A : Option Addr) (n c : Nat) (xs : List UInt8) (w : World) (L : Nat) (ha : Bs w L A n c xs) :
    Calls Try.prog 36 #[.slice A n c] w fun e w' => e = .returned (.int .u64 ((getN xs % 18446744073709551616 : Nat) : Int)) ∧ w = w' := by
  have hn := ha.le
  have HL := Lib.hid ha.len
  go_enter Try.func36, Try.ntmps36
  go_wp2
  go_loop [3, 4] (fun s i => ∃ k : Nat, k ≤ n ∧ i = .int .i64 k ∧ s = .int .u64 ((getN (xs.take k) % 18446744073709551616 : Nat) : Int)) (fun _ i => n - (intOf i).toNat)
  case atStart => exact ⟨0, Nat.zero_le _, rfl, rfl⟩
  case round =>
    obtain ⟨k, hk, rfl, rfl⟩ := hrel
    by_cases hlt : k < n
    · obtain ⟨b, o, rfl, _, hc⟩ := ha.cell hlt
      have hky : k < xs.length := by rw [HL.out]; exact hlt
      have HS := Lib.hid (refget_step (getN (xs.take k)) (xs[k].toNat))
      have HS2 := Lib.hid (getN_take_succ xs k hky)
      generalize getN (xs.take k) % 18446744073709551616 = g at *
      go_wp2
      go_round
      case rel => exact ⟨k + 1, by omega, by go_num, by rw [HS.out, HS2.out]⟩
      case measure => simp [intOf]; omega
    · go_wp2
      go_ret
      exact ⟨ret_eq (by rw [List.take_of_length_le (by rw [HL.out]; omega)]; rfl), rfl⟩

set_option maxHeartbeats 1000000 in
theorem refput_any (n : Nat) (wide : Int) (w : World) (hn : n < 18446744073709551616) :
    Calls Try.prog 32 #[.int .u64 n, .int .i64 wide] w fun e w' => ∃ v, e = .returned v ∧ w'.ownsRow w.heap.size 5 1 v (min (max wide 0) 8).toNat (cells8 (putN n (min (max wide 0) 8).toNat)) ∧ Below w.heap.size w w' := by
  obtain ⟨N, hN⟩ : ∃ N : Nat, N = (min (max wide 0) 8).toNat := ⟨_, rfl⟩
  rw [← hN]
  have hN8 : N ≤ 8 := by omega
  have HN := Lib.hid hn
  have HNN := Lib.hid hN
  clear hn hN
  go_enter Try.func32, Try.ntmps32
  have hcase : wide < 1 ∨ (1 ≤ wide ∧ wide ≤ 8) ∨ 8 < wide := by omega
  rcases hcase with h | ⟨h0, h⟩ | h
  · obtain rfl : N = 0 := by have := HNN.out; omega
    go_wp2
    go_ret
    exact ⟨_, rfl, own_nil _ _ _, Below.refl _ _⟩
  all_goals
    go_wp2
    go_loopw [5, 6] (fun v i wr => ∃ k : Nat, k ≤ N ∧ i = .int .i64 ((N : Int) - 1 - k) ∧ Hid (wr.ownsRow w.heap.size 5 1 v k (cells8 ((putN n N).take k))) ∧ Below w.heap.size w wr) (fun _ i _ => (intOf i + 1).toNat)
    case atStart => exact ⟨0, Nat.zero_le _, by have := HNN.out; go_num, own_nil _ _ _, Below.refl _ _⟩
    case round =>
      obtain ⟨k, hk, rfl, H, hb⟩ := hrel
      by_cases hlt : k < N
      · go_wp2
        go_loop [7, 8] (fun x j => ∃ m q : Nat, m ≤ N - 1 - k ∧ j = .int .i64 m ∧ x = .int .u64 (q : Int) ∧ Hid (q = n / 256 ^ m)) (fun _ j => N - (intOf j).toNat)
        case atStart => exact ⟨0, n, Nat.zero_le _, rfl, rfl, by simp [Hid]⟩
        case round =>
          obtain ⟨m, q, hm, rfl, rfl, HQ⟩ := hrel
          by_cases hlt2 : m < N - 1 - k
          · have HD := Lib.hid (tdiv256 q (by rw [HQ.out]; exact Nat.lt_of_le_of_lt (Nat.div_le_self _ _) HN.out))
            go_wp2
            go_round
            case rel => exact ⟨m + 1, q / 256, by omega, by go_num, by rw [HD.out], by rw [HQ.out, Nat.div_div_eq_div_mul, ← Nat.pow_succ]; rfl⟩
            case measure => simp [intOf]; omega
          · go_wp2_with (at_builtin; refine wpList_app1 el8 rfl _ _ rfl w.heap.size _ k _ rfl H.out rfl rfl (by simp only [maxLen]; omega) (by omega) hb.size ?_)
            intro v' w' H' hb' _ _
            clear H
            go_wp2
            go_roundw
            case rel =>
              refine ⟨k + 1, by omega, by go_num, ?_, hb.trans hb'⟩
              show World.ownsRow _ _ _ _ _ _ _
              rw [← putN_take n N k hlt]
              obtain rfl : m = N - 1 - k := by omega
              have h1 := H'.out
              rw [HQ.out] at h1
              exact h1
            case measure => simp [intOf]; omega
      · obtain rfl : k = N := by omega
        have H2 := H.out
        rw [List.take_of_length_le (by rw [putN_length]; exact Nat.le_refl _)] at H2
        have H3 := Lib.hid H2
        clear H2 H
        go_wp2
        go_ret
        exact ⟨_, rfl, H3.out, hb⟩
end Go.Proofs.Ytaedlaeflliibaa
