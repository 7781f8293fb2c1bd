/- 
    -/
import Derived.Test.YtcehkafddlfleaaGreatDoorG01
import Derived.Test.YtcehkafddlfleaaGreatDoorRows
import Derived.WalkKit
import Derived.LaidEql
import Derived.Stop.Asserts
import Derived.RowKitTokens
namespace Go.Proofs.YtcehkafddlfleaaGreatDoor
open Go.RowKit
set_option maxHeartbeats 400000 in
theorem get_any (A : Option Addr) (n c : Nat) (xs : List UInt8) (w : World) (L : Nat) (ha : Bs w L A n c xs) :
  Calls Tryz.prog 208 #[.slice A n c] w fun e w' => e = .returned (.int .u64 (getN (xs.drop (n - 8)))) ∧ w = w' := by
 have hn := ha.le
 go_enter Tryz.func208, Tryz.ntmps208
 rcases (by omega : 8 ≤ n ∨ n < 8) with h8 | h8
 all_goals
  go_wp2_with (with_reducible refine wpList_cut_l (o := ⟨some 11, _, _, _, _, _⟩) el8 rfl _ _ rfl rfl ha _ _ (n - 8) rfl (by omega) (by omega) ?_)
  intro A' m d hb
  have hlen : (xs.drop (n - 8)).length ≤ 8 := by have := ha.len; simp; omega
  generalize hys : xs.drop (n - 8) = ys at *
  have HYS := Lib.hid hys
  clear hys
  have hm := hb.le
  have HML := Lib.hid hb.len
  go_wp2
  go_loop [3, 13] (fun s i => ∃ k : Nat, k ≤ m ∧ i = .int .i64 k ∧ s = .int .u64 (getN (ys.take k))) (fun _ i => m - (intOf i).toNat)
  case atStart => exact ⟨0, Nat.zero_le _, rfl, rfl⟩
  case round =>
   obtain ⟨k, hk, rfl, rfl⟩ := hrel
   by_cases hlt : k < m
   ·obtain ⟨b, o, rfl, _, hc⟩ := hb.cell hlt
    have hky : k < ys.length := by rw [HML.out]; exact hlt
    have hs := getN_take_succ ys k hky
    have hl8 := getN_lt8 (ys.take (k + 1)) (by simp; omega)
    have HS := Lib.hid (get_step (getN (ys.take k)) (ys[k].toNat) (UInt8.toNat_lt _) (by omega))
    have HS2 := Lib.hid hs
    clear hs hl8
    go_wp2
    go_round
    case rel => exact ⟨k + 1, by omega, by go_num, by rw [HS.out, HS2.out]⟩
    case measure => simp [intOf]; omega
   ·go_wp2
    go_ret
    exact ⟨ret_eq (by rw [List.take_of_length_le (by rw [HML.out]; omega), HYS.out]; rfl), rfl⟩
end Go.Proofs.YtcehkafddlfleaaGreatDoor

namespace Go.Proofs.YtcehkafddlfleaaGreatDoor
open Go.RowKit Go.Extern.Stop Go.Stop Go.Extern
set_option maxRecDepth 100000 in
theorem as_nil (t : Value) (w : World) :
  Calls Tryz.prog 80 #[.nilIface, t] w fun e w' => e = .returned (.bool false) ∧ w' = w := by
 go_enter Tryz.func80, Tryz.ntmps80
 go_wp2
 go_ret
 exact ⟨rfl, rfl⟩
end Go.Proofs.YtcehkafddlfleaaGreatDoor
