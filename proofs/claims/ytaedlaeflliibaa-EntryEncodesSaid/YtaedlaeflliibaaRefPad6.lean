/- The contract of the document's Pad. -/
import Derived.Test.YtaedlaeflliibaaCPad
import Derived.Test.YtaedlaeflliibaaEl
namespace Go.Proofs.Ytaedlaeflliibaa
open Go.RowKit
set_option maxHeartbeats 400000 in
theorem refpad_any (A : Option Addr) (n c : Nat) (wide : Int) (xs : List UInt8) (w : World) (ha : Bs w w.heap.size A n c xs) (hn : n ≤ 4294967296) (hw : wide ≤ 4294967296) :
    Calls Try.prog 31 #[.slice A n c, .int .i64 wide] w fun e w' => ∃ v, e = .returned v ∧ w'.ownsRow w.heap.size 5 1 v (padL xs wide).length (cells8 (padL xs wide)) ∧ Below w.heap.size w w' := by
  have HL := Lib.hid ha.len
  go_enter Try.func31, Try.ntmps31
  go_wp2_with (at_builtin; refine wpList_app el8 rfl _ _ rfl w.heap.size _ 0 [] rfl (own_nil _ _ _) A n c (cells8 xs) rfl ?_ ?_ ha.news (cells8_one _) ?_ ?_ (Nat.le_refl _) ?_)
  · rw [cells8_length, HL.out]
  · exact fun h => ⟨by have := ha.nil h; have := ha.cap; omega, ha.nil h⟩
  · simp only [maxLen]; omega
  · omega
  intro v1 w1 hown hg _
  have hbel : Below w.heap.size w w1 := (Below.refl _ _).grown hg (Nat.le_refl _) (by simp [Value.ownBlock])
  have H1 : Hid (w1.ownsRow w.heap.size 5 1 v1 n (cells8 xs)) := by simpa [Hid] using hown
  clear hown hg
  go_wp2
  go_loopw [5] (fun v wr => ∃ k : Nat, k ≤ wide.toNat - n ∧ Hid (wr.ownsRow w.heap.size 5 1 v (n + k) (cells8 (xs ++ List.replicate k 0))) ∧ Below w.heap.size w wr) (fun v _ => match v with | .slice _ m _ => wide.toNat - m | _ => 0)
  case atStart => exact ⟨0, Nat.zero_le _, by simpa [Hid] using H1, hbel⟩
  case round =>
    obtain ⟨k, hk, H, hb⟩ := hrel
    obtain ⟨A5, c5, rfl, _, _, _, _⟩ := own_form H.out
    by_cases hlt : ((n + k : Nat) : Int) < wide
    · go_wp2_with (at_builtin; refine wpList_app1 el8 rfl _ _ rfl w.heap.size _ (n + k) _ rfl H.out rfl rfl (by simp only [maxLen]; omega) (by omega) hb.size ?_)
      intro v' w' H' hb' _ _
      obtain ⟨A6, c6, rfl, _, _, _, _⟩ := own_form H'.out
      go_wp2
      go_roundw
      case rel =>
        refine ⟨k + 1, by omega, ?_, hb.trans hb'⟩
        have h1 := H'.out
        show World.ownsRow _ _ _ _ _ _ _
        have e : cells8 (xs ++ List.replicate (k + 1) 0) = cells8 (xs ++ List.replicate k 0) ++ [.int .u8 0] := by
          rw [List.replicate_succ', ← List.append_assoc, cells8_append]; rfl
        rw [e]
        exact h1
      case measure => simp; omega
    · have e : k = wide.toNat - n := by omega
      have H3 : Hid (wr.ownsRow w.heap.size 5 1 (.slice A5 (n + k) c5) (padL xs wide).length (cells8 (padL xs wide))) := by
        have h1 := H.out
        have e1 : (padL xs wide).length = n + k := by rw [padL_length, HL.out]; omega
        have e2 : padL xs wide = xs ++ List.replicate k 0 := by rw [padL, HL.out, e]
        rw [e1, e2]
        exact h1
      clear e H
      go_wp2
      go_ret
      exact ⟨_, rfl, H3.out, hb⟩
end Go.Proofs.Ytaedlaeflliibaa
