/- The contract of the document's Join. -/
import Derived.Test.YtnpodomdagodbaaEl
namespace Go.Proofs.Ytnpodomdagodbaa
open Go.RowKit

theorem take_flat (ls : List (List UInt8)) (k : Nat) (h : k < ls.length) : (ls.take (k + 1)).flatten = (ls.take k).flatten ++ ls[k] := by
  rw [List.take_succ_eq_append_getElem h, List.flatten_append]; simp
theorem take_flat_le (ls : List (List UInt8)) (k : Nat) : (ls.take k).flatten.length ≤ ls.flatten.length := by
  conv => rhs; rw [← List.take_append_drop k ls, List.flatten_append, List.length_append]
  omega
theorem take_flat_len (ls : List (List UInt8)) (k : Nat) (h : k < ls.length) : (ls.take (k + 1)).flatten.length = (ls.take k).flatten.length + ls[k].length := by
  rw [take_flat ls k h, List.length_append]

set_option maxHeartbeats 400000 in
theorem refjoin_any (A : Option Addr) (n c : Nat) (ls : List (List UInt8)) (w : World) (ha : Ls w w.heap.size A n c ls) (hn : ls.flatten.length ≤ 4294967296) :
    Calls Try.prog 15 #[.slice A n c] w fun e w' => ∃ v, e = .returned v ∧ w'.ownsRow w.heap.size 5 1 v ls.flatten.length (cells8 ls.flatten) ∧ Below w.heap.size w w' := by
  have hle := ha.le
  have HL := Lib.hid ha.len
  go_enter Try.func15, Try.ntmps15
  go_wp2
  go_loopw [3, 4] (fun v i wr => ∃ k' : Nat, k' ≤ n ∧ i = .int .i64 k' ∧ Hid (wr.ownsRow w.heap.size 5 1 v (ls.take k').flatten.length (cells8 (ls.take k').flatten)) ∧ Below w.heap.size w wr) (fun _ i _ => n - (intOf i).toNat)
  case atStart => exact ⟨0, Nat.zero_le _, rfl, own_nil _ _ _, Below.refl _ _⟩
  case round =>
    obtain ⟨j, hj, rfl, H, hB⟩ := hrel
    by_cases hlt2 : j < n
    · obtain ⟨b, o, A', n', c', rfl, _, hc, hbs⟩ := (ha.below hB).at hlt2
      have hkl : j < ls.length := by rw [HL.out]; exact hlt2
      have HT := Lib.hid (take_flat ls j hkl)
      have HTL := Lib.hid (take_flat_len ls j hkl)
      have h1 := take_flat_le ls (j + 1)
      rw [HTL.out, hbs.len] at h1
      generalize (ls.take j).flatten = F at *
      go_wp2_with (at_builtin; refine wpList_app el8 rfl _ _ rfl w.heap.size _ F.length (cells8 F) rfl H.out A' n' c' (cells8 ls[j]) rfl ?_ ?_ hbs.news (cells8_one _) ?_ ?_ hB.size ?_)
      · rw [cells8_length, hbs.len]
      · exact fun h => ⟨by have := hbs.nil h; have := hbs.cap; omega, hbs.nil h⟩
      · simp only [maxLen]; omega
      · omega
      intro v' w' hown' hg _
      have hb' := below_of_grown H.out hB.size hg
      have H' : Hid (w'.ownsRow w.heap.size 5 1 v' (ls.take (j + 1)).flatten.length (cells8 (ls.take (j + 1)).flatten)) := by
        rw [HTL.out, HT.out, cells8_append, hbs.len]; exact hown'
      clear hown' hg H
      go_wp2
      go_roundw
      case rel => exact ⟨j + 1, by omega, by go_num, H', hB.trans hb'⟩
      case measure => simp [intOf]; omega
    · obtain rfl : j = n := by omega
      have H' : Hid (wr.ownsRow w.heap.size 5 1 u3 ls.flatten.length (cells8 ls.flatten)) := by
        have h1 := H.out
        rw [List.take_of_length_le (by rw [HL.out]; exact Nat.le_refl _)] at h1
        exact h1
      clear H
      go_wp2
      go_ret
      exact ⟨_, rfl, H'.out, hB⟩
end Go.Proofs.Ytnpodomdagodbaa
