/- The contract of the second chapter's known. -/
import Derived.Test.YtnpodomdagodbaaShaGen
import Derived.Lib.SlBytesConst
namespace Go.Proofs.Ytnpodomdagodbaa
open Go.RowKit

set_option maxRecDepth 1000000 in
theorem sha_abc : (cells8 (shaL [97, 98, 99]))[0]? = some (.int .u8 186) ∧ (cells8 (shaL [97, 98, 99]))[1]? = some (.int .u8 120) ∧ (cells8 (shaL [97, 98, 99]))[31]? = some (.int .u8 173) := by
  have h : (shaL [97, 98, 99])[0]? = some 186 ∧ (shaL [97, 98, 99])[1]? = some 120 ∧ (shaL [97, 98, 99])[31]? = some 173 := by decide +kernel
  obtain ⟨h1, h2, h3⟩ := h
  simp only [cells8, List.getElem?_map, h1, h2, h3]
  exact ⟨rfl, rfl, rfl⟩

theorem abc_bs (w : World) (t : TypeId) (fr : Nat × Nat) : Bs (w.alloc (.cells #[.int .u8 97, .int .u8 98, .int .u8 99] t fr)) (w.heap.size + 1) (some ⟨w.heap.size, 0, none⟩) 3 3 [97, 98, 99] := by
  refine ⟨rfl, Nat.le_refl _, by decide, (fun h => by cases h), fun _ => ⟨w.heap.size, 0, rfl, by omega, fun j hj => ?_⟩⟩
  have hb : (w.alloc (.cells #[.int .u8 97, .int .u8 98, .int .u8 99] t fr)).heap[w.heap.size]? = some (.cells #[.int .u8 97, .int .u8 98, .int .u8 99] t fr) := by
    show (w.heap.push _)[w.heap.size]? = _
    simp
  rw [cell_of_row _ _ _ _ _ _ hb]
  have h3 : j = 0 ∨ j = 1 ∨ j = 2 := by simp at hj; omega
  rcases h3 with rfl | rfl | rfl <;> rfl
theorem abc_ls (w : World) (t t' : TypeId) (fr : Nat × Nat) : Ls ((w.alloc (.cells #[.int .u8 97, .int .u8 98, .int .u8 99] t fr)).alloc (.cells #[.slice (some ⟨w.heap.size, 0, none⟩) 3 3] t')) ((w.alloc (.cells #[.int .u8 97, .int .u8 98, .int .u8 99] t fr)).alloc (.cells #[.slice (some ⟨w.heap.size, 0, none⟩) 3 3] t')).heap.size (some ⟨w.heap.size + 1, 0, none⟩) 1 1 [[97, 98, 99]] := by
  have h1 := (abc_bs w t fr).more (B' := (w.alloc (.cells #[.int .u8 97, .int .u8 98, .int .u8 99] t fr)).heap.size) (by simp)
  have h2 := (Ls.one t' h1).more (B' := ((w.alloc (.cells #[.int .u8 97, .int .u8 98, .int .u8 99] t fr)).alloc (.cells #[.slice (some ⟨w.heap.size, 0, none⟩) 3 3] t')).heap.size) (by simp)
  have e : (w.alloc (.cells #[.int .u8 97, .int .u8 98, .int .u8 99] t fr)).heap.size = w.heap.size + 1 := by simp
  rw [e] at h2
  exact h2

set_option maxRecDepth 100000 in
set_option maxHeartbeats 2000000 in
theorem known2_any (w : World) :
    Calls Try.prog 16 #[] w fun e w' => e = .returned (.bool true) ∧ Below w.heap.size w w' := by
  have hcv : ∀ W : World, (convert 23 23 (.slice (some ⟨W.heap.size, 0, none⟩) 3 3)).run Try.prog (W.alloc (.cells #[.int .u8 97, .int .u8 98, .int .u8 99] 5)) = .ok (.slice (some ⟨W.heap.size, 0, none⟩) 3 3) (W.alloc (.cells #[.int .u8 97, .int .u8 98, .int .u8 99] 5 (3, 4))) := fun W => Lib.run_convert_bytes_const W _ _ _ 3 3 el8.ty (by kernel_rfl)
  go_enter Try.func16, Try.ntmps16
  go_wp2_with fail
  refine (sumf_any _ 1 1 [[97, 98, 99]] _ (abc_ls w _ _ _) (by decide)).mono ?_
  clear hcv
  have HABC : Kp _ := ⟨sha_abc⟩
  have H32 : Kp ((cells8 (shaL [97, 98, 99])).length = 32) := ⟨by rw [cells8_length]; unfold shaL; rw [digestL_length]⟩
  have HZ32 : Kp (zero32.length = 32) := ⟨rfl⟩
  have e3 : ([[97, 98, 99]] : List (List UInt8)).flatten = [97, 98, 99] := rfl
  rw [e3]
  clear e3
  generalize shaL [97, 98, 99] = D at *
  rintro e w1 ⟨rfl, hb1⟩
  go_wp2_with (with_reducible refine wpList_alloc (o := ⟨some 1, _, _, _, _, _⟩) tyDig rfl rfl ?_)
  intro w2 hk2 hb2 hs2
  have HK2 : Kp _ := ⟨hk2⟩
  clear hk2
  go_wp2_with (with_reducible refine wpList_storeAll (o := ⟨none, _, _, _, _, _⟩) (vs := cells8 D) rwDig rfl (.tmp 1) (.tmp 6) rfl rfl HK2.out HZ32.out H32.out (cells8_one _) rfl ?_)
  intro w3 hk3 ho3
  have hk0 : w3.cell? ⟨w1.heap.size, 0, none⟩ = some (.int .u8 186) := by rw [hk3.cell? 0]; exact HABC.out.1
  have hk1 : w3.cell? ⟨w1.heap.size, 1, none⟩ = some (.int .u8 120) := by rw [hk3.cell? 1]; exact HABC.out.2.1
  have hk31 : w3.cell? ⟨w1.heap.size, 31, none⟩ = some (.int .u8 173) := by rw [hk3.cell? 31]; exact HABC.out.2.2
  have heq : ∀ W : World, (Op.equalIn 10000 27 (.agg (cells8 (List.replicate 32 0)).toArray) (.agg #[.int .u8 0, .int .u8 0, .int .u8 0, .int .u8 0, .int .u8 0, .int .u8 0, .int .u8 0, .int .u8 0, .int .u8 0, .int .u8 0, .int .u8 0, .int .u8 0, .int .u8 0, .int .u8 0, .int .u8 0, .int .u8 0, .int .u8 0, .int .u8 0, .int .u8 0, .int .u8 0, .int .u8 0, .int .u8 0, .int .u8 0, .int .u8 0, .int .u8 0, .int .u8 0, .int .u8 0, .int .u8 0, .int .u8 0, .int .u8 0, .int .u8 0, .int .u8 0])).run Try.prog W = .ok true W := fun W =>
    (run_equalIn_bytes eqDig W (List.replicate 32 0) (List.replicate 32 0) (by simp) (by simp)).trans (by rw [beq_self_eq_true])
  have hB3 : Below w.heap.size w w3 := ((((Below.refl w.heap.size w).alloc (Nat.le_refl _) _).alloc (by simp) _).trans (hb1.mono (by simp; omega))).trans ((hb2.mono (by have := hb1.size; simp at this; omega)).trans (ho3.below (by have := hb1.size; simp at this; omega)))
  have hs1 := hb1.size
  have hs3 := ho3.size
  clear hk3 HK2 hb1 hb2 ho3
  go_wp2_with fail
  refine (sum_nil _).mono ?_
  rintro e w4 ⟨rfl, hb4⟩
  generalize (cells8 (List.replicate 32 0)).toArray = Z at *
  go_wp2
  go_ret
  exact ⟨rfl, hB3.trans (hb4.mono (by simp at hs1; omega))⟩
end Go.Proofs.Ytnpodomdagodbaa
