/- The contract of what the chapter's example fixes. -/
import Derived.Test.YtaedlaeflliibaaDoorPtY
import Derived.Test.YtaedlaeflliibaaDoorPtZ
namespace Go.Proofs.YtaedlaeflliibaaDoor
open Go.RowKit Go.Shelf Go.Deep

def exL : Nm := [47, 97, 47, 47, 46, 47, 98, 47]
theorem ex_is : okS exL = true ∧ absS exL = true ∧ namS exL = [[97], [98]] ∧ errS exL = 0 ∧ printA true [[97], [98]] = [47, 97, 47, 98] := by decide +kernel
theorem ss_row (w : World) (t : TypeId) (l : List Nm) (hn : l.length ≤ maxLen) (hk : ∀ x ∈ l, x.length ≤ 140737488351232) : Ss (w.alloc (.cells (stCells l).toArray t)) (w.heap.size + 1) (some ⟨w.heap.size, 0, none⟩) l.length l.length l := by
  have hb := Blk.new w t (stCells l)
  refine ⟨rfl, Nat.le_refl _, hn, (fun h => by cases h), hk, fun _ => ⟨w.heap.size, 0, rfl, by omega, fun j hj => ?_⟩⟩
  rw [Nat.zero_add, hb.cell? j, stCells, List.getElem?_map, List.getElem?_eq_getElem hj]; rfl
section
set_option maxRecDepth 100000
set_option maxHeartbeats 4000000
theorem known15_any (w : World) : Calls Tryd.prog 10 #[] w fun e w' => e = .returned (.bool true) ∧ Below w.heap.size w w' := by
  have HP1 : Kp (∀ W, Calls Tryd.prog 11 #[.string ⟨#[47, 97, 47, 47, 46, 47, 98, 47]⟩] W fun e w' => ∃ A c, e = .returned (.tuple #[.agg #[.bool true, .slice A 2 c], .int .i64 0]) ∧ Ss w' w'.heap.size A 2 c [[97], [98]] ∧ Below W.heap.size W w') := ⟨fun W => by
    refine (parse_any exL W (by decide)).mono ?_
    rintro e w' ⟨A, n, c, rfl, hs, hb⟩
    rw [ex_is.2.2.1] at hs
    obtain rfl : n = 2 := hs.len.symm
    exact ⟨A, c, by rw [ex_is.2.1, ex_is.2.2.2.1], hs, hb⟩⟩
  have HP2 : Kp (∀ W, Calls Tryd.prog 11 #[.string ⟨#[]⟩] W fun e w' => e = .returned (.tuple #[.agg #[.bool false, .slice none 0 0], .int .i64 11]) ∧ Below W.heap.size W w') := ⟨fun W => parse_no [] W (.inl (by decide)) (by decide)⟩
  go_enter Tryd.func10, Tryd.ntmps10
  go_wp2_with fail
  refine (HP1.out _).mono ?_
  rintro e w1 ⟨A, c, rfl, hs1, hb1⟩
  have HS1 : Kp _ := ⟨hs1⟩
  have HB1 : Kp _ := ⟨hb1⟩
  clear hs1 hb1
  go_wp2_with fail
  have HK : Kp _ := ⟨Blk.new w1 25 [.bool true, .slice A 2 c]⟩
  have HB2 : Kp (Below w1.heap.size w1 (w1.alloc (.cells #[.bool true, .slice A 2 c] 25))) := ⟨(Below.refl _ _).alloc (Nat.le_refl _) _⟩
  have HS2 : Kp _ := ⟨HS1.out.below HB2.out⟩
  obtain ⟨w2, hw2⟩ : ∃ w2, w2 = w1.alloc (.cells #[.bool true, .slice A 2 c] 25) := ⟨_, rfl⟩
  have HG : Kp (w1.heap.size < w2.heap.size) := ⟨by rw [hw2]; simp⟩
  rw [← hw2] at HB2 HS2
  have HK2 : Kp (Blk w2 w1.heap.size 25 [.bool true, .slice A 2 c]) := ⟨by rw [hw2]; exact HK.out⟩
  rw [← hw2]
  clear hw2 HK HS1
  obtain ⟨G, hG⟩ : ∃ G, G = w1.heap.size := ⟨_, rfl⟩
  rw [← hG] at HK2 HS2 HG ⊢
  have HW2 : Kp (Below w.heap.size w w2) := ⟨HB1.out.trans (HB2.out.mono HB1.out.size)⟩
  clear hG HB1 HB2
  refine (HP2.out _).mono ?_
  rintro e w3 ⟨rfl, hb3⟩
  have HK3 : Kp _ := ⟨HK2.out.below hb3 HK2.out.lt⟩
  have HS3 : Kp (Ss w3 w3.heap.size A 2 c [[97], [98]]) := ⟨(HS2.out.more (Nat.le_of_lt HG.out)).next hb3 (Nat.le_refl _)⟩
  have HW3 : Kp (Below w.heap.size w w3) := ⟨HW2.out.trans (hb3.mono HW2.out.size)⟩
  clear hb3 HK2 HS2 HW2 HG HP1 HP2
  have HB4 : Kp (Below w3.heap.size w3 (w3.alloc (.cells #[.bool false, .slice none 0 0] 25))) := ⟨(Below.refl _ _).alloc (Nat.le_refl _) _⟩
  obtain ⟨w4, hw4⟩ : ∃ w4, w4 = w3.alloc (.cells #[.bool false, .slice none 0 0] 25) := ⟨_, rfl⟩
  rw [← hw4] at HB4
  have HK4 : Kp _ := ⟨HK3.out.below HB4.out HK3.out.lt⟩
  have HS4 : Kp _ := ⟨HS3.out.next HB4.out (Nat.le_refl _)⟩
  have HW4 : Kp (Below w.heap.size w w4) := ⟨HW3.out.trans (HB4.out.mono HW3.out.size)⟩
  have c0 := HK4.out.cell? 0
  have c1 := HK4.out.cell? 1
  simp only [List.getElem?_cons_succ, List.getElem?_cons_zero] at c0 c1
  go_upto_region 3 with fail
  rw [← hw4]
  clear hw4 HK3 HS3 HW3 HB4
  go_wp2_with fail
  have HB5 : Kp (Below w4.heap.size w4 (w4.alloc (.cells #[.string ⟨#[97]⟩, .string ⟨#[98]⟩] 9))) := ⟨(Below.refl _ _).alloc (Nat.le_refl _) _⟩
  have HS5 : Kp _ := ⟨HS4.out.next HB5.out (Nat.le_refl _)⟩
  have HQ5 : Kp (Ss (w4.alloc (.cells #[.string ⟨#[97]⟩, .string ⟨#[98]⟩] 9)) (w4.alloc (.cells #[.string ⟨#[97]⟩, .string ⟨#[98]⟩] 9)).heap.size (some ⟨w4.heap.size, 0, none⟩) 2 2 [[97], [98]]) := ⟨(ss_row w4 9 [[97], [98]] (by decide) (by decide)).more (by simp)⟩
  refine (refsame_any true true A (some ⟨w4.heap.size, 0, none⟩) 2 c 2 2 [[97], [98]] [[97], [98]] _ _ _ HS5.out HQ5.out (Nat.le_refl _) (Nat.le_refl _)).mono ?_
  rintro e w6 ⟨rfl, hb6⟩
  have HK6 : Kp _ := ⟨(HK4.out.below HB5.out HK4.out.lt).below hb6 (Nat.lt_of_lt_of_le HK4.out.lt HB5.out.size)⟩
  have HS6 : Kp _ := ⟨HS5.out.next hb6 (Nat.le_refl _)⟩
  have HW6 : Kp (Below w.heap.size w w6) := ⟨(HW4.out.trans (HB5.out.mono HW4.out.size)).trans (hb6.mono (Nat.le_trans HW4.out.size HB5.out.size))⟩
  clear hb6 HB5 HS5 HQ5 HK4 HS4 HW4 c0 c1
  have c0 := HK6.out.cell? 0
  have c1 := HK6.out.cell? 1
  simp only [List.getElem?_cons_succ, List.getElem?_cons_zero] at c0 c1
  have e0 : ((true == true) && ([[97], [98]] == ([[97], [98]] : List Nm))) = true := by decide
  rw [e0]
  go_wp2_with fail
  refine (print_any true A 2 c [[97], [98]] _ _ HS6.out (Nat.le_refl _) (by decide)).mono ?_
  rintro e w7 ⟨rfl, hb7⟩
  have HW7 : Kp (Below w.heap.size w w7) := ⟨HW6.out.trans (hb7.mono HW6.out.size)⟩
  rw [ex_is.2.2.2.2]
  clear hb7
  go_wp2
  go_ret
  exact ⟨rfl, HW7.out⟩
end
end Go.Proofs.YtaedlaeflliibaaDoor
