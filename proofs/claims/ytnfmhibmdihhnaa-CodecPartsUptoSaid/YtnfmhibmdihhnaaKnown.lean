/- The contract of known: what the chapter's example fixes. -/
import Derived.Test.YtnfmhibmdihhnaaCuts
namespace Go.Proofs.Ytnfmhibmdihhnaa
open Go.RowKit

theorem Zs.two {w : World} {k : IntKind} (t : TypeId) (x y : Int) (hx : (Lit.int k x).wf = true) (hy : (Lit.int k y).wf = true) : Zs (w.alloc (.cells #[.int k x, .int k y] t)) (w.heap.size + 1) k (some ⟨w.heap.size, 0, none⟩) 2 2 [x, y] := by
  refine ⟨rfl, Nat.le_refl _, by simp [maxLen], (fun h => by cases h), fun z hz => ?_, fun _ => ⟨w.heap.size, 0, rfl, by omega, fun j hj => ?_⟩⟩
  · rcases (by simpa using hz : z = x ∨ z = y) with rfl | rfl
    · exact hx
    · exact hy
  · rcases (by simp at hj; omega : j = 0 ∨ j = 1) with rfl | rfl
    · rw [World.cell?_alloc_at _ _ _ _ rfl]; rfl
    · rw [World.cell?_alloc_at _ _ _ _ rfl]; rfl

set_option maxHeartbeats 1000000 in
theorem known_any (w : World) :
    Calls Try.prog 10 #[] w fun e w' => e = .returned (.bool true) ∧ Below w.heap.size w w' := by
  go_enter Try.func10, Try.ntmps10
  go_wp2_with fail
  refine (put_any 258 3 _ (by decide)).mono ?_
  rintro e w1 ⟨v1, rfl, hown, hB1⟩
  have hown' : w1.ownsRow w.heap.size 5 1 v1 3 (cells8 [0, 1, 2]) := hown
  obtain ⟨A1, c1, rfl, hbs1⟩ := Bs.of_own hown'
  have HB := Lib.hid hbs1
  clear hown hown'
  go_wp2_with fail
  refine (cut_any A1 (some ⟨w1.heap.size, 0, none⟩) 3 c1 2 2 [0, 1, 2] [1, 2] _ ((HB.out.alloc (Nat.le_refl _) _).more (by simp)) (by have := Zs.two (w := w1) (k := .i64) 3 1 2 rfl rfl; simpa using this) (by decide) (by decide)).mono ?_
  rintro e w2 ⟨A2, n2, c2, rfl, hls2, hB2⟩
  have hn2 : n2 = 2 := by have := hls2.len; rw [show (cutF [0, 1, 2] [1, 2]).length = 2 from rfl] at this; omega
  subst hn2
  have hB2' : Below w1.heap.size w1 w2 := ((Below.refl _ _).alloc (Nat.le_refl _) _).trans (hB2.mono (by simp))
  have HB2 := Lib.hid (HB.out.below hB2')
  clear hls2 hB2
  go_wp2_with fail
  refine (cut_any A1 (some ⟨w2.heap.size, 0, none⟩) 3 c1 2 2 [0, 1, 2] [1, 1] _ (((HB2.out.more hB2'.size).alloc (Nat.le_refl _) _).more (by simp)) (by have := Zs.two (w := w2) (k := .i64) 3 1 1 rfl rfl; simpa using this) (by decide) (by decide)).mono ?_
  rintro e w3 ⟨A3, n3, c3, rfl, hls3, hB3⟩
  have hB3' : Below w2.heap.size w2 w3 := ((Below.refl _ _).alloc (Nat.le_refl _) _).trans (hB3.mono (by simp))
  have HB3 := Lib.hid (HB2.out.below (hB3'.mono hB2'.size))
  clear hls3 hB3
  obtain ⟨b, o, rfl, _, hc1⟩ := HB3.out.cell (i := 1) (by decide)
  obtain ⟨b', o', e1, _, hc2⟩ := HB3.out.cell (i := 2) (by decide)
  have e2 := Option.some.inj e1
  injection e2 with e3 e4
  subst e3; subst e4
  clear e1
  have hc1' : w3.cell? ⟨b, o + 1, none⟩ = some (.int .u8 1) := hc1
  have hc2' : w3.cell? ⟨b, o + 2, none⟩ = some (.int .u8 2) := hc2
  clear hc1 hc2
  have hE1 : ((cutE [0, 1, 2] [1, 2] : Nat) : Int) = 0 := rfl
  have hE2 : ((cutE [0, 1, 2] [1, 1] : Nat) : Int) = 4 := rfl
  go_wp2_with fail
  refine (equal_any none none 0 0 0 0 [] [] _ (Bs.zero _ _) (Bs.zero _ _)).mono ?_
  rintro e w4 ⟨rfl, hB4⟩
  go_wp2
  go_ret
  exact ⟨rfl, hB1.trans ((hB2'.mono hB1.size).trans ((hB3'.mono (Nat.le_trans hB1.size hB2'.size)).trans (hB4.mono (Nat.le_trans hB1.size (Nat.le_trans hB2'.size hB3'.size)))))⟩
end Go.Proofs.Ytnfmhibmdihhnaa
