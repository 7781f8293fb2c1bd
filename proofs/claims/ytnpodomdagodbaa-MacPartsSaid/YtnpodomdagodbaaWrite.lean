/- The contracts of package sha's New and Write. -/
import Derived.Test.YtnpodomdagodbaaHash
namespace Go.Proofs.Ytnpodomdagodbaa
open Go.RowKit

set_option maxHeartbeats 400000 in
theorem new_any (w : World) :
    Calls Try.prog 19 #[] w fun e w' => e = .returned (.pointer (some ⟨w.heap.size, 0, none⟩)) ∧ HashIs w' w.heap.size [] ∧ Below w.heap.size w w' := by
  go_enter Try.func19, Try.ntmps19
  go_wp2_with (with_reducible refine wpList_alloc (o := ⟨some 1, _, _, _, _, _⟩) tyHash rfl rfl ?_)
  intro w1 hk1 hb1 hs1
  have HK1 : Kp _ := ⟨hk1⟩
  clear hk1 hs1
  go_wp2
  go_ret
  exact ⟨rfl, hash_zero HK1.out, hb1⟩

set_option maxHeartbeats 400000 in
theorem write_any (g : Nat) (M : List UInt8) (A : Option Addr) (n c : Nat) (l : List UInt8) (w : World) (hh : HashIs w g M)
    (hl : BsA w g A n c l) (hn : M.length + l.length ≤ 1048576) :
    Calls Try.prog 20 #[.pointer (some ⟨g, 0, none⟩), .slice A n c] w fun e w' => e = .returned (.tuple #[]) ∧ HashIs w' g (M ++ l) ∧ w.grownBy w' (some g) := by
  have HH : Kp _ := ⟨hh⟩
  have HL : Kp _ := ⟨hl⟩
  clear hh hl
  go_enter Try.func20, Try.ntmps20
  go_wp2_with fail
  refine (tell_any g M _ 1 1 [l] _ (HH.out.below ((Below.refl _ _).alloc (Nat.le_refl _) _) HH.out.lt) (LsA.one _ HL.out HH.out.lt) (by simpa using hn)).mono ?_
  rintro e w2 ⟨rfl, hg2, hgr⟩
  have HG2 : Kp _ := ⟨hg2⟩
  have hgr2 : w.grownBy w2 (some g) := grown_trans (grown_below ((Below.refl _ _).alloc (Nat.le_refl _) _) _) hgr
  clear hg2 hgr
  go_wp2
  go_end0
  obtain ⟨buf, hg⟩ := HG2.out
  exact ⟨rfl, by simpa using hg.is, hgr2⟩

end Go.Proofs.Ytnpodomdagodbaa
