/- The pure lemmas of MacParts. -/
import Derived.Test.YtnpodomdagodbaaKnown3
import Derived.Test.YtnpodomdagodbaaMacDerive
import Derived.Test.YtnpodomdagodbaaHeld
import Derived.Test.YtnpodomdagodbaaLit
import Derived.Test.YtnpodomdagodbaaSame
namespace Go.Proofs.Ytnpodomdagodbaa
open Go.RowKit

theorem putN_small (r : Nat) (h : r ≤ 4) : cells8 (putN (r + 1) 4) = [.int .u8 0, .int .u8 0, .int .u8 0, .int .u8 (1 + (r : Int))] := by
  have h5 : r = 0 ∨ r = 1 ∨ r = 2 ∨ r = 3 ∨ r = 4 := by omega
  rcases h5 with rfl | rfl | rfl | rfl | rfl <;> rfl
theorem deriveL_tags (key lab : List UInt8) (k : Nat) (h : k ≤ 32) : deriveL key lab ((32 * k : Nat) : Int) = tagsL key lab k := by
  have e1 : clipN ((32 * k : Nat) : Int) = 32 * k := by unfold clipN; omega
  have h1 := tags_any key lab ((32 * k : Nat) : Int) k (by omega)
  rw [e1, List.take_of_length_le (by rw [tagsL_length]; exact Nat.le_refl _)] at h1
  exact h1.symm
theorem tagsL_last (key lab : List UInt8) (r : Nat) : (tagsL key lab (r + 1)).drop (32 * r) = hmacL key (lab ++ putN (r + 1) 4) := by
  show (tagsL key lab r ++ _).drop _ = _
  rw [List.drop_append, tagsL_length, Nat.sub_self, List.drop_zero, List.drop_of_length_le (by rw [tagsL_length]; exact Nat.le_refl _), List.nil_append]
theorem tagsL_first (key lab : List UInt8) (r : Nat) : (tagsL key lab (r + 1)).take 32 = hmacL key (lab ++ putN 1 4) := by
  have h := tagsL_take key lab 1 (r + 1) (by omega)
  rw [h]
  show [] ++ _ = _
  rw [List.nil_append]

end Go.Proofs.Ytnpodomdagodbaa
