/- The contract of Copy. -/
import Derived.Test.YtnpodomdagodbaaWrite
import Derived.Test.YtnpodomdagodbaaHash
namespace Go.Proofs.Ytnpodomdagodbaa
open Go.RowKit

set_option maxRecDepth 100000 in
set_option maxHeartbeats 1000000 in
theorem copy_any (g : Nat) (M : List UInt8) (w : World) (hh : HashIs w g M) :
    Calls Try.prog 22 #[.pointer (some ⟨g, 0, none⟩)] w fun e w' => e = .returned (.pointer (some ⟨w.heap.size, 0, none⟩)) ∧ HashIs w' w.heap.size M ∧ Below w.heap.size w w' := by
  obtain ⟨st, buf, hb, hl, hs, ht⟩ := hh.is
  have HB : Kp _ := ⟨hb⟩
  have HLen : Kp ((hashCells st buf M.length).length = 73) := ⟨hashCells_length _ _ _ hl⟩
  have HRest : Kp (buf.length = 64 ∧ (0 < M.length → st = foldB M (M.length / 64)) ∧ buf.take (M.length % 64) = M.drop (64 * (M.length / 64))) := ⟨hl, hs, ht⟩
  have HZ : Kp (zeroHash.length = 73) := ⟨rfl⟩
  clear hb hl hs ht hh
  go_enter Try.func22, Try.ntmps22
  go_wp2_with (first
    | (with_reducible refine wpList_loadAll (o := ⟨some 8, _, _, _, _, _⟩) rwHash rfl (.tmp 7) rfl rfl HB.out HLen.out ?_)
    | (with_reducible refine wpList_alloc (o := ⟨some 3, _, _, _, _, _⟩) tyHash rfl rfl ?_))
  intro w1 hk1 hb1 hs1
  have HK1 : Kp _ := ⟨hk1⟩
  clear hk1 hs1
  go_wp2_with (with_reducible refine wpList_storeAll (o := ⟨none, _, _, _, _, _⟩) (vs := hashCells st buf M.length) rwHash rfl (.tmp 3) (.tmp 8) rfl rfl HK1.out HZ.out HLen.out (hash_one _ _ _) rfl ?_)
  intro w2 hk2 ho2
  have HK2 : Kp _ := ⟨hk2⟩
  clear hk2
  go_wp2
  go_ret
  exact ⟨rfl, ⟨st, buf, HK2.out, HRest.out⟩, hb1.trans (ho2.below (Nat.le_refl _))⟩
end Go.Proofs.Ytnpodomdagodbaa
