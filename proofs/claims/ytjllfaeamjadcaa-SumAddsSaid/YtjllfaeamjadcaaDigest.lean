/- The contracts of package sha's digest and ending. -/
import Derived.Test.YtjllfaeamjadcaaComp
import Derived.Test.YtjllfaeamjadcaaDig
namespace Go.Proofs.Ytjllfaeamjadcaa
open Go.RowKit

set_option maxRecDepth 100000 in
set_option maxHeartbeats 4000000 in
theorem digest_any (S : St) (w : World) :
    Calls Try.prog 48 #[.agg (cells32 S.list).toArray] w fun e w' => e = .returned (.agg (cells8 (digestL S)).toArray) ∧ Below w.heap.size w w' := by
  go_enter Try.func48, Try.ntmps48
  go_wp2_with (with_reducible refine wpList_box (o := ⟨some 1, _, _, _, _, _⟩) rfl (.tmp 0) rfl rfl ?_)
  intro w1 hk1 hb1 hs1
  have HK1 : Kp _ := ⟨hk1⟩
  clear hk1
  go_wp2_with (with_reducible refine wpList_alloc (o := ⟨some 2, _, _, _, _, _⟩) tyDig rfl rfl ?_)
  intro w2 hk2 hb2 hs2
  have HK2 : Kp _ := ⟨hk2⟩
  clear hk2
  go_wp2_with (with_reducible refine wpList_alloc (o := ⟨some 3, _, _, _, _, _⟩) tyDig rfl rfl ?_)
  intro w3 hk3 hb3 hs3
  have HB3 : Kp (Blk w3 (w.heap.size + 1 + 1) 23 (cells8 (outAt (digestL S) 0))) := ⟨hk3⟩
  have HB2 : Kp _ := ⟨HK2.out.below hb3 (by omega)⟩
  have HB1 : Kp _ := ⟨(HK1.out.below hb2 (by omega)).below hb3 (by omega)⟩
  have hB3 : Below w.heap.size w w3 := (hb1.trans (hb2.mono (by omega))).trans (hb3.mono (by omega))
  clear HK1 HK2 hk3 hb1 hb2 hb3 hs1 hs2 hs3
  go_wp2
  go_loopw [5] (fun v wr => ∃ j : Nat, j ≤ 32 ∧ v = .int .i64 j ∧ Kp (Blk wr (w.heap.size + 1 + 1) 23 (cells8 (outAt (digestL S) j))) ∧ Only (w.heap.size + 1 + 1) w3 wr) (fun v _ => 32 - (intOf v).toNat)
  case atStart => exact ⟨0, Nat.zero_le _, rfl, HB3, Only.refl _ _⟩
  case round =>
    clear HB3
    obtain ⟨j, hj, rfl, HB, ho⟩ := hrel
    by_cases hlt : j < 32
    · obtain ⟨q, hq⟩ : ∃ q, q = j / 4 := ⟨_, rfl⟩
      obtain ⟨r, hr⟩ : ∃ r, r = j % 4 := ⟨_, rfl⟩
      have hq8 : q < 8 := by omega
      have hr4 : r < 4 := by omega
      have HJ : Kp (4 * q + r = j) := ⟨by omega⟩
      have cs : wr.cell? ⟨w.heap.size, q, none⟩ = some (.int .u32 ((S.list.getD q 0).toNat : Int)) := by rw [(HB1.out.only ho (by omega)).cell? q]; exact St_at S q hq8
      have hqi : ((j : Int) / 4) = (q : Int) := by omega
      have hqw : IntKind.i64.wrap (q : Int) = (q : Int) := by rw [IntKind.wrap_i64]; omega
      have hq8i : (q : Int) < 8 := by omega
      have hlen : (cells8 (outAt (digestL S) j)).length = 32 := by rw [cells8_length, outAt_length _ (digestL_length S) _ hj]
      have hco := HB.out.cell (i := j) (by omega)
      have hfo := HB.out.frozen j
      have HSet : Kp _ := ⟨outAt_set (digestL S) (digestL_length S) j hlt⟩
      have HDB : Kp (((((digestL S).getD j 0).toNat : Nat) : Int) = ((S.list.getD q 0).toNat : Int) / ((256 ^ (3 - r) : Nat) : Int) % 256) := ⟨by rw [← HJ.out]; exact digest_byte S q r hq8 hr4⟩
      generalize (cells8 (outAt (digestL S) j))[j]'(by omega) = old at hco
      generalize S.list.getD q 0 = x at *
      generalize (digestL S).getD j 0 = y at *
      have hri : ((j : Int) % 4) = (r : Int) := by omega
      have hjj : (j : Int) < 32 := by omega
      clear hq hr hlen HJ
      have hcase : r = 0 ∨ r = 1 ∨ r = 2 ∨ r = 3 := by omega
      rcases hcase with rfl | rfl | rfl | rfl
      all_goals
        go_wp2
        refine ⟨⟨j + 1, by omega, by go_num, ⟨?_⟩, ho.trans (Only.setCell wr ⟨w.heap.size + 1 + 1, j, none⟩ _)⟩, by simp [intOf]; omega⟩
        have h3 := HB.out.set j (.int .u8 (y.toNat : Int))
        rw [HSet.out] at h3
        have e2 := HDB.out
        simp at e2
        rw [e2] at h3
        exact h3
    · have HJ : Kp (j = 32) := ⟨by omega⟩
      have HLen : Kp ((cells8 (digestL S)).length = 32) := ⟨by rw [cells8_length, digestL_length]⟩
      have HB8 : Kp (Blk wr (w.heap.size + 1 + 1) 23 (cells8 (digestL S))) := ⟨by
        have h1 := HB.out
        rw [HJ.out, outAt_end _ (digestL_length S)] at h1
        exact h1⟩
      have HRr : Kp _ := ⟨HB2.out.only ho (by omega)⟩
      have HZ : Kp (zero32.length = 32) := ⟨rfl⟩
      clear HB HB1 HB2
      go_wp2_with (first
        | (with_reducible refine wpList_loadAll (o := ⟨some 21, _, _, _, _, _⟩) rwDig rfl (.tmp 3) rfl rfl HB8.out HLen.out ?_)
        | (with_reducible refine wpList_storeAll (o := ⟨none, _, _, _, _, _⟩) (vs := cells8 (digestL S)) rwDig rfl (.tmp 2) (.tmp 21) rfl rfl HRr.out HZ.out HLen.out (cells8_one _) rfl ?_))
      intro w13 hk14 ho13
      have HK14 : Kp _ := ⟨hk14⟩
      clear hk14
      go_wp2
      exact ret_arr rfl rwDig rfl HK14.out HLen.out rfl ⟨rfl, (hB3.trans (ho.below (by omega))).trans (ho13.below (by omega))⟩
end Go.Proofs.Ytjllfaeamjadcaa
