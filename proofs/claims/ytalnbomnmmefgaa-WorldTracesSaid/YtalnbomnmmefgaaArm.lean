/- The contracts of world's armed, runs, slot, hasSeal. -/
import Derived.Test.YtalnbomnmmefgaaPow
import Derived.Test.YtalnbomnmmefgaaBuild
namespace Go.Proofs.Ytalnbomnmmefgaa
open Go.RowKit

def armN (n : Int) : Nat := (min (max n 0) 1000000).toNat
def zeroPw : List Value := [.bool false, .bool false, .int .i64 0]
theorem tyPw : Ty Try.prog 67 zeroPw := ⟨by kernel_rfl⟩
theorem rwPw : Rw Try.prog 67 (match (Try.prog).underlying 67 with | some d => d | none => .bool) 3 := ⟨by kernel_rfl, by kernel_rfl, by kernel_rfl⟩
theorem armN_le (n : Int) : armN n ≤ 1000000 := by unfold armN; omega

theorem pw_one (n : Int) : ∀ v ∈ [Value.bool true, .bool false, .int .i64 n], v.oneCell' = true := by
  intro v hv
  simp only [List.mem_cons, List.not_mem_nil, or_false] at hv
  rcases hv with rfl | rfl | rfl <;> rfl

set_option maxRecDepth 100000 in
set_option maxHeartbeats 400000 in
theorem armed_any (n : Int) (w : World) :
    Calls Try.prog 41 #[.int .i64 n] w fun e w' => e = .returned (.agg #[.bool true, .bool false, .int .i64 (armN n : Int)]) ∧ Below w.heap.size w w' := by
  rcases (by omega : n < 0 ∨ (0 ≤ n ∧ n ≤ 1000000) ∨ 1000000 < n) with h | ⟨h, h2⟩ | h
  · have HN : Kp ((armN n : Int) = 0) := ⟨by unfold armN; omega⟩
    have HZ : Kp (zeroPw.length = 3) := ⟨rfl⟩
    have HV : Kp (([Value.bool true, .bool false, .int .i64 0] : List Value).length = 3) := ⟨rfl⟩
    go_enter Try.func41, Try.ntmps41
    go_wp2_with (with_reducible refine wpList_alloc (o := ⟨some 2, _, _, _, _, _⟩) tyPw rfl rfl ?_)
    intro w1 hk1 hb1 hs1
    have HK1 : Kp _ := ⟨hk1⟩
    clear hk1 hs1
    go_wp2_with (with_reducible refine wpList_storeAll (o := ⟨none, _, _, _, _, _⟩) (vs := [Value.bool true, .bool false, .int .i64 0]) rwPw rfl (.tmp 2) (.tmp 6) rfl rfl HK1.out HZ.out HV.out (pw_one _) rfl ?_)
    intro w2 hk2 ho2
    go_wp2
    refine ret_arr rfl rwPw rfl hk2 HV.out rfl ?_
    exact ⟨by rw [HN.out], hb1.trans (ho2.below (Nat.le_refl _))⟩
  · have HN : Kp ((armN n : Int) = n) := ⟨by unfold armN; omega⟩
    have HZ : Kp (zeroPw.length = 3) := ⟨rfl⟩
    have HV : Kp (([Value.bool true, .bool false, .int .i64 n] : List Value).length = 3) := ⟨rfl⟩
    go_enter Try.func41, Try.ntmps41
    go_wp2_with (with_reducible refine wpList_alloc (o := ⟨some 2, _, _, _, _, _⟩) tyPw rfl rfl ?_)
    intro w1 hk1 hb1 hs1
    have HK1 : Kp _ := ⟨hk1⟩
    clear hk1 hs1
    go_wp2_with (with_reducible refine wpList_storeAll (o := ⟨none, _, _, _, _, _⟩) (vs := [Value.bool true, .bool false, .int .i64 n]) rwPw rfl (.tmp 2) (.tmp 6) rfl rfl HK1.out HZ.out HV.out (pw_one _) rfl ?_)
    intro w2 hk2 ho2
    go_wp2
    refine ret_arr rfl rwPw rfl hk2 HV.out rfl ?_
    exact ⟨by rw [HN.out], hb1.trans (ho2.below (Nat.le_refl _))⟩
  · have HN : Kp ((armN n : Int) = 1000000) := ⟨by unfold armN; omega⟩
    have HZ : Kp (zeroPw.length = 3) := ⟨rfl⟩
    have HV : Kp (([Value.bool true, .bool false, .int .i64 1000000] : List Value).length = 3) := ⟨rfl⟩
    go_enter Try.func41, Try.ntmps41
    go_wp2_with (with_reducible refine wpList_alloc (o := ⟨some 2, _, _, _, _, _⟩) tyPw rfl rfl ?_)
    intro w1 hk1 hb1 hs1
    have HK1 : Kp _ := ⟨hk1⟩
    clear hk1 hs1
    go_wp2_with (with_reducible refine wpList_storeAll (o := ⟨none, _, _, _, _, _⟩) (vs := [Value.bool true, .bool false, .int .i64 1000000]) rwPw rfl (.tmp 2) (.tmp 6) rfl rfl HK1.out HZ.out HV.out (pw_one _) rfl ?_)
    intro w2 hk2 ho2
    go_wp2
    refine ret_arr rfl rwPw rfl hk2 HV.out rfl ?_
    exact ⟨by rw [HN.out], hb1.trans (ho2.below (Nat.le_refl _))⟩
end Go.Proofs.Ytalnbomnmmefgaa
