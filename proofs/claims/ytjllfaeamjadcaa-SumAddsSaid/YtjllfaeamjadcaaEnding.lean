/- The contract of package sha's ending. -/
import Derived.Test.YtjllfaeamjadcaaDigest
import Derived.Test.YtjllfaeamjadcaaPure
namespace Go.Proofs.Ytjllfaeamjadcaa
open Go.RowKit

theorem blk_of_own {w : World} {base g n : Nat} {e : TypeId} {xs : List Value} (h : w.ownsRow base e 1 (.slice (some ⟨g, 0, none⟩) n n) n xs) : Blk w g e xs := ⟨(own_full h).1⟩
/-- the ending, the last k bytes laid -/
def endK (n z k : Nat) : List UInt8 := 128 :: (List.replicate (z + 8 - k) 0 ++ putN (8 * n) k)
theorem endK_first (n z : Nat) : (cells8 (List.replicate (z + 9) 0)).set 0 (.int .u8 128) = cells8 (endK n z 0) := by
  unfold endK
  rw [show z + 9 = (z + 8) + 1 by omega, List.replicate_succ]
  simp [cells8, putN]
theorem endK_next (n z k p : Nat) (h : k < 8) (hp : p + 1 + k = z + 9) : (cells8 (endK n z k)).set p (.int .u8 (((8 * n : Nat) : Int) / 2 ^ (8 * k) % 256)) = cells8 (endK n z (k + 1)) := by
  unfold endK
  have e := put_row (n := 8 * n) (N := z + 8) (k := k) (by omega)
  obtain ⟨p', rfl⟩ : ∃ p', p = p' + 1 := ⟨p - 1, by omega⟩
  rw [show p' = z + 8 - 1 - k by omega]
  simp only [cells8, List.map_cons] at e ⊢
  rw [List.set_cons_succ, e]
theorem endK_end (n : Nat) : endK n ((119 - n % 64) % 64) 8 = ending n := by unfold endK ending; simp
theorem endK_length (n z k : Nat) (h : k ≤ 8) : (cells8 (endK n z k)).length = z + 9 := by rw [cells8_length]; simp [endK, putN_length]; omega

set_option maxRecDepth 100000 in
set_option maxHeartbeats 4000000 in
theorem ending_any (n : Nat) (w : World) (hn : n ≤ 1048576) :
    Calls Try.prog 47 #[.int .u64 n] w fun e w' => ∃ v, e = .returned v ∧ w'.ownsRow w.heap.size 5 1 v (ending n).length (cells8 (ending n)) ∧ Below w.heap.size w w' := by
  obtain ⟨Z, hZ⟩ : ∃ Z, Z = (119 - n % 64) % 64 := ⟨_, rfl⟩
  have hz : (119 - (n : Int) % 64) % 64 = (Z : Int) := by omega
  have hZ64 : Z < 64 := by omega
  have HZ : Kp _ := ⟨hZ⟩
  clear hZ
  obtain ⟨M, hM⟩ : ∃ M, M = Z + 9 := ⟨_, rfl⟩
  have hM1 : (9 : Int) ≤ (M : Int) := by omega
  have hM2 : (M : Int) ≤ 72 := by omega
  have hM3 : 0 < M := by omega
  have HM : Kp _ := ⟨hM⟩
  clear hM
  go_enter Try.func47, Try.ntmps47
  go_wp2_with (with_reducible refine wpList_mk (o := ⟨some 13, _, _, _, _, _⟩) el8 rfl (.tmp 12) (.tmp 12) rfl w.heap.size .u64 .u64 _ _ M rfl rfl (by have := HM.out; omega) (by have := HM.out; omega) (by have := HM.out; omega) (by have := HM.out; simp only [maxLen]; omega) (Nat.le_refl _) ?_)
  intro w1 hown1 hg1
  have hb1 : Below w.heap.size w w1 := (Below.refl _ _).grown hg1 (Nat.le_refl _) (by simp)
  have HB1 : Kp (Blk w1 w.heap.size 5 (cells8 (List.replicate (Z + 9) 0))) := ⟨by
    have h1 := blk_of_own hown1
    rw [HM.out] at h1
    rw [cells8, List.map_replicate]
    exact h1⟩
  have hc0 : w1.cell? ⟨w.heap.size, 0, none⟩ = some (.int .u8 0) := by
    rw [HB1.out.cell? 0, List.replicate_succ]; rfl
  have hf0 := HB1.out.frozen 0
  clear hown1 hg1
  go_wp2
  go_loopw [16] (fun v wr => ∃ k : Nat, k ≤ 8 ∧ v = .int .i64 k ∧ Kp (Blk wr w.heap.size 5 (cells8 (endK n Z k))) ∧ Below w.heap.size w wr) (fun v _ => 8 - (intOf v).toNat)
  case atStart =>
    refine ⟨0, Nat.zero_le _, rfl, ⟨?_⟩, hb1.setCell (Nat.le_refl _) _⟩
    rw [← endK_first]
    exact HB1.out.set 0 (.int .u8 128)
  case round =>
    clear HB1 hc0 hf0 hb1
    obtain ⟨k, hk, rfl, HB, hb⟩ := hrel
    by_cases hlt : k < 8
    · obtain ⟨p, hp⟩ : ∃ p, p = M - 1 - k := ⟨_, rfl⟩
      have hpM : p < M := by omega
      have hpi : (M : Int) - 1 - (k : Int) = (p : Int) := by omega
      have hlen := endK_length n Z k hk
      have hM9 := HM.out
      have hco := HB.out.cell (i := p) (by omega)
      have hfo := HB.out.frozen p
      have HSet : Kp _ := ⟨endK_next n Z k p hlt (by omega)⟩
      generalize (cells8 (endK n Z k))[p]'(by omega) = old at hco
      have hpi2 : (p : Int) < (M : Int) := by omega
      clear hp hlen hM9
      go_wp2
      refine ⟨⟨k + 1, by omega, by go_num, ⟨?_⟩, hb.setCell (Nat.le_refl _) _⟩, by simp [intOf]; omega⟩
      have h3 := HB.out.set p (.int .u8 (((8 * n : Nat) : Int) / 2 ^ (8 * k) % 256))
      rw [HSet.out, show ((8 * n : Nat) : Int) = (n : Int) * 8 by omega] at h3
      exact h3
    · have HK : Kp (k = 8) := ⟨by omega⟩
      go_wp2
      go_ret
      refine ⟨_, rfl, ?_, hb⟩
      have h1 := HB.out
      have e : (ending n).length = M := by
        have h2 := endK_length n Z 8 (Nat.le_refl _)
        rw [cells8_length] at h2
        rw [← endK_end, ← HZ.out, h2, HM.out]
      rw [HK.out, HZ.out, endK_end] at h1
      rw [e]
      exact own_of_full h1.heap (Nat.le_refl _) (by simp only [maxLen]; omega) (by rw [cells8_length, e])
end Go.Proofs.Ytjllfaeamjadcaa
