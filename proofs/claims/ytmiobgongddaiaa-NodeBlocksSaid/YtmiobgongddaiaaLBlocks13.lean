/- The law NodeBlocks. -/
import Derived.Test.YtmiobgongddaiaaLw13
namespace Go.Proofs.Ytmiobgongddaiaa
open Go.RowKit Go.Shelf

theorem spA_zero (m : Nat) (h : m ≤ 17920) : spA 0 (m : Int) = spsN 0 m := by
  by_cases h1 : 1 ≤ m
  · unfold spA spB
    rw [decide_eq_true (show (1 : Int) ≤ (m : Int) by omega), decide_eq_true (show (m : Int) ≤ 17920 by omega)]
    simp
  · obtain rfl : m = 0 := by omega
    rfl
theorem spsN_length (a e : Nat) : (spsN a e).length = (e + 255) / 256 - a / 256 := by simp [spsN]
theorem spsN_at (a e j : Nat) (h : j < (spsN a e).length) : (spsN a e)[j] = spN a e (a / 256 + j) := by simp [spsN]
theorem blkN_small (m : Nat) (h : m ≤ 17920) : blkN (m : Int) = (m + 255) / 256 := by unfold blkN; rw [show (m : Int).toNat = m from rfl, Nat.min_eq_left h]
section
set_option maxRecDepth 100000
set_option maxHeartbeats 4000000
theorem law_nodeBlocks (z : Int) (w : World) (hz : (Lit.int .u16 z).wf = true) :
    Calls Try.prog 10 #[.int .u16 z] w fun e w' => e = .returned (.bool true) ∧ Below w.heap.size w w' := by
  obtain ⟨z1, z2⟩ := u16_b hz
  obtain ⟨y, rfl⟩ := Int.eq_ofNat_of_zero_le z1
  obtain ⟨m, hm⟩ : ∃ m, m = y % 17920 := ⟨_, rfl⟩
  have hm2 : m < 17920 := by rw [hm]; exact Nat.mod_lt _ (by decide)
  have rm : (y : Int) % 17920 = (m : Int) := by omega
  obtain ⟨l, hl⟩ : ∃ l, l = spsN 0 m := ⟨_, rfl⟩
  have HC1 : Kp _ := ⟨spans_any 0 (m : Int) w (by decide) (by decide) (by omega) (by omega)⟩
  have HC2 : Kp _ := ⟨fun W => refspans_any 0 (m : Int) W⟩
  rw [spA_zero m (by omega), ← hl] at HC1 HC2
  obtain ⟨L, hL⟩ : ∃ L, L = (m + 255) / 256 := ⟨_, rfl⟩
  have HLn : Kp (l.length = L) := ⟨by rw [hl, spsN_length, hL]; simp⟩
  have HAt : Kp (∀ j (h : j < l.length), (l[j]).k = j ∧ (l[j]).f = 0) := ⟨fun j h => by subst hl; rw [spsN_at]; unfold spN; simp⟩
  have HSame : Kp ((l == l) = true) := ⟨by simp⟩
  have hb1 := blkN_small (m + 1) (by omega)
  have hb0 := blkN_small m (by omega)
  rw [← hL] at hb0
  have HCa : Kp (∀ W, Calls Try.prog 27 #[.int .i64 ((m : Int) + 1)] W fun e w' => e = .returned (.int .i64 (blkN ((m + 1 : Nat) : Int) : Int)) ∧ w' = W) := ⟨fun W => blocks_any ((m + 1 : Nat) : Int) W (by omega) (by omega)⟩
  have HCb : Kp (∀ W, Calls Try.prog 27 #[.int .i64 (m : Int)] W fun e w' => e = .returned (.int .i64 (L : Int)) ∧ w' = W) := ⟨fun W => by
    have h := blocks_any (m : Int) W (by omega) (by omega)
    rwa [hb0] at h⟩
  rw [hb1] at HCa
  have hL140 : L ≤ 140 := by omega
  have hcase : (m % 256 = 0 ∧ (m + 1 + 255) / 256 = L + 1) ∨ (¬ m % 256 = 0 ∧ (m + 1 + 255) / 256 = L) := by omega
  clear hl hb1 hb0 hz hL
  obtain ⟨r, hr⟩ : ∃ r, r = m % 256 := ⟨_, rfl⟩
  have rr : (m : Int) % 256 = (r : Int) := by omega
  rw [← hr] at hcase
  clear hr hm
  rcases hcase with ⟨h1, h2⟩ | ⟨h1, h2⟩
  all_goals
    rw [h2] at HCa
    clear h2
    try subst h1
    try have hrI : ¬ ((r : Int) = 0) := by omega
    go_enter Try.func10, Try.ntmps10
    go_wp2_with fail
    refine HC1.out.mono ?_
    rintro e w1 ⟨A1, m1, c1, rfl, hs1, hb1⟩
    obtain rfl : m1 = L := by rw [← hs1.len]; exact HLn.out
    have HS1 : Kp _ := ⟨hs1⟩
    have HB1 : Kp _ := ⟨hb1⟩
    clear hs1 hb1 HC1
    go_wp2_with fail
    refine (HCa.out w1).mono ?_
    rintro e w2 ⟨rfl, rfl⟩
    go_wp2_with fail
    refine (HCb.out w2).mono ?_
    rintro e w3 ⟨rfl, rfl⟩
    go_wp2_with fail
    refine (HCb.out w3).mono ?_
    rintro e w4 ⟨rfl, rfl⟩
    clear HCa HCb rm rr
    go_wp2
    go_loopg [6] m1 (fun gk v6 wr => ∃ k : Nat, k + gk = m1 ∧ v6 = .int .i64 (k : Int) ∧ wr = w4)
    case atStart => exact ⟨0, by omega, rfl, rfl⟩
    case round =>
      obtain ⟨k, hkm, rfl, rfl⟩ := hrel
      cases gk with
      | zero =>
        have hend : ¬ ((k : Int) < (m1 : Int)) := by omega
        go_wp2_with fail
        refine (HC2.out wr).mono ?_
        rintro e w5 ⟨A5, m5, c5, rfl, hs5, hb5⟩
        have hcall := samespans_any A1 A5 m1 c1 m5 c5 l l w5 _ _ (HS1.out.below hb5) hs5
        rw [HSame.out] at hcall
        have HCl : Kp _ := ⟨hcall⟩
        have HB5 : Kp (Below w.heap.size w w5) := ⟨HB1.out.trans (hb5.mono HB1.out.size)⟩
        clear hcall hs5 hb5
        go_wp2_with fail
        refine HCl.out.mono ?_
        rintro e w6 ⟨rfl, hb6⟩
        have HB6 : Kp (Below w.heap.size w w6) := ⟨HB5.out.trans (hb6.mono HB5.out.size)⟩
        clear hb6 HCl
        go_wp2_with fail
        refine (known13_any w6).mono ?_
        rintro e w7 ⟨rfl, hb7⟩
        have HB7 : Kp (Below w.heap.size w w7) := ⟨HB6.out.trans (hb7.mono HB6.out.size)⟩
        clear hb7
        go_wp2
        go_ret
        exact ⟨rfl, HB7.out⟩
      | succ g2 =>
        have hgo : (k : Int) < (m1 : Int) := by omega
        have hk : k < m1 := by omega
        obtain ⟨b, o, rfl, _, hc⟩ := HS1.out.at hk
        have ha := HAt.out k (by rw [HLn.out]; exact hk)
        have c0 : wr.cell? ⟨b, o + k * 3, none⟩ = some (.int .i64 (k : Int)) := by
          have h := hc 0 _ rfl
          rw [ha.1] at h
          exact h
        have c1' : wr.cell? ⟨b, o + k * 3 + 1, none⟩ = some (.int .i64 0) := by
          have h := hc 1 _ rfl
          rw [ha.2] at h
          exact h
        clear hc ha
        go_wp2
        go_roundg g2
        case measure => omega
        case rel => exact ⟨k + 1, by omega, by go_num, rfl⟩
end
end Go.Proofs.Ytmiobgongddaiaa
