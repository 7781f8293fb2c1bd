/- The contracts of package node's Blocks, and of the document's small functions: pointer, put, get, Blocks. -/
import Derived.Test.YtmiobgongddaiaaNdV
import Derived.Test.YtmiobgongddaiaaRefPad6
namespace Go.Proofs.Ytmiobgongddaiaa
open Go.RowKit Go.Shelf

section
set_option maxRecDepth 100000
set_option maxHeartbeats 2000000
theorem blocks_any (z : Int) (w : World) (_h1 : -9223372036854775808 ≤ z) (_h2 : z ≤ 9223372036854775807) :
    Calls Try.prog 27 #[.int .i64 z] w fun e w' => e = .returned (.int .i64 (blkN z : Int)) ∧ w' = w := by
  rcases (by omega : z < 0 ∨ (0 ≤ z ∧ z ≤ 17920) ∨ 17920 < z) with h | ⟨h, h'⟩ | h
  · have HE : Kp ((blkN z : Int) = 0) := ⟨by unfold blkN; rw [show z.toNat = 0 by omega]; rfl⟩
    go_enter Try.func27, Try.ntmps27
    go_wp2
    go_ret
    exact ⟨by rw [HE.out]; rfl, rfl⟩
  · obtain ⟨n, rfl⟩ := Int.eq_ofNat_of_zero_le h
    have HE : Kp ((blkN (n : Int) : Int) = ((n : Int) + 255) / 256) := ⟨by unfold blkN; rw [show (n : Int).toNat = n from rfl, Nat.min_eq_left (by omega)]; omega⟩
    have HE2 : Kp ((n : Int) + 256 - 1 = (n : Int) + 255) := ⟨by omega⟩
    go_enter Try.func27, Try.ntmps27
    go_wp2
    go_ret
    exact ⟨by rw [HE.out, ← HE2.out]; rfl, rfl⟩
  · have HE : Kp ((blkN z : Int) = 70) := ⟨by unfold blkN; rw [Nat.min_eq_right (by omega)]; rfl⟩
    go_enter Try.func27, Try.ntmps27
    go_wp2
    go_ret
    exact ⟨by rw [HE.out]; rfl, rfl⟩
theorem refptr_any (z : Int) (w : World) :
    Calls Try.prog 36 #[.int .i64 z] w fun e w' => e = .returned (.bool (ptrB z)) ∧ w' = w := by
  by_cases h0 : 0 ≤ z
  · have hz : ptrB z = decide (z ≤ 4095) := by unfold ptrB fitB; rw [decide_eq_true h0, Bool.true_and]; rfl
    rw [hz]
    go_enter Try.func36, Try.ntmps36
    go_wp2
    go_ret
    exact ⟨rfl, rfl⟩
  · have hz : ptrB z = false := by unfold ptrB fitB; rw [decide_eq_false h0, Bool.false_and]
    rw [hz]
    have hd : decide (0 ≤ z) = false := decide_eq_false h0
    go_enter Try.func36, Try.ntmps36
    go_wp2
    go_ret
    exact ⟨rfl, rfl⟩
theorem refget3_any (A : Option Addr) (n c at' wd L : Nat) (b : List UInt8) (w : World) (hb : Bs w L A n c b) (hw : wd ≤ 4) (hn : at' + wd ≤ n) (hn2 : n ≤ 4294967296) :
    Calls Try.prog 39 #[.slice A n c, .int .i64 (at' : Int), .int .i64 (wd : Int)] w fun e w' => e = .returned (.int .i64 ((getN ((b.drop at').take wd) : Nat) : Int)) ∧ w' = w := by
  obtain ⟨E, hE⟩ : ∃ E, E = at' + wd := ⟨_, rfl⟩
  have hs : (at' : Int) + (wd : Int) = (E : Int) := by omega
  have HB : Kp _ := ⟨hb⟩
  have HEn : Kp (E ≤ n ∧ at' ≤ E) := ⟨by omega, by omega⟩
  have HTk : Kp ((b.take E).drop at' = (b.drop at').take wd) := ⟨by rw [hE, List.drop_take]; congr 1; omega⟩
  obtain ⟨q, hq⟩ : ∃ q, q = getN ((b.drop at').take wd) := ⟨_, rfl⟩
  have hq63 : q < 9223372036854775808 := by
    have h1 := getN_lt ((b.drop at').take wd)
    have h2 : 256 ^ ((b.drop at').take wd).length ≤ 256 ^ 4 := Nat.pow_le_pow_right (by decide) (by simp; omega)
    rw [← hq] at h1
    omega
  have HQ : Kp (getN ((b.take E).drop at') % 18446744073709551616 = q) := ⟨by rw [HTk.out, ← hq]; omega⟩
  have hconv : IntKind.i64.wrap (q : Int) = (q : Int) := by rw [IntKind.wrap_i64]; omega
  have hE63 : E ≤ 4294967296 := by omega
  rw [← hq]
  clear hb hq hE
  go_enter Try.func39, Try.ntmps39
  go_wp2_with (with_reducible refine wpList_cut_lh (o := ⟨some 12, _, _, _, _, _⟩) el8 rfl (.tmp 7) (.tmp 8) (.tmp 11) rfl rfl HB.out .i64 .i64 _ _ at' E rfl rfl rfl rfl HEn.out.2 HEn.out.1 ?_)
  intro A2 m2 d2 hcut
  have hcall := refget_any A2 m2 d2 _ w L hcut
  rw [HQ.out] at hcall
  have HCl : Kp _ := ⟨hcall⟩
  clear hcut hcall
  go_wp2_with fail
  refine HCl.out.mono ?_
  rintro e w2 ⟨rfl, rfl⟩
  go_wp2
  go_ret
  exact ⟨rfl, rfl⟩
theorem refput3_any (A : Option Addr) (n c wd : Nat) (xs : List UInt8) (z : Int) (w : World) (hb : Bs w w.heap.size A n c xs) (hn : n ≤ 4294967296) (hz : 0 ≤ z) (hz2 : z ≤ 65535) (hw : wd ≤ 4) :
    Calls Try.prog 32 #[.slice A n c, .int .i64 z, .int .i64 (wd : Int)] w fun e w' => ∃ v, e = .returned v ∧ w'.ownsRow w.heap.size 5 1 v (n + wd) (cells8 (xs ++ putN z.toNat wd)) ∧ Below w.heap.size w w' := by
  have HL : Kp (xs.length = n) := ⟨hb.len⟩
  have HB : Kp _ := ⟨hb⟩
  obtain ⟨q, rfl⟩ := Int.eq_ofNat_of_zero_le hz
  have hconv : IntKind.u64.wrap (q : Int) = (q : Int) := by rw [IntKind.wrap_u64]; omega
  have HP : Kp (∀ W, Calls Try.prog 43 #[.int .u64 (q : Int), .int .i64 (wd : Int)] W fun e w' => ∃ v, e = .returned v ∧ w'.ownsRow W.heap.size 5 1 v wd (cells8 (putN q wd)) ∧ Below W.heap.size W w') := ⟨fun W => by
    have h := refput_any q (wd : Int) W (by omega)
    rw [show (min (max (wd : Int) 0) 8).toNat = wd by omega] at h
    exact h⟩
  have HL5 : Kp ((cells8 (putN q wd)).length = wd) := ⟨by rw [cells8_length, putN_length]⟩
  have HLc : Kp ((cells8 xs).length = n) := ⟨by rw [cells8_length, HL.out]⟩
  rw [show ((q : Nat) : Int).toNat = q from rfl]
  clear hb hz hz2
  go_enter Try.func32, Try.ntmps32
  go_wp2_with (at_builtin; refine wpList_app el8 rfl _ _ rfl w.heap.size _ 0 [] rfl (own_nil _ _ _) A n c (cells8 xs) rfl HLc.out (fun h => ⟨by have := HB.out.nil h; have := HB.out.cap; omega, HB.out.nil h⟩) HB.out.news (cells8_one _) (by simp only [maxLen]; omega) (by omega) (Nat.le_refl _) ?_)
  intro v1 w1 hown1 hg1 _
  have hb1 : Below w.heap.size w w1 := below_of_grown (own_nil w w.heap.size 5) (Nat.le_refl _) hg1
  have HO1 : Kp (w1.ownsRow w.heap.size 5 1 v1 n (cells8 xs)) := ⟨by simpa using hown1⟩
  have HB1 : Kp _ := ⟨hb1⟩
  clear hown1 hg1 hb1 HB
  go_wp2_with fail
  refine (HP.out w1).mono ?_
  rintro e w2 ⟨v2, rfl, hown2, hb2⟩
  obtain ⟨A2, c2, rfl, hbs2⟩ := Bs.of_own hown2
  have HBs2 : Kp _ := ⟨hbs2⟩
  have HO2 : Kp _ := ⟨own_below HO1.out hb2⟩
  have HB2 : Kp (Below w.heap.size w w2) := ⟨HB1.out.trans (hb2.mono HB1.out.size)⟩
  have HBw : Kp (w.heap.size ≤ w2.heap.size) := ⟨HB2.out.size⟩
  clear hown2 hbs2 hb2 HO1 HB1
  go_wp2_with (at_builtin; refine wpList_app el8 rfl _ _ rfl w.heap.size _ n _ rfl HO2.out A2 wd c2 (cells8 (putN q wd)) rfl HL5.out (fun h => ⟨by have := HBs2.out.nil h; have := HBs2.out.cap; omega, HBs2.out.nil h⟩) HBs2.out.news (cells8_one _) (by simp only [maxLen]; omega) (by omega) HBw.out ?_)
  intro v3 w3 hown3 hg3 _
  have hb3 : Below w.heap.size w2 w3 := below_of_grown HO2.out HBw.out hg3
  have HO3 : Kp (w3.ownsRow w.heap.size 5 1 v3 (n + wd) (cells8 (xs ++ putN q wd))) := ⟨by rw [cells8_append]; exact hown3⟩
  have HB3 : Kp _ := ⟨HB2.out.trans hb3⟩
  clear hown3 hg3 hb3 HO2 HB2 HBs2
  go_wp2
  go_ret
  exact ⟨_, rfl, HO3.out, HB3.out⟩
theorem refblocks_any (z : Int) (w : World) :
    Calls Try.prog 28 #[.int .i64 z] w fun e w' => e = .returned (.int .i64 (blkN z : Int)) ∧ w' = w := by
  obtain ⟨N, hN⟩ : ∃ N, N = blkN z := ⟨_, rfl⟩
  have HN : Kp (∀ k : Nat, k ≤ N → ((256 * (k : Int) < z ∧ (k : Int) < 70) ↔ k < N)) := ⟨fun k hk => by rw [hN] at hk ⊢; unfold blkN at hk ⊢; omega⟩
  have hN70 : N ≤ 70 := by rw [hN]; unfold blkN; omega
  rw [← hN]
  clear hN
  go_enter Try.func28, Try.ntmps28
  go_wp2
  go_loopg [3] N (fun gk v3 wr => ∃ k : Nat, k + gk = N ∧ v3 = .int .i64 (k : Int) ∧ wr = w)
  case atStart => exact ⟨0, by omega, rfl, rfl⟩
  case round =>
    obtain ⟨k, hkn, rfl, rfl⟩ := hrel
    have hk := HN.out k (by omega)
    obtain ⟨K, hK⟩ : ∃ K, K = 256 * k := ⟨_, rfl⟩
    have r1 : (256 : Int) * (k : Int) = (K : Int) := by omega
    have hK2 : K ≤ 17920 := by omega
    cases gk with
    | zero =>
      have hkn' : k = N := by omega
      have hc : ¬ ((K : Int) < z) ∨ ((K : Int) < z ∧ ¬ ((k : Int) < 70)) := by omega
      have HV : Kp ((k : Int) = (N : Int)) := ⟨by rw [hkn']⟩
      clear hk hK hkn'
      rcases hc with h | ⟨h, h'⟩
      all_goals
        go_wp2
        go_ret
        exact ⟨by rw [← HV.out]; rfl, rfl⟩
    | succ g2 =>
      have h : (K : Int) < z := by omega
      have h' : (k : Int) < 70 := by omega
      clear hk hK
      go_wp2
      go_roundg g2
      case measure => omega
      case rel => exact ⟨k + 1, by omega, by go_num, rfl⟩
end
end Go.Proofs.Ytmiobgongddaiaa
