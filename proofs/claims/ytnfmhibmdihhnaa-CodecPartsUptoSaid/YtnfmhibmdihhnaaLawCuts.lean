/- The walk of CodecCuts. -/
import Derived.Test.YtnfmhibmdihhnaaLawPuts
namespace Go.Proofs.Ytnfmhibmdihhnaa
open Go.RowKit

theorem Ls.next {w0 w1 : World} {B : Nat} {A : Option Addr} {n c : Nat} {l : List (List UInt8)} (h : Ls w0 B A n c l) (hb : Below w0.heap.size w0 w1) (hB : B ≤ w0.heap.size) : Ls w1 w1.heap.size A n c l :=
  (h.below (hb.mono hB)).more (Nat.le_trans hB hb.size)
theorem Zs.next {w0 w1 : World} {k : IntKind} {B : Nat} {A : Option Addr} {n c : Nat} {l : List Int} (h : Zs w0 B k A n c l) (hb : Below w0.heap.size w0 w1) (hB : B ≤ w0.heap.size) : Zs w1 w1.heap.size k A n c l :=
  (h.below (hb.mono hB)).more (Nat.le_trans hB hb.size)
theorem flat_le (ls : List (List UInt8)) (M k : Nat) (h : ∀ x ∈ ls, x.length ≤ M) (hk : k ≤ ls.length) : (ls.take k).flatten.length ≤ k * M := by
  induction k with
  | zero => simp
  | succ k ih =>
    rw [take_flat_len ls k (by omega), Nat.succ_mul]
    have h1 := ih (by omega)
    have h2 := h ls[k] (List.getElem_mem _)
    omega

set_option maxHeartbeats 1600000 in
theorem law_codecCuts (A : Option Addr) (n c : Nat) (l : List UInt8) (W : Option Addr) (m d : Nat) (ws : List Int) (E : Option Addr) (p q : Nat) (ls : List (List UInt8)) (w : World)
    (ha' : Bs w w.heap.size A n c l ∧ c ≤ 140737488351232) (hb' : Zs w w.heap.size .i64 W m d ws ∧ d * 8 ≤ 140737488351232) (he' : Ls w w.heap.size E p q ls ∧ q * 24 ≤ 140737488351232 ∧ ∀ x ∈ ls, x.length ≤ 140737488351232) :
    Calls Try.prog 4 #[.slice A n c, .slice W m d, .slice E p q] w fun e w' => e = .returned (.bool true) ∧ Below w.heap.size w w' := by
  have ha := ha'.1
  have hb := hb'.1
  have he := he'.1
  have hn := ha.cap
  have hm := hb.cap
  have hp := he.cap
  have hc := ha'.2
  have hd := hb'.2
  have hq := he'.2.1
  have HI := Lib.hid he'.2.2
  clear ha' hb' he'
  have HL := Lib.hid he.len
  by_cases hp50 : 50 < p
  · have hp5 : (50 : Int) < (p : Int) := by omega
    go_enter Try.func4, Try.ntmps4
    go_wp2
    go_loop [7, 8] (fun s i => ∃ (k : Nat) (S : Int), k ≤ p ∧ i = .int .i64 k ∧ s = .int .i64 S) (fun _ i => p - (intOf i).toNat)
    case atStart => exact ⟨0, n, Nat.zero_le _, rfl, rfl⟩
    case round =>
      obtain ⟨k, S, hk, rfl, rfl⟩ := hrel
      by_cases hlt : k < p
      · obtain ⟨b, o, A', n', c', rfl, _, hcell, hbs⟩ := he.at hlt
        clear hbs
        go_wp2
        go_round
        case rel => exact ⟨k + 1, _, by omega, by go_num, rfl⟩
        case measure => simp [intOf]; omega
      · rcases (by omega : (800 : Int) < S ∨ S ≤ 800) with h8 | h8
        all_goals rcases (by omega : (50 : Int) < (m : Int) ∨ (m : Int) ≤ 50) with h5 | h5
        all_goals
          go_wp2_with fail
          refine (known_any _).mono ?_
          rintro e w1 ⟨rfl, hB⟩
          go_wp2
          go_ret
          exact ⟨rfl, hB⟩
  · have hp5 : (p : Int) ≤ 50 := by omega
    go_enter Try.func4, Try.ntmps4
    go_wp2
    go_loop [7, 8] (fun s i => ∃ (k S : Nat), k ≤ p ∧ i = .int .i64 k ∧ s = .int .i64 S ∧ S ≤ 140737488351232 + k * 140737488351232 ∧ Hid (S = n + (ls.take k).flatten.length)) (fun _ i => p - (intOf i).toNat)
    case atStart => exact ⟨0, n, Nat.zero_le _, rfl, rfl, by omega, by simp [Hid]⟩
    case round =>
      obtain ⟨k, S, hk, rfl, rfl, hS, HS⟩ := hrel
      by_cases hlt : k < p
      · obtain ⟨b, o, A', n', c', rfl, _, hcell, hbs⟩ := he.at hlt
        have hkl : k < ls.length := by rw [HL.out]; exact hlt
        have HT := Lib.hid (take_flat_len ls k hkl)
        have hl1 : n' ≤ 140737488351232 := by
          have h1 := HI.out ls[k] (List.getElem_mem hkl)
          rwa [hbs.len] at h1
        have HN := Lib.hid hbs.len
        clear hbs
        go_wp2
        go_round
        case rel => exact ⟨k + 1, S + n', by omega, by go_num, by go_num, by omega, by show _ = _; rw [HT.out, HN.out, HS.out]; omega⟩
        case measure => simp [intOf]; omega
      · obtain rfl : k = p := by omega
        by_cases hbig : 800 < S ∨ 50 < m
        · rcases (by omega : (800 : Int) < (S : Int) ∨ (S : Int) ≤ 800 ∧ (50 : Int) < (m : Int)) with h8 | ⟨h8, h5⟩
          all_goals
            go_wp2_with fail
            refine (known_any _).mono ?_
            rintro e w1 ⟨rfl, hB⟩
            go_wp2
            go_ret
            exact ⟨rfl, hB⟩
        · have h8 : (S : Int) ≤ 800 := by omega
          have h5 : (m : Int) ≤ 50 := by omega
          have hfl : ls.flatten.length ≤ 4294967296 := by
            have h1 := HS.out
            rw [List.take_of_length_le (by rw [HL.out]; exact Nat.le_refl _)] at h1
            omega
          have hn8 : n ≤ 4294967296 := by have := HS.out; omega
          clear hbig
          go_wp2_with fail
          refine (cut_any _ _ _ _ _ _ _ _ _ ha hb hn8 (by omega)).mono ?_
          rintro e w1 ⟨A1, n1, c1, rfl, hls1, hB1⟩
          have HA1 := Lib.hid (ha.next hB1 (Nat.le_refl _))
          have HZ1 := Lib.hid (hb.next hB1 (Nat.le_refl _))
          have HF1 := Lib.hid hls1
          clear hls1
          obtain ⟨er, hr⟩ : ∃ er, er = cutE l ws := ⟨_, rfl⟩
          rw [← hr]
          have HR := Lib.hid hr
          clear hr
          go_wp2_with fail
          refine (refcut_any _ _ _ _ _ _ _ _ _ HA1.out HZ1.out hn8 (by omega)).mono ?_
          rintro e w2 ⟨A2, n2, c2, rfl, hls2, hB2⟩
          rw [← HR.out]
          have HF2 := Lib.hid hls2
          have HF12 := Lib.hid (HF1.out.next hB2 (Nat.le_refl _))
          have hB02 := below_next hB1 hB2
          clear hls2
          go_wp2_with fail
          refine (samelists_any _ _ _ _ _ _ _ _ _ _ HF12.out HF2.out).mono ?_
          rintro e w3 ⟨rfl, hB3⟩
          rw [show (cutF l ws == cutF l ws) = true by simp]
          have hB03 := below_next hB02 hB3
          have HE3 := Lib.hid (he.next hB03 (Nat.le_refl _))
          go_wp2_with fail
          refine (join_any _ _ _ _ _ HE3.out hfl).mono ?_
          rintro e w4 ⟨v4, rfl, hown4, hB4⟩
          generalize hFL : ls.flatten = F at hown4
          have HFL := Lib.hid hFL
          clear hFL
          obtain ⟨A4, c4, rfl, hbs4⟩ := Bs.of_own hown4
          have HB4 := Lib.hid hbs4
          have hB04 := below_next hB03 hB4
          have HE4 := Lib.hid (he.next hB04 (Nat.le_refl _))
          clear hown4 hbs4
          go_wp2_with fail
          refine (refjoin_any _ _ _ _ _ HE4.out hfl).mono ?_
          rintro e w5 ⟨v5, rfl, hown5, hB5⟩
          rw [HFL.out] at hown5
          obtain ⟨A5, c5, rfl, hbs5⟩ := Bs.of_own hown5
          have HB5 := Lib.hid hbs5
          have HB45 := Lib.hid (HB4.out.next hB5 (Nat.le_refl _))
          have hB05 := below_next hB04 hB5
          clear hown5 hbs5
          go_wp2_with fail
          refine (same_any _ _ _ _ _ _ _ _ _ _ _ HB45.out HB5.out).mono ?_
          rintro e w5' ⟨rfl, rfl⟩
          rw [show (F == F) = true by simp]
          go_wp2_with fail
          refine (known_any _).mono ?_
          rintro e w6 ⟨rfl, hB6⟩
          go_wp2
          go_ret
          exact ⟨rfl, below_next hB05 hB6⟩
end Go.Proofs.Ytnfmhibmdihhnaa
