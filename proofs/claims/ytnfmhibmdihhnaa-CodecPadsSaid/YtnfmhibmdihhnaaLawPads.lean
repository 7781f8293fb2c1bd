/- The walk of CodecPads. -/
import Derived.Test.YtnfmhibmdihhnaaLawPuts
namespace Go.Proofs.Ytnfmhibmdihhnaa
open Go.RowKit

theorem padL_pad (xs : List UInt8) (k : Int) : padL (padL xs k) k = padL xs k := by
  have h := padL_length xs k
  show padL xs k ++ List.replicate (k.toNat - (padL xs k).length) 0 = padL xs k
  rw [show k.toNat - (padL xs k).length = 0 by rw [h]; omega]
  simp
theorem padL_take (xs : List UInt8) (k : Int) : (padL xs k).take xs.length = xs := by unfold padL; simp
theorem padL_behind (xs : List UInt8) (k : Int) (i : Nat) (h1 : xs.length ≤ i) (h2 : i < (padL xs k).length) : (padL xs k)[i] = 0 := by
  have h3 : (xs ++ List.replicate (k.toNat - xs.length) (0 : UInt8))[i]? = some 0 := by
    rw [List.getElem?_append_right h1, List.getElem?_replicate, if_pos]
    rw [padL_length] at h2; omega
  have h4 : (padL xs k)[i]? = some 0 := h3
  rw [List.getElem?_eq_getElem h2] at h4
  exact Option.some.inj h4

set_option maxHeartbeats 1000000 in
theorem law_codecPads (A : Option Addr) (n c : Nat) (l : List UInt8) (x : Int) (w : World) (ha' : Bs w w.heap.size A n c l ∧ c ≤ 140737488351232) (hx : (Lit.int .u16 x).wf = true) :
    Calls Try.prog 8 #[.slice A n c, .int .u16 x] w fun e w' => e = .returned (.bool true) ∧ Below w.heap.size w w' := by
  have ha := ha'.1
  have hn := ha.cap
  have hc := ha'.2
  clear ha'
  have HL := Lib.hid ha.len
  have hxb : 0 ≤ x ∧ x ≤ 65535 := by simpa [Lit.wf, IntKind.min, IntKind.max, IntKind.signed, IntKind.bits] using hx
  clear hx
  have hk : 0 ≤ x % 400 ∧ x % 400 < 400 := by omega
  by_cases hbig : (400 : Int) < n
  · go_enter Try.func8, Try.ntmps8
    go_wp2_with fail
    refine (known_any _).mono ?_
    rintro e w1 ⟨rfl, hB⟩
    go_wp2
    go_ret
    exact ⟨rfl, hB⟩
  · go_enter Try.func8, Try.ntmps8
    go_wp2_with fail
    generalize x % 400 = k at *
    refine (pad_any _ _ _ k _ _ ha (by omega) (by omega)).mono ?_
    rintro e w1 ⟨v1, rfl, hown1, hB1⟩
    have HPP := Lib.hid (padL_pad l k)
    have HPT := Lib.hid (padL_take l k)
    have HPB := Lib.hid (padL_behind l k)
    have HPL := Lib.hid (padL_length l k)
    obtain ⟨Q, hQ⟩ : ∃ Q, Q = padL l k := ⟨_, rfl⟩
    rw [← hQ] at hown1 HPP HPT HPB HPL
    obtain ⟨M, hM⟩ : ∃ M, M = Q.length := ⟨_, rfl⟩
    rw [← hM] at hown1
    have HM := Lib.hid hM
    have hMM : (M : Int) = max (n : Int) k := by
      have h1 := HPL.out
      have h2 := HL.out
      omega
    have hQ2 : padL Q k = Q := HPP.out
    clear hQ hM
    have HQ2 := Lib.hid hQ2
    clear hQ2
    obtain ⟨A1, c1, rfl, hbs1⟩ := Bs.of_own hown1
    have HB1 := Lib.hid hbs1
    have HA1 := Lib.hid (ha.next hB1 (Nat.le_refl _))
    clear hown1 hbs1
    have hMn : n ≤ M := by omega
    have hM4 : M ≤ 4294967296 := by omega
    have HMM := Lib.hid hMM
    clear hMM
    have HT : Hid (Q.take n = l) := by have := HPT.out; rwa [HL.out] at this
    rcases (by omega : (n : Int) < k ∨ k ≤ (n : Int)) with hnk | hnk
    all_goals
      first
        | (have hMk : (M : Int) ≤ k ∧ k ≤ (M : Int) := by have := HMM.out; omega)
        | (have hMk : M ≤ n := by have := HMM.out; omega)
      go_wp2_with (refine wpList_cut_h_g (o := ⟨some 29, _, _, _, _, _⟩) el8 rfl _ _ rfl rfl HB1.out _ _ n rfl rfl hMn ?_)
      intro A2 HA2
      rw [HT.out] at HA2
      have HA2' := Lib.hid HA2
      clear HA2
      go_wp2_with fail
      refine (same_any _ _ _ _ _ _ _ _ _ _ _ HA2'.out HA1.out).mono ?_
      rintro e w1' ⟨rfl, rfl⟩
      rw [show (l == l) = true by simp]
      go_wp2_with fail
      refine (pad_any _ _ _ k _ _ HB1.out hM4 (by omega)).mono ?_
      rintro e w2 ⟨v2, rfl, hown2, hB2⟩
      rw [HQ2.out] at hown2
      obtain ⟨A3, c3, rfl, hbs3⟩ := Bs.of_own hown2
      have HB3 := Lib.hid hbs3
      have HB12 := Lib.hid (HB1.out.next hB2 (Nat.le_refl _))
      have hB02 := below_next hB1 hB2
      clear hown2 hbs3
      go_wp2_with fail
      refine (equal_any _ _ _ _ _ _ _ _ _ HB3.out HB12.out).mono ?_
      rintro e w3 ⟨rfl, hB3⟩
      rw [show (Q == Q) = true by simp]
      have HB13 := Lib.hid (HB12.out.next hB3 (Nat.le_refl _))
      have hB03 := below_next hB02 hB3
      clear HB12 HB3 HA2' HA1
      go_wp2
      go_loop [7] (fun i => ∃ j : Nat, n ≤ j ∧ j ≤ M ∧ i = .int .i64 j) (fun i => M - (intOf i).toNat)
      case atStart => exact ⟨n, Nat.le_refl _, hMn, rfl⟩
      case round =>
        obtain ⟨j, hj1, hj2, rfl⟩ := hrel
        by_cases hlt : j < M
        · obtain ⟨b, o, rfl, _, hcell⟩ := HB13.out.cell hlt
          have h0 : Q[j]'(by rw [← HM.out]; exact hlt) = 0 := HPB.out j (by rw [HL.out]; exact hj1) (by rw [← HM.out]; exact hlt)
          rw [h0] at hcell
          have hcell' : w3.cell? ⟨b, o + j, none⟩ = some (.int .u8 0) := hcell
          clear hcell h0
          go_wp2
          all_goals
            go_round
            case rel => exact ⟨j + 1, by omega, by omega, by go_num⟩
            case measure => simp [intOf]; omega
        · go_wp2_with fail
          refine (known_any _).mono ?_
          rintro e w4 ⟨rfl, hB4⟩
          go_wp2
          go_ret
          exact ⟨rfl, below_next hB03 hB4⟩
end Go.Proofs.Ytnfmhibmdihhnaa
