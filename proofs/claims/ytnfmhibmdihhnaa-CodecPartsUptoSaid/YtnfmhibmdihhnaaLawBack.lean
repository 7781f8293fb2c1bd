/- The walk of CodecBack. -/
import Derived.Test.YtnfmhibmdihhnaaLawCuts
import Derived.Test.YtnfmhibmdihhnaaLens
namespace Go.Proofs.Ytnfmhibmdihhnaa
open Go.RowKit

theorem len_wf {n : Nat} (h : n ≤ 140737488351232) : (Lit.int .i64 (n : Int)).wf = true := by
  simp [Lit.wf, IntKind.min, IntKind.max, IntKind.signed, IntKind.bits]; omega

theorem wrap_pow (D : Nat) (h : D < 8) : IntKind.u64.wrap (2 ^ (8 * D)) = ((256 ^ D : Nat) : Int) := by
  have h1 : (2 : Int) ^ (8 * D) = ((256 ^ D : Nat) : Int) := by
    rw [show (256 : Nat) = 2 ^ 8 from rfl, ← Nat.pow_mul]; simp
  rw [h1, wrap_u64_nat]
  congr 1
  have h2 : (256 : Nat) ^ D ≤ 256 ^ 7 := Nat.pow_le_pow_right (by decide) (by omega)
  have h3 : (256 : Nat) ^ 7 < 18446744073709551616 := by decide
  exact Nat.mod_eq_of_lt (Nat.lt_of_le_of_lt h2 h3)
theorem get_put (N D : Nat) (h : D ≤ 8) : getN ((putN N D).drop (D - 8)) = N % 256 ^ D := by
  rw [show D - 8 = 0 by omega, List.drop_zero, getN_putN]
theorem get_put8 (N : Nat) (h : N < 18446744073709551616) : getN ((putN N 8).drop (8 - 8)) = N := by
  rw [get_put N 8 (Nat.le_refl _)]
  have e : (256 : Nat) ^ 8 = 18446744073709551616 := by decide
  rw [e]; exact Nat.mod_eq_of_lt h

set_option maxHeartbeats 1600000 in
theorem law_codecBack (E : Option Addr) (p q : Nat) (ls : List (List UInt8)) (x y z : Int) (w : World)
    (he' : Ls w w.heap.size E p q ls ∧ q * 24 ≤ 140737488351232 ∧ ∀ x ∈ ls, x.length ≤ 140737488351232) (hx : (Lit.int .u64 x).wf = true) (hy : (Lit.int .u8 y).wf = true) (hz : (Lit.int .u8 z).wf = true) :
    Calls Try.prog 5 #[.slice E p q, .int .u64 x, .int .u8 y, .int .u8 z] w fun e w' => e = .returned (.bool true) ∧ Below w.heap.size w w' := by
  have he := he'.1
  have hp := he.cap
  have hq := he'.2.1
  have HI := Lib.hid he'.2.2
  clear he'
  have HL := Lib.hid he.len
  have hxb : 0 ≤ x ∧ x ≤ 18446744073709551615 := by simpa [Lit.wf, IntKind.min, IntKind.max, IntKind.signed, IntKind.bits] using hx
  obtain ⟨N, rfl⟩ := Int.eq_ofNat_of_zero_le hxb.1
  have HN : Hid (N < 18446744073709551616) := by have := hxb.2; show _ < _; omega
  clear hxb hx
  have hyb : 0 ≤ y ∧ y ≤ 255 := by simpa [Lit.wf, IntKind.min, IntKind.max, IntKind.signed, IntKind.bits] using hy
  have hzb : 0 ≤ z ∧ z ≤ 255 := by simpa [Lit.wf, IntKind.min, IntKind.max, IntKind.signed, IntKind.bits] using hz
  obtain ⟨b8, rfl⟩ : ∃ b8 : UInt8, z = (b8.toNat : Int) := ⟨UInt8.ofNat z.toNat, by have : (UInt8.ofNat z.toNat).toNat = z.toNat % 256 := rfl; omega⟩
  clear hy hz hzb
  go_enter Try.func5, Try.ntmps5
  by_cases hp50 : 50 < p
  · have hp5 : (50 : Int) < (p : Int) := by omega
    go_wp2
    go_loopw [9, 10, 11] (fun s v i wr => ∃ (k : Nat) (S : Int) (vals : List Value), k ≤ p ∧ i = .int .i64 k ∧ s = .int .i64 S ∧ Hid (wr.ownsRow w.heap.size 3 1 v k vals) ∧ Below w.heap.size w wr) (fun _ _ i _ => p - (intOf i).toNat)
    case atStart => exact ⟨0, 0, [], Nat.zero_le _, rfl, rfl, own_nil _ _ _, Below.refl _ _⟩
    case round =>
      obtain ⟨k, S, vals, hk, rfl, rfl, H, hB⟩ := hrel
      by_cases hlt : k < p
      · obtain ⟨b, o, A', n', c', rfl, _, hcell, hbs⟩ := (he.below hB).at hlt
        clear hbs
        go_wp2_with (at_builtin; refine wpList_app1 elI rfl _ _ rfl w.heap.size _ k vals rfl H.out rfl rfl (by simp only [maxLen]; omega) (by omega) hB.size ?_)
        intro v' w' H' hb' _ _
        clear H
        go_wp2
        go_roundw
        case rel => exact ⟨k + 1, _, _, by omega, by go_num, rfl, H', hB.trans hb'⟩
        case measure => simp [intOf]; omega
      · rcases (by omega : (800 : Int) < S ∨ S ≤ 800) with h8 | h8
        all_goals
          go_wp2_with fail
          refine (known_any _).mono ?_
          rintro e w1 ⟨rfl, hB1⟩
          go_wp2
          go_ret
          exact ⟨rfl, hB.trans (hB1.mono hB.size)⟩
  · have hp5 : (p : Int) ≤ 50 := by omega
    go_wp2
    go_loopw [9, 10, 11] (fun s v i wr => ∃ (k S : Nat), k ≤ p ∧ i = .int .i64 k ∧ s = .int .i64 S ∧ S ≤ k * 140737488351232 ∧ Hid (S = (ls.take k).flatten.length) ∧ Hid (wr.ownsRow w.heap.size 3 1 v k (cellsZ (lens (ls.take k)))) ∧ Below w.heap.size w wr) (fun _ _ i _ => p - (intOf i).toNat)
    case atStart => exact ⟨0, 0, Nat.zero_le _, rfl, rfl, by omega, by simp [Hid], own_nil _ _ _, Below.refl _ _⟩
    case round =>
      obtain ⟨k, S, hk, rfl, rfl, hS, HS, H, hB⟩ := hrel
      by_cases hlt : k < p
      · obtain ⟨b, o, A', n', c', rfl, _, hcell, hbs⟩ := (he.below hB).at hlt
        have hkl : k < ls.length := by rw [HL.out]; exact hlt
        have HT := Lib.hid (take_flat_len ls k hkl)
        have HTL := Lib.hid (lens_snoc ls k hkl)
        have hl1 : n' ≤ 140737488351232 := by
          have h1 := HI.out ls[k] (List.getElem_mem hkl)
          rwa [hbs.len] at h1
        have HNN := Lib.hid hbs.len
        clear hbs
        go_wp2_with (at_builtin; refine wpList_app1 elI rfl _ _ rfl w.heap.size _ k _ rfl H.out rfl rfl (by simp only [maxLen]; omega) (by omega) hB.size ?_)
        intro v' w' H' hb' _ _
        have H2 : Hid (w'.ownsRow w.heap.size 3 1 v' (k + 1) (cellsZ (lens (ls.take (k + 1))))) := by
          rw [HTL.out, HNN.out]
          have h1 := H'.out
          show World.ownsRow _ _ _ _ _ _ _
          simpa [cellsZ] using h1
        clear H H'
        go_wp2
        go_roundw
        case rel => exact ⟨k + 1, S + n', by omega, by go_num, by go_num, by omega, by show _ = _; rw [HT.out, HNN.out, HS.out], H2, hB.trans hb'⟩
        case measure => simp [intOf]; omega
      · obtain rfl : k = p := by omega
        by_cases hbig : (800 : Int) < (S : Int)
        · go_wp2_with fail
          refine (known_any _).mono ?_
          rintro e w1 ⟨rfl, hB1⟩
          go_wp2
          go_ret
          exact ⟨rfl, hB.trans (hB1.mono hB.size)⟩
        · have H2 := H.out
          rw [List.take_of_length_le (by rw [HL.out]; exact Nat.le_refl _)] at H2
          obtain ⟨A1, c1, rfl, hzs⟩ := Zs.of_own H2 (fun z hz => by
            obtain ⟨x, hx, rfl⟩ := List.mem_map.1 hz
            exact len_wf (HI.out x hx))
          have HZ := Lib.hid hzs
          have HS2 : Hid (S = ls.flatten.length) := by
            have h1 := HS.out
            rwa [List.take_of_length_le (by rw [HL.out]; exact Nat.le_refl _)] at h1
          have HE := Lib.hid (he.next hB (Nat.le_refl _))
          have HC0 := Lib.hid (cut_lens ls)
          have HC4 := Lib.hid (cut_lens_more ls b8)
          have HC3 : Hid (0 < S → cutE (ls.flatten.take (S - 1)) (lens ls) = 3) := fun h => cut_lens_less ls (S - 1) (by rw [← HS2.out]; omega)
          clear H H2 hzs HS
          go_wp2_with fail
          refine (join_any _ _ _ _ _ HE.out (by rw [← HS2.out]; omega)).mono ?_
          rintro e w2 ⟨v2, rfl, hown2, hB2⟩
          rw [← HS2.out] at hown2
          obtain ⟨A2, c2, rfl, hbs2⟩ := Bs.of_own hown2
          have HB2 := Lib.hid hbs2
          have HZ2 := Lib.hid (HZ.out.next hB2 (Nat.le_refl _))
          have hB02 : Below w.heap.size w w2 := hB.trans (hB2.mono hB.size)
          clear hown2 hbs2
          have hS8 : S ≤ 800 := by omega
          generalize hFL : ls.flatten = F at *
          have HFL := Lib.hid hFL
          clear hFL
          generalize hWS : lens ls = ws at *
          clear hWS
          go_wp2_with fail
          refine (cut_any _ _ _ _ _ _ _ _ _ HB2.out HZ2.out (by omega) (by omega)).mono ?_
          rintro e w3 ⟨A3, n3, c3, rfl, hls3, hB3⟩
          rw [HC0.out.1]
          rw [HC0.out.2] at hls3
          have HF3 := Lib.hid hls3
          have hB03 : Below w.heap.size w w3 := below_next hB02 hB3
          have HE3 := Lib.hid (he.next hB03 (Nat.le_refl _))
          have HB3 := Lib.hid (HB2.out.next hB3 (Nat.le_refl _))
          have HZ3 := Lib.hid (HZ2.out.next hB3 (Nat.le_refl _))
          clear hls3
          go_wp2_with fail
          refine (samelists_any _ _ _ _ _ _ _ _ _ _ HF3.out HE3.out).mono ?_
          rintro e w4 ⟨rfl, hB4⟩
          rw [show (ls == ls) = true by simp]
          have hB04 := below_next hB03 hB4
          have HB4 := Lib.hid (HB3.out.next hB4 (Nat.le_refl _))
          have HZ4 := Lib.hid (HZ3.out.next hB4 (Nat.le_refl _))
          clear HB3 HZ3 HE3 HF3
          go_wp2_with fail
          refine (copy_any _ _ _ _ _ HB4.out (by omega)).mono ?_
          rintro e w5 ⟨v5, rfl, hown5, hB5⟩
          have H5 := Lib.hid hown5
          clear hown5
          go_wp2_with (at_builtin; refine wpList_app1 el8 rfl _ _ rfl w4.heap.size _ S (cells8 F) rfl H5.out rfl rfl (by simp only [maxLen]; omega) (by omega) hB5.size ?_)
          intro v6 w6 H6 hB6 _ _
          clear H5
          have H6' : Hid (w6.ownsRow w4.heap.size 5 1 v6 (S + 1) (cells8 (F ++ [b8]))) := by rw [cells8_append]; exact H6.out
          have hB46 : Below w4.heap.size w4 w6 := hB5.trans hB6
          obtain ⟨A6, c6, rfl, hbs6⟩ := Bs.of_own H6'.out
          have HB6 := Lib.hid (HB4.out.next hB46 (Nat.le_refl _))
          have HZ6 := Lib.hid (HZ4.out.next hB46 (Nat.le_refl _))
          have HL6 := Lib.hid hbs6
          have hB06 := below_next hB04 hB46
          clear H6 H6' hbs6
          go_wp2_with fail
          refine (cut_any _ _ _ _ _ _ _ _ _ HL6.out HZ6.out (by omega) (by omega)).mono ?_
          rintro e w7 ⟨A7, n7, c7, rfl, hls7, hB7⟩
          rw [HC4.out]
          have HB7 := Lib.hid (HB6.out.next hB7 (Nat.le_refl _))
          have HZ7 := Lib.hid (HZ6.out.next hB7 (Nat.le_refl _))
          have hB07 := below_next hB06 hB7
          clear hls7 HB6 HZ6 HL6
          obtain ⟨D, hD⟩ : ∃ D : Nat, (D : Int) = y % 9 := ⟨(y % 9).toNat, by omega⟩
          have hD9 : D < 9 := by omega
          have hDD : y % 9 = (D : Int) := hD.symm
          clear hD
          have hD8 : D ≤ 8 := by omega
          obtain ⟨P, hPd⟩ : ∃ P : Nat, P = 256 ^ D := ⟨_, rfl⟩
          have hP1 : 1 ≤ P := by rw [hPd]; exact Nat.pos_of_ne_zero (by simp)
          have HMIN : Hid ((min (max (D : Int) 0) 8).toNat = D) := by show _ = _; omega
          have HPD := Lib.hid hPd
          clear hPd
          rcases Nat.eq_zero_or_pos S with h0 | h0
          · have hB08 := hB07
            have hS0 : ¬ (0 : Int) < (S : Int) := by omega
            clear HB7 HZ7 HC3
            rcases (by omega : D < 8 ∨ D = 8) with h8 | h8
            all_goals first
              | (have hP : IntKind.u64.wrap (2 ^ (8 * D)) = (P : Int) := by rw [HPD.out]; exact wrap_pow D h8
                 have HVAL : Hid (((getN ((putN N D).drop (D - 8)) : Nat) : Int) = (N : Int) % (P : Int)) := by show _ = _; rw [get_put N D hD8, HPD.out]; rfl)
              | (subst h8
                 clear HMIN
                 have HMIN : Hid ((min (max (8 : Int) 0) 8).toNat = 8) := rfl
                 have HVAL : Hid (((getN ((putN N 8).drop (8 - 8)) : Nat) : Int) = (N : Int)) := by show _ = _; rw [get_put8 N HN.out])
            all_goals
              go_wp2_with fail
              refine (put_any N _ _ HN.out).mono ?_
              rintro e w9 ⟨v9, rfl, hown9, hB9⟩
              rw [HMIN.out] at hown9
              obtain ⟨A9, c9, rfl, hbs9⟩ := Bs.of_own hown9
              have HB9 := Lib.hid hbs9
              have hB09 := below_next hB08 hB9
              clear hown9 hbs9
              go_wp2_with fail
              refine (get_any _ _ _ _ _ _ HB9.out).mono ?_
              rintro e w9' ⟨rfl, rfl⟩
              rw [HVAL.out]
              clear HB9
              go_wp2_with fail
              refine (put_any N _ _ HN.out).mono ?_
              rintro e w10 ⟨v10, rfl, hown10, hB10⟩
              rw [HMIN.out] at hown10
              obtain ⟨A10, c10, rfl, hbs10⟩ := Bs.of_own hown10
              have hB010 := below_next hB09 hB10
              clear hown10 hbs10
              go_wp2_with fail
              refine (known_any _).mono ?_
              rintro e w11 ⟨rfl, hB11⟩
              go_wp2
              go_ret
              exact ⟨rfl, below_next hB010 hB11⟩
          · have h0' : (0 : Int) < (S : Int) := by omega
            go_wp2_with (refine wpList_cut_h (o := ⟨some 93, _, _, _, _, _⟩) el8 rfl _ _ rfl rfl HB7.out _ _ (S - 1) rfl (by omega) (by omega) ?_)
            intro A8 HA8
            have HA8' := Lib.hid HA8
            clear HA8
            go_wp2_with fail
            refine (cut_any _ _ _ _ _ _ _ _ _ HA8'.out HZ7.out (by omega) (by omega)).mono ?_
            rintro e w8 ⟨A9, n9, c9, rfl, hls9, hB8⟩
            rw [HC3.out h0]
            have hB08 := below_next hB07 hB8
            clear hls9 HC3 HB7 HZ7
            rcases (by omega : D < 8 ∨ D = 8) with h8 | h8
            all_goals first
              | (have hP : IntKind.u64.wrap (2 ^ (8 * D)) = (P : Int) := by rw [HPD.out]; exact wrap_pow D h8
                 have HVAL : Hid (((getN ((putN N D).drop (D - 8)) : Nat) : Int) = (N : Int) % (P : Int)) := by show _ = _; rw [get_put N D hD8, HPD.out]; rfl)
              | (subst h8
                 clear HMIN
                 have HMIN : Hid ((min (max (8 : Int) 0) 8).toNat = 8) := rfl
                 have HVAL : Hid (((getN ((putN N 8).drop (8 - 8)) : Nat) : Int) = (N : Int)) := by show _ = _; rw [get_put8 N HN.out])
            all_goals
              go_wp2_with fail
              refine (put_any N _ _ HN.out).mono ?_
              rintro e w9 ⟨v9, rfl, hown9, hB9⟩
              rw [HMIN.out] at hown9
              obtain ⟨A9, c9, rfl, hbs9⟩ := Bs.of_own hown9
              have HB9 := Lib.hid hbs9
              have hB09 := below_next hB08 hB9
              clear hown9 hbs9
              go_wp2_with fail
              refine (get_any _ _ _ _ _ _ HB9.out).mono ?_
              rintro e w9' ⟨rfl, rfl⟩
              rw [HVAL.out]
              clear HB9
              go_wp2_with fail
              refine (put_any N _ _ HN.out).mono ?_
              rintro e w10 ⟨v10, rfl, hown10, hB10⟩
              rw [HMIN.out] at hown10
              obtain ⟨A10, c10, rfl, hbs10⟩ := Bs.of_own hown10
              have hB010 := below_next hB09 hB10
              clear hown10 hbs10
              go_wp2_with fail
              refine (known_any _).mono ?_
              rintro e w11 ⟨rfl, hB11⟩
              go_wp2
              go_ret
              exact ⟨rfl, below_next hB010 hB11⟩
end Go.Proofs.Ytnfmhibmdihhnaa
