/- The walk of CodecParts. -/
import Derived.Test.YtnfmhibmdihhnaaLawBack
import Derived.Test.YtnfmhibmdihhnaaVals
namespace Go.Proofs.Ytnfmhibmdihhnaa
open Go.RowKit

theorem mod9 (x : UInt8) : ((x.toNat : Int) % 9) = ((x.toNat % 9 : Nat) : Int) := rfl

set_option maxHeartbeats 3000000 in
theorem law_codecParts (A : Option Addr) (n c : Nat) (l : List UInt8) (W : Option Addr) (m d : Nat) (ws : List UInt8) (E : Option Addr) (p q : Nat) (ls : List (List UInt8)) (F : Option Addr) (r s : Nat) (ms : List (List UInt8)) (w : World)
    (ha : Bs w w.heap.size A n c l) (hb : Bs w w.heap.size W m d ws) (he : Ls w w.heap.size E p q ls) (hf : Ls w w.heap.size F r s ms)
    (hn : n ≤ 1048576) (hm : m ≤ 1048576) (hp : p ≤ 1048576) (hr : r ≤ 1048576) (hl1 : Hid (ls.flatten.length ≤ 1048576)) (hl2 : Hid (ms.flatten.length ≤ 1048576)) :
    Calls Try.prog 9 #[.slice A n c, .slice W m d, .slice E p q, .slice F r s] w fun e w' => e = .returned (.bool true) ∧ Below w.heap.size w w' := by
  have HLL := Lib.hid ha.len
  have HWL := Lib.hid hb.len
  go_enter Try.func9, Try.ntmps9
  go_wp2
  go_loopw [10, 11, 12] (fun v s i wr => ∃ (k S : Nat), k ≤ m ∧ i = .int .i64 k ∧ s = .int .i64 S ∧ S ≤ 9 * k ∧ Hid (S = widthSum (ws.take k)) ∧ Hid (wr.ownsRow w.heap.size 3 1 v k (cellsZ (widths (ws.take k)))) ∧ Below w.heap.size w wr) (fun _ _ i _ => m - (intOf i).toNat)
  case atStart => exact ⟨0, 0, Nat.zero_le _, rfl, rfl, by omega, rfl, own_nil _ _ _, Below.refl _ _⟩
  case round =>
    obtain ⟨k, S, hk, rfl, rfl, hS, HS, H, hB⟩ := hrel
    by_cases hlt : k < m
    · obtain ⟨b, o, rfl, hbl, hcell⟩ := (hb.below hB).cell hlt
      have hkl : k < ws.length := by rw [HWL.out]; exact hlt
      have HT := Lib.hid (widths_snoc ws k hkl)
      have HTS := Lib.hid (widthSum_snoc ws k hkl)
      generalize ws[k] = x at *
      have h9 := mod9 x
      have hx256 : (x.toNat : Int) < 256 := by have := x.toNat_lt; omega
      generalize x.toNat % 9 = y at *
      have hy : y ≤ 8 := by omega
      go_wp2_with (at_builtin; refine wpList_app1 elI rfl _ _ rfl w.heap.size _ k _ rfl H.out rfl rfl (by simp only [maxLen]; omega) (by omega) hB.size ?_)
      intro v' w' H' hb' _ _
      have hcell' : w'.cell? ⟨b, o + k, none⟩ = some (.int .u8 (x.toNat : Int)) := (hb'.cell (p := ⟨b, o + k, none⟩) hbl).trans hcell
      have H2 : Hid (w'.ownsRow w.heap.size 3 1 v' (k + 1) (cellsZ (widths (ws.take (k + 1))))) := by
        rw [HT.out]
        have h1 := H'.out
        show World.ownsRow _ _ _ _ _ _ _
        simpa [cellsZ] using h1
      clear H H'
      go_wp2
      go_roundw
      case rel => exact ⟨k + 1, S + y, by omega, by go_num, by go_num, by omega, by show _ = _; rw [HTS.out, HS.out], H2, hB.trans hb'⟩
      case measure => simp [intOf]; omega
    · obtain rfl : k = m := by omega
      have HSW : Hid (S = widthSum ws) := by
        have h1 := HS.out
        rwa [List.take_of_length_le (by rw [HWL.out]; exact Nat.le_refl _)] at h1
      have H2 := H.out
      rw [List.take_of_length_le (by rw [HWL.out]; exact Nat.le_refl _)] at H2
      obtain ⟨A1, c1, rfl, hzs⟩ := Zs.of_own H2 (fun z hz => by
        obtain ⟨x, hx, rfl⟩ := List.mem_map.1 hz
        exact len_wf (by omega))
      have HZ := Lib.hid hzs
      clear H H2 hzs HS
      rcases (by omega : (400 : Int) < (n : Int) ∨ (n : Int) ≤ 400 ∧ (60 : Int) < (k : Int) ∨ (n : Int) ≤ 400 ∧ (k : Int) ≤ 60) with h4 | ⟨h4, h6⟩ | ⟨h4, h6⟩
      case inl =>
        go_wp2_with fail
        refine (known_any _).mono ?_
        rintro e w1 ⟨rfl, hB1⟩
        go_wp2
        go_ret
        exact ⟨rfl, hB.trans (hB1.mono hB.size)⟩
      case inr.inl =>
        go_wp2_with fail
        refine (known_any _).mono ?_
        rintro e w1 ⟨rfl, hB1⟩
        go_wp2
        go_ret
        exact ⟨rfl, hB.trans (hB1.mono hB.size)⟩
      case inr.inr =>
        have HE0 := Lib.hid (he.next hB (Nat.le_refl _))
        go_wp2_with fail
        refine (refjoin_any _ _ _ _ _ HE0.out (by have := hl1.out; omega)).mono ?_
        rintro e w1 ⟨v1, rfl, hown1, hB1⟩
        generalize hF1 : ls.flatten.length = f1 at *
        obtain ⟨A2, c2, rfl, _, _, _, _⟩ := own_form hown1
        clear hown1
        have hB01 : Below w.heap.size w w1 := hB.trans (hB1.mono hB.size)
        have HF0 := Lib.hid (hf.next hB01 (Nat.le_refl _))
        go_wp2_with fail
        refine (refjoin_any _ _ _ _ _ HF0.out (by have := hl2.out; omega)).mono ?_
        rintro e w2 ⟨v2, rfl, hown2, hB2⟩
        generalize hF2 : ms.flatten.length = f2 at *
        obtain ⟨A3, c3, rfl, _, _, _, _⟩ := own_form hown2
        clear hown2
        have hB02 := below_next hB01 hB2
        have HF1 := Lib.hid hF1
        have HF2 := Lib.hid hF2
        have hf1 : f1 ≤ 1048576 := hl1.out
        have hf2 : f2 ≤ 1048576 := hl2.out
        clear hF1 hF2 hl1 hl2 HE0 HF0
        by_cases hbig : (600 : Int) < (f1 : Int) + (f2 : Int)
        · go_wp2_with fail
          refine (known_any _).mono ?_
          rintro e w3 ⟨rfl, hB3⟩
          go_wp2
          go_ret
          exact ⟨rfl, below_next hB02 hB3⟩
        · have HA2 := Lib.hid (ha.next hB02 (Nat.le_refl _))
          have HZ2 := Lib.hid ((HZ.out.next hB1 (Nat.le_refl _)).next hB2 (Nat.le_refl _))
          have HOFF := Lib.hid (widthSum_off ws)
          have HWN := Lib.hid (widths_length ws)
          clear HZ
          go_wp2_with fail
          refine (cut_any _ _ _ _ _ _ _ _ _ HA2.out HZ2.out (by omega) (by omega)).mono ?_
          rintro e w3 ⟨A4, n4, c4, rfl, hls4, hB3⟩
          have HL4 := Lib.hid hls4
          have HA3 := Lib.hid (HA2.out.next hB3 (Nat.le_refl _))
          have HZ3 := Lib.hid (HZ2.out.next hB3 (Nat.le_refl _))
          have hB03 := below_next hB02 hB3
          have HC0 := Lib.hid (cutE_zero (b := l) (ws := widths ws))
          have HC3 := Lib.hid (cutE_three (b := l) (ws := widths ws))
          clear hls4 HA2 HZ2
          rcases (by omega : (S : Int) < (n : Int) ∨ (n : Int) < (S : Int) ∨ S = n) with h7 | h7 | h7
          · have HE : Hid (cutE l (widths ws) = 4) := by show _ = _; unfold cutE; rw [HOFF.out, ← HSW.out, HLL.out, if_neg (by omega), if_pos (by omega)]
            rw [HE.out]
            clear HL4 HA3 HZ3 HC0 HC3
            have hb1 : ((S : Int) == (n : Int)) = false := by simp; omega
            have hb2 : decide ((n : Int) < (S : Int)) = false := by simp; omega
            have hb3 : decide (n < S) = false := by simp; omega
            obtain ⟨wT, hwT⟩ : ∃ wT, wT = w3 := ⟨_, rfl⟩
            rw [← hwT] at hB03 ⊢
            have hBT := hB03
            clear hB03 hwT hB3
            have HET := Lib.hid (he.below hBT)
            have HFT := Lib.hid (hf.below hBT)
            have HCC := hBT.size
            obtain ⟨vs1, hv1, hfs1, hsrc1, hone1⟩ := (HET.out.more HCC).vals none (by simp)
            have HS1 := Lib.hid hfs1
            have HV1 := Lib.hid hv1
            have HC1 := Lib.hid hsrc1
            have HO1 := Lib.hid hone1
            clear hfs1 hv1 hsrc1 hone1
            go_wp2_with (at_builtin; refine wpList_app elS rfl _ _ rfl wT.heap.size _ 0 [] rfl (own_nil _ _ _) E p q vs1 rfl HV1.out (fun h => ⟨by have := he.nil h; have := he.cap; omega, he.nil h⟩) HC1.out HO1.out (by simp only [maxLen]; omega) (by omega) (Nat.le_refl _) ?_)
            intro v5 w5 hown5 hg5 _
            have hB5 : Below wT.heap.size wT w5 := (Below.refl _ _).grown hg5 (Nat.le_refl _) (by simp [Value.ownBlock])
            have H5 : Hid (w5.ownsRow wT.heap.size 23 1 v5 p vs1) := by
              show World.ownsRow _ _ _ _ _ _ _
              simpa using hown5
            have HS5 := Lib.hid (HS1.out.below hB5)
            obtain ⟨vs2, hv2, hfs2, hsrc2, hone2⟩ := ((HFT.out.more HCC).below hB5).vals none (by simp)
            have HS2 := Lib.hid hfs2
            have HV2 := Lib.hid hv2
            have HC2 := Lib.hid hsrc2
            have HO2 := Lib.hid hone2
            clear hfs2 hv2 hsrc2 hone2 hown5 hg5 HS1 HC1
            go_wp2_with (at_builtin; refine wpList_app elS rfl _ _ rfl wT.heap.size _ p vs1 rfl H5.out F r s vs2 rfl HV2.out (fun h => ⟨by have := hf.nil h; have := hf.cap; omega, hf.nil h⟩) HC2.out HO2.out (by simp only [maxLen]; omega) (by omega) hB5.size ?_)
            intro v6 w6 hown6 hg6 _
            have hB6 : Below wT.heap.size w5 w6 := below_of_grown H5.out hB5.size hg6
            have hBT6 : Below wT.heap.size wT w6 := hB5.trans hB6
            obtain ⟨A6, c6, rfl, hls6⟩ := (((HS5.out.append HS2.out).below hB6).more hBT6.size).lists hown6 (Nat.le_refl _)
            have HL6 := Lib.hid hls6
            have hB06 := hBT.trans (hBT6.mono HCC)
            obtain ⟨X1, hX1⟩ : ∃ X1, X1 = ls.flatten := ⟨_, rfl⟩
            obtain ⟨X2, hX2⟩ : ∃ X2, X2 = ms.flatten := ⟨_, rfl⟩
            have HX1 := Lib.hid hX1
            have HX2 := Lib.hid hX2
            have HXL1 : Hid (X1.length = f1) := by show _ = _; rw [hX1]; exact HF1.out
            have HXL2 : Hid (X2.length = f2) := by show _ = _; rw [hX2]; exact HF2.out
            have HQ : Hid ((ls ++ ms).flatten = X1 ++ X2) := by show _ = _; rw [List.flatten_append, hX1, hX2]
            have HQ2 : Hid ([X1, X2].flatten = X1 ++ X2) := by simp [Hid]
            have HQL : Hid ((X1 ++ X2).length = f1 + f2) := by show _ = _; rw [List.length_append, HXL1.out, HXL2.out]
            clear hX1 hX2 hls6 hown6 hg6 H5 HS5 HS2 HC2 HO1 HO2 HV1 HV2
            go_wp2_with fail
            refine (join_any _ _ _ _ _ HL6.out (by rw [HQ.out, HQL.out]; omega)).mono ?_
            rintro e w7 ⟨v7, rfl, hown7, hB7⟩
            rw [HQ.out, HQL.out] at hown7
            obtain ⟨A7, c7, rfl, hbs7⟩ := Bs.of_own hown7
            have HB7 := Lib.hid hbs7
            have hB07 := below_next hB06 hB7
            have HE7 := Lib.hid (he.next hB07 (Nat.le_refl _))
            clear hown7 hbs7 HL6
            go_wp2_with fail
            refine (join_any _ _ _ _ _ HE7.out (by rw [HF1.out]; omega)).mono ?_
            rintro e w8 ⟨v8, rfl, hown8, hB8⟩
            rw [HF1.out, ← HX1.out] at hown8
            obtain ⟨A8, c8, rfl, hbs8⟩ := Bs.of_own hown8
            have HB8 := Lib.hid hbs8
            have HB78 := Lib.hid (HB7.out.next hB8 (Nat.le_refl _))
            have hB08 := below_next hB07 hB8
            have HF8 := Lib.hid (hf.next hB08 (Nat.le_refl _))
            clear hown8 hbs8 HE7 HB7
            go_wp2_with fail
            refine (join_any _ _ _ _ _ HF8.out (by rw [HF2.out]; omega)).mono ?_
            rintro e w9 ⟨v9, rfl, hown9, hB9⟩
            rw [HF2.out, ← HX2.out] at hown9
            obtain ⟨A9, c9, rfl, hbs9⟩ := Bs.of_own hown9
            have HB9 := Lib.hid hbs9
            have HB89 := Lib.hid (HB8.out.next hB9 (Nat.le_refl _))
            have HB79 := Lib.hid (HB78.out.next hB9 (Nat.le_refl _))
            have hB09 := below_next hB08 hB9
            clear hown9 hbs9 HF8 HB8 HB78
            go_wp2_with fail
            refine (join_any (some ⟨w9.heap.size, 0, none⟩) 2 2 [X1, X2] _ ?_ (by rw [HQ2.out, HQL.out]; omega)).mono ?_
            · have := Ls.two 23 HB89.out HB9.out
              simpa using this
            rintro e w10 ⟨v10, rfl, hown10, hB10⟩
            rw [HQ2.out, HQL.out] at hown10
            obtain ⟨A10, c10, rfl, hbs10⟩ := Bs.of_own hown10
            have HB10 := Lib.hid hbs10
            have hB910 : Below w9.heap.size w9 w10 := ((Below.refl _ _).alloc (Nat.le_refl _) _).trans (hB10.mono (by simp))
            have HB710 := Lib.hid (HB79.out.next hB910 (Nat.le_refl _))
            have hB010 := below_next hB09 hB910
            clear hown10 hbs10 HB79 HB89 HB9
            go_wp2_with fail
            refine (same_any _ _ _ _ _ _ _ _ _ _ _ HB710.out HB10.out).mono ?_
            rintro e w10' ⟨rfl, rfl⟩
            rw [show (X1 ++ X2 == X1 ++ X2) = true by simp]
            go_wp2_with fail
            refine (known_any _).mono ?_
            rintro e w11 ⟨rfl, hB11⟩
            go_wp2
            go_ret
            exact ⟨rfl, below_next hB010 hB11⟩
          · have HE : Hid (cutE l (widths ws) = 3) := by show _ = _; unfold cutE; rw [HOFF.out, ← HSW.out, HLL.out, if_pos (by omega)]
            rw [HE.out]
            clear HL4 HA3 HZ3 HC0 HC3
            have hb1 : ((S : Int) == (n : Int)) = false := by simp; omega
            have hb2 : decide ((n : Int) < (S : Int)) = true := by simp; omega
            have hb3 : decide (n < S) = true := by simp; omega
            obtain ⟨wT, hwT⟩ : ∃ wT, wT = w3 := ⟨_, rfl⟩
            rw [← hwT] at hB03 ⊢
            have hBT := hB03
            clear hB03 hwT hB3
            have HET := Lib.hid (he.below hBT)
            have HFT := Lib.hid (hf.below hBT)
            have HCC := hBT.size
            obtain ⟨vs1, hv1, hfs1, hsrc1, hone1⟩ := (HET.out.more HCC).vals none (by simp)
            have HS1 := Lib.hid hfs1
            have HV1 := Lib.hid hv1
            have HC1 := Lib.hid hsrc1
            have HO1 := Lib.hid hone1
            clear hfs1 hv1 hsrc1 hone1
            go_wp2_with (at_builtin; refine wpList_app elS rfl _ _ rfl wT.heap.size _ 0 [] rfl (own_nil _ _ _) E p q vs1 rfl HV1.out (fun h => ⟨by have := he.nil h; have := he.cap; omega, he.nil h⟩) HC1.out HO1.out (by simp only [maxLen]; omega) (by omega) (Nat.le_refl _) ?_)
            intro v5 w5 hown5 hg5 _
            have hB5 : Below wT.heap.size wT w5 := (Below.refl _ _).grown hg5 (Nat.le_refl _) (by simp [Value.ownBlock])
            have H5 : Hid (w5.ownsRow wT.heap.size 23 1 v5 p vs1) := by
              show World.ownsRow _ _ _ _ _ _ _
              simpa using hown5
            have HS5 := Lib.hid (HS1.out.below hB5)
            obtain ⟨vs2, hv2, hfs2, hsrc2, hone2⟩ := ((HFT.out.more HCC).below hB5).vals none (by simp)
            have HS2 := Lib.hid hfs2
            have HV2 := Lib.hid hv2
            have HC2 := Lib.hid hsrc2
            have HO2 := Lib.hid hone2
            clear hfs2 hv2 hsrc2 hone2 hown5 hg5 HS1 HC1
            go_wp2_with (at_builtin; refine wpList_app elS rfl _ _ rfl wT.heap.size _ p vs1 rfl H5.out F r s vs2 rfl HV2.out (fun h => ⟨by have := hf.nil h; have := hf.cap; omega, hf.nil h⟩) HC2.out HO2.out (by simp only [maxLen]; omega) (by omega) hB5.size ?_)
            intro v6 w6 hown6 hg6 _
            have hB6 : Below wT.heap.size w5 w6 := below_of_grown H5.out hB5.size hg6
            have hBT6 : Below wT.heap.size wT w6 := hB5.trans hB6
            obtain ⟨A6, c6, rfl, hls6⟩ := (((HS5.out.append HS2.out).below hB6).more hBT6.size).lists hown6 (Nat.le_refl _)
            have HL6 := Lib.hid hls6
            have hB06 := hBT.trans (hBT6.mono HCC)
            obtain ⟨X1, hX1⟩ : ∃ X1, X1 = ls.flatten := ⟨_, rfl⟩
            obtain ⟨X2, hX2⟩ : ∃ X2, X2 = ms.flatten := ⟨_, rfl⟩
            have HX1 := Lib.hid hX1
            have HX2 := Lib.hid hX2
            have HXL1 : Hid (X1.length = f1) := by show _ = _; rw [hX1]; exact HF1.out
            have HXL2 : Hid (X2.length = f2) := by show _ = _; rw [hX2]; exact HF2.out
            have HQ : Hid ((ls ++ ms).flatten = X1 ++ X2) := by show _ = _; rw [List.flatten_append, hX1, hX2]
            have HQ2 : Hid ([X1, X2].flatten = X1 ++ X2) := by simp [Hid]
            have HQL : Hid ((X1 ++ X2).length = f1 + f2) := by show _ = _; rw [List.length_append, HXL1.out, HXL2.out]
            clear hX1 hX2 hls6 hown6 hg6 H5 HS5 HS2 HC2 HO1 HO2 HV1 HV2
            go_wp2_with fail
            refine (join_any _ _ _ _ _ HL6.out (by rw [HQ.out, HQL.out]; omega)).mono ?_
            rintro e w7 ⟨v7, rfl, hown7, hB7⟩
            rw [HQ.out, HQL.out] at hown7
            obtain ⟨A7, c7, rfl, hbs7⟩ := Bs.of_own hown7
            have HB7 := Lib.hid hbs7
            have hB07 := below_next hB06 hB7
            have HE7 := Lib.hid (he.next hB07 (Nat.le_refl _))
            clear hown7 hbs7 HL6
            go_wp2_with fail
            refine (join_any _ _ _ _ _ HE7.out (by rw [HF1.out]; omega)).mono ?_
            rintro e w8 ⟨v8, rfl, hown8, hB8⟩
            rw [HF1.out, ← HX1.out] at hown8
            obtain ⟨A8, c8, rfl, hbs8⟩ := Bs.of_own hown8
            have HB8 := Lib.hid hbs8
            have HB78 := Lib.hid (HB7.out.next hB8 (Nat.le_refl _))
            have hB08 := below_next hB07 hB8
            have HF8 := Lib.hid (hf.next hB08 (Nat.le_refl _))
            clear hown8 hbs8 HE7 HB7
            go_wp2_with fail
            refine (join_any _ _ _ _ _ HF8.out (by rw [HF2.out]; omega)).mono ?_
            rintro e w9 ⟨v9, rfl, hown9, hB9⟩
            rw [HF2.out, ← HX2.out] at hown9
            obtain ⟨A9, c9, rfl, hbs9⟩ := Bs.of_own hown9
            have HB9 := Lib.hid hbs9
            have HB89 := Lib.hid (HB8.out.next hB9 (Nat.le_refl _))
            have HB79 := Lib.hid (HB78.out.next hB9 (Nat.le_refl _))
            have hB09 := below_next hB08 hB9
            clear hown9 hbs9 HF8 HB8 HB78
            go_wp2_with fail
            refine (join_any (some ⟨w9.heap.size, 0, none⟩) 2 2 [X1, X2] _ ?_ (by rw [HQ2.out, HQL.out]; omega)).mono ?_
            · have := Ls.two 23 HB89.out HB9.out
              simpa using this
            rintro e w10 ⟨v10, rfl, hown10, hB10⟩
            rw [HQ2.out, HQL.out] at hown10
            obtain ⟨A10, c10, rfl, hbs10⟩ := Bs.of_own hown10
            have HB10 := Lib.hid hbs10
            have hB910 : Below w9.heap.size w9 w10 := ((Below.refl _ _).alloc (Nat.le_refl _) _).trans (hB10.mono (by simp))
            have HB710 := Lib.hid (HB79.out.next hB910 (Nat.le_refl _))
            have hB010 := below_next hB09 hB910
            clear hown10 hbs10 HB79 HB89 HB9
            go_wp2_with fail
            refine (same_any _ _ _ _ _ _ _ _ _ _ _ HB710.out HB10.out).mono ?_
            rintro e w10' ⟨rfl, rfl⟩
            rw [show (X1 ++ X2 == X1 ++ X2) = true by simp]
            go_wp2_with fail
            refine (known_any _).mono ?_
            rintro e w11 ⟨rfl, hB11⟩
            go_wp2
            go_ret
            exact ⟨rfl, below_next hB010 hB11⟩
          · subst h7
            have HE : Hid (cutE l (widths ws) = 0) := by show _ = _; unfold cutE; rw [HOFF.out, ← HSW.out, HLL.out, if_neg (by omega), if_neg (by omega)]
            rw [HE.out]
            have HFE := Lib.hid (cutF_ok HE.out)
            have HOL : Hid (off (widths ws) (widths ws).length ≤ l.length) := by show _ ≤ _; rw [HOFF.out, ← HSW.out, HLL.out]; exact Nat.le_refl _
            have HFF : Hid ((cutF l (widths ws)).flatten = l) := by
              show _ = _
              rw [HFE.out, fieldsL_flatten _ _ HOL.out, List.take_of_length_le]
              rw [HOFF.out, ← HSW.out, HLL.out]; exact Nat.le_refl _
            have HFN : Hid ((cutF l (widths ws)).length = k) := by show _ = _; rw [HFE.out, fieldsL_length, HWN.out, HWL.out]
            obtain rfl : n4 = k := by have := HL4.out.len; rw [HFN.out] at this; exact this.symm
            have HFX : Hid (∀ j (h1 : j < (cutF l (widths ws)).length) (h2 : j < (widths ws).length), (widths ws)[j] = (((cutF l (widths ws))[j].length : Nat) : Int)) := by
              intro j h1 h2
              have h3 := field_len l (widths ws) HOL.out j h2
              have h4 : (cutF l (widths ws))[j].length = (widths ws)[j].toNat := by
                rw [← h3]
                congr 1
                simp only [HFE.out]
              rw [h4]
              have h5 : 0 ≤ (widths ws)[j] := by simp only [widths, List.getElem_map]; omega
              omega
            clear HC0 HC3 HE HFE HOL
            generalize cutF l (widths ws) = fs at *
            go_wp2
            go_loopw [15] (fun i wr => ∃ j : Nat, j ≤ n4 ∧ i = .int .i64 j ∧ Below w3.heap.size w3 wr) (fun i _ => n4 - (intOf i).toNat)
            case atStart => exact ⟨0, Nat.zero_le _, rfl, Below.refl _ _⟩
            case round =>
              obtain ⟨j, hj, rfl, hBR⟩ := hrel
              by_cases hlt : j < n4
              · obtain ⟨b1, o1, A5, n5, c5, rfl, _, hc1, hbs5⟩ := (HL4.out.below hBR).at hlt
                obtain ⟨b2, o2, rfl, _, hc2⟩ := (HZ3.out.below hBR).at hlt
                rw [HFX.out j (by rw [HFN.out]; exact hlt) (by rw [HWN.out, HWL.out]; exact hlt), hbs5.len] at hc2
                have hji : (j : Int) < (n4 : Int) := by omega
                clear hbs5
                go_wp2
                go_quiet (fail)
                go_wp2
                go_roundw
                case rel => exact ⟨j + 1, by omega, by go_num, below_drewN hBR _⟩
                case measure => simp [intOf]; omega
              · have HL5 := Lib.hid ((HL4.out.below hBR).more hBR.size)
                go_wp2_with fail
                refine (join_any _ _ _ _ _ HL5.out (by rw [HFF.out, HLL.out]; omega)).mono ?_
                rintro e w4 ⟨v4, rfl, hown4, hB4⟩
                rw [HFF.out, HLL.out] at hown4
                obtain ⟨A5, c5, rfl, hbs5⟩ := Bs.of_own hown4
                have HB5 := Lib.hid hbs5
                have hBR4 : Below w3.heap.size w3 w4 := hBR.trans (hB4.mono hBR.size)
                have HA5 := Lib.hid (HA3.out.next hBR4 (Nat.le_refl _))
                clear hown4 hbs5
                go_wp2_with fail
                refine (same_any _ _ _ _ _ _ _ _ _ _ _ HB5.out HA5.out).mono ?_
                rintro e w4' ⟨rfl, rfl⟩
                rw [show (l == l) = true by simp]
                have hB04 := below_next hB03 hBR4
                clear HL4 HL5 HA3 HA5 HZ3 HB5
                obtain ⟨wT, hwT⟩ : ∃ wT, wT = w4 := ⟨_, rfl⟩
                rw [← hwT] at hB04 ⊢
                have hBT := hB04
                clear hB04 hwT hB4 hBR hBR4
                have HET := Lib.hid (he.below hBT)
                have HFT := Lib.hid (hf.below hBT)
                have HCC := hBT.size
                obtain ⟨vs1, hv1, hfs1, hsrc1, hone1⟩ := (HET.out.more HCC).vals none (by simp)
                have HS1 := Lib.hid hfs1
                have HV1 := Lib.hid hv1
                have HC1 := Lib.hid hsrc1
                have HO1 := Lib.hid hone1
                clear hfs1 hv1 hsrc1 hone1
                go_wp2_with (at_builtin; refine wpList_app elS rfl _ _ rfl wT.heap.size _ 0 [] rfl (own_nil _ _ _) E p q vs1 rfl HV1.out (fun h => ⟨by have := he.nil h; have := he.cap; omega, he.nil h⟩) HC1.out HO1.out (by simp only [maxLen]; omega) (by omega) (Nat.le_refl _) ?_)
                intro v5 w5 hown5 hg5 _
                have hB5 : Below wT.heap.size wT w5 := (Below.refl _ _).grown hg5 (Nat.le_refl _) (by simp [Value.ownBlock])
                have H5 : Hid (w5.ownsRow wT.heap.size 23 1 v5 p vs1) := by
                  show World.ownsRow _ _ _ _ _ _ _
                  simpa using hown5
                have HS5 := Lib.hid (HS1.out.below hB5)
                obtain ⟨vs2, hv2, hfs2, hsrc2, hone2⟩ := ((HFT.out.more HCC).below hB5).vals none (by simp)
                have HS2 := Lib.hid hfs2
                have HV2 := Lib.hid hv2
                have HC2 := Lib.hid hsrc2
                have HO2 := Lib.hid hone2
                clear hfs2 hv2 hsrc2 hone2 hown5 hg5 HS1 HC1
                go_wp2_with (at_builtin; refine wpList_app elS rfl _ _ rfl wT.heap.size _ p vs1 rfl H5.out F r s vs2 rfl HV2.out (fun h => ⟨by have := hf.nil h; have := hf.cap; omega, hf.nil h⟩) HC2.out HO2.out (by simp only [maxLen]; omega) (by omega) hB5.size ?_)
                intro v6 w6 hown6 hg6 _
                have hB6 : Below wT.heap.size w5 w6 := below_of_grown H5.out hB5.size hg6
                have hBT6 : Below wT.heap.size wT w6 := hB5.trans hB6
                obtain ⟨A6, c6, rfl, hls6⟩ := (((HS5.out.append HS2.out).below hB6).more hBT6.size).lists hown6 (Nat.le_refl _)
                have HL6 := Lib.hid hls6
                have hB06 := hBT.trans (hBT6.mono HCC)
                obtain ⟨X1, hX1⟩ : ∃ X1, X1 = ls.flatten := ⟨_, rfl⟩
                obtain ⟨X2, hX2⟩ : ∃ X2, X2 = ms.flatten := ⟨_, rfl⟩
                have HX1 := Lib.hid hX1
                have HX2 := Lib.hid hX2
                have HXL1 : Hid (X1.length = f1) := by show _ = _; rw [hX1]; exact HF1.out
                have HXL2 : Hid (X2.length = f2) := by show _ = _; rw [hX2]; exact HF2.out
                have HQ : Hid ((ls ++ ms).flatten = X1 ++ X2) := by show _ = _; rw [List.flatten_append, hX1, hX2]
                have HQ2 : Hid ([X1, X2].flatten = X1 ++ X2) := by simp [Hid]
                have HQL : Hid ((X1 ++ X2).length = f1 + f2) := by show _ = _; rw [List.length_append, HXL1.out, HXL2.out]
                clear hX1 hX2 hls6 hown6 hg6 H5 HS5 HS2 HC2 HO1 HO2 HV1 HV2
                go_wp2_with fail
                refine (join_any _ _ _ _ _ HL6.out (by rw [HQ.out, HQL.out]; omega)).mono ?_
                rintro e w7 ⟨v7, rfl, hown7, hB7⟩
                rw [HQ.out, HQL.out] at hown7
                obtain ⟨A7, c7, rfl, hbs7⟩ := Bs.of_own hown7
                have HB7 := Lib.hid hbs7
                have hB07 := below_next hB06 hB7
                have HE7 := Lib.hid (he.next hB07 (Nat.le_refl _))
                clear hown7 hbs7 HL6
                go_wp2_with fail
                refine (join_any _ _ _ _ _ HE7.out (by rw [HF1.out]; omega)).mono ?_
                rintro e w8 ⟨v8, rfl, hown8, hB8⟩
                rw [HF1.out, ← HX1.out] at hown8
                obtain ⟨A8, c8, rfl, hbs8⟩ := Bs.of_own hown8
                have HB8 := Lib.hid hbs8
                have HB78 := Lib.hid (HB7.out.next hB8 (Nat.le_refl _))
                have hB08 := below_next hB07 hB8
                have HF8 := Lib.hid (hf.next hB08 (Nat.le_refl _))
                clear hown8 hbs8 HE7 HB7
                go_wp2_with fail
                refine (join_any _ _ _ _ _ HF8.out (by rw [HF2.out]; omega)).mono ?_
                rintro e w9 ⟨v9, rfl, hown9, hB9⟩
                rw [HF2.out, ← HX2.out] at hown9
                obtain ⟨A9, c9, rfl, hbs9⟩ := Bs.of_own hown9
                have HB9 := Lib.hid hbs9
                have HB89 := Lib.hid (HB8.out.next hB9 (Nat.le_refl _))
                have HB79 := Lib.hid (HB78.out.next hB9 (Nat.le_refl _))
                have hB09 := below_next hB08 hB9
                clear hown9 hbs9 HF8 HB8 HB78
                go_wp2_with fail
                refine (join_any (some ⟨w9.heap.size, 0, none⟩) 2 2 [X1, X2] _ ?_ (by rw [HQ2.out, HQL.out]; omega)).mono ?_
                · have := Ls.two 23 HB89.out HB9.out
                  simpa using this
                rintro e w10 ⟨v10, rfl, hown10, hB10⟩
                rw [HQ2.out, HQL.out] at hown10
                obtain ⟨A10, c10, rfl, hbs10⟩ := Bs.of_own hown10
                have HB10 := Lib.hid hbs10
                have hB910 : Below w9.heap.size w9 w10 := ((Below.refl _ _).alloc (Nat.le_refl _) _).trans (hB10.mono (by simp))
                have HB710 := Lib.hid (HB79.out.next hB910 (Nat.le_refl _))
                have hB010 := below_next hB09 hB910
                clear hown10 hbs10 HB79 HB89 HB9
                go_wp2_with fail
                refine (same_any _ _ _ _ _ _ _ _ _ _ _ HB710.out HB10.out).mono ?_
                rintro e w10' ⟨rfl, rfl⟩
                rw [show (X1 ++ X2 == X1 ++ X2) = true by simp]
                go_wp2_with fail
                refine (known_any _).mono ?_
                rintro e w11 ⟨rfl, hB11⟩
                go_wp2
                go_ret
                exact ⟨rfl, below_next hB010 hB11⟩
end Go.Proofs.Ytnfmhibmdihhnaa
