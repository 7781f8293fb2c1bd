/- The contracts of package node's Right, Encode, Decode. -/
import Derived.Test.YtmiobgongddaiaaNdG
import Derived.Test.YtmiobgongddaiaaCPad
import Derived.Test.YtmiobgongddaiaaCEqual
namespace Go.Proofs.Ytmiobgongddaiaa
open Go.RowKit

theorem cellsZ_at {zs : List Int} {j : Nat} {z : Int} (h : zs[j]? = some z) : (cellsZ zs)[j]? = some (.int .i64 z) := by simp [cellsZ, h]
theorem ten_at {zs : List Int} (h : zs.length = 10) (j : Nat) (hj : j < 10) : ∃ z, zs[j]? = some z := ⟨_, List.getElem?_eq_getElem (by omega)⟩
theorem most_at (j : Nat) (hj : j < 10) : mostN[j]? = some (mostN.getD j 0) := by
  have h : j < mostN.length := hj
  rw [List.getD_eq_getElem?_getD, List.getElem?_eq_getElem h]; rfl
theorem wide_at (j : Nat) (hj : j < 10) : wideN[j]? = some (wideN.getD j 0) := by
  have h : j < wideN.length := hj
  rw [List.getD_eq_getElem?_getD, List.getElem?_eq_getElem h]; rfl
section
set_option maxRecDepth 100000
set_option maxHeartbeats 2000000
theorem right_any (zs : List Int) (hl : zs.length = 10) (w : World) :
    Calls Try.prog 17 #[.agg (cellsZ zs).toArray] w fun e w' => e = .returned (.bool (okN zs)) ∧ Below w.heap.size w w' := by
  obtain ⟨X, hX⟩ : ∃ X, X = w.heap.size := ⟨_, rfl⟩
  have hb1 : Below w.heap.size w (w.alloc (.cells (cellsZ zs).toArray 24)) := (Below.refl _ _).alloc (Nat.le_refl _) _
  have hk1 : Blk (w.alloc (.cells (cellsZ zs).toArray 24)) w.heap.size 24 (cellsZ zs) := Blk.new w _ _
  rw [← hX] at hk1
  have HB1 : Kp _ := ⟨hb1⟩
  have HK1 : Kp _ := ⟨hk1⟩
  have HL : Kp (zs.length = 10) := ⟨hl⟩
  have HW : Kp (w.heap.size ≤ X) := ⟨by omega⟩
  clear hb1 hk1 hl
  go_enter Try.func17, Try.ntmps17
  go_upto_region 1 with fail
  rw [← hX]
  generalize w.alloc (.cells (cellsZ zs).toArray 24) = w1 at *
  clear hX
  go_wp2_with fail
  refine (fields_any X w1).mono ?_
  rintro e w2 ⟨rfl, hb2⟩
  have HK2 : Kp _ := ⟨HK1.out.below hb2 HK1.out.lt⟩
  have HB2 : Kp (Below w.heap.size w w2) := ⟨HB1.out.trans (hb2.mono HB1.out.size)⟩
  clear hb2 HK1 HB1
  go_wp2
  go_loopg [6] 10 (fun gk v6 wr => ∃ k : Nat, k + gk = 10 ∧ v6 = .int .i64 (k : Int) ∧ Kp (fitL (mostN.take k) (zs.take k) = true) ∧ Kp (Blk wr X 24 (cellsZ zs)) ∧ Kp (Below w.heap.size w wr))
  case atStart => exact ⟨0, by omega, rfl, ⟨rfl⟩, HK2, HB2⟩
  case round =>
    obtain ⟨k, hk10, rfl, HF, HKr, HBr⟩ := hrel
    cases gk with
    | zero =>
      have hend : ¬ ((k : Int) < 10) := by omega
      obtain rfl : k = 10 := by omega
      have HF' : Kp (fitL mostN zs = true) := ⟨by
        have h := HF.out
        rw [List.take_of_length_le (by decide), List.take_of_length_le (by rw [HL.out]; exact Nat.le_refl _)] at h
        exact h⟩
      obtain ⟨z, hz⟩ := ten_at HL.out 0 (by decide)
      have hgd : zs.getD 0 0 = z := by rw [List.getD_eq_getElem?_getD, hz]; rfl
      have hc := HKr.out.cell? 0
      rw [cellsZ_at hz] at hc
      obtain ⟨q, hq⟩ : ∃ q, q = (zs == zero10) := ⟨_, rfl⟩
      have hrun := fun W => run_eqN W zs zero10 HL.out zero10_length
      rw [← hq] at hrun
      have HRun : Kp _ := ⟨hrun⟩
      have HOk : Kp (okN zs = (!(z == 0) || q)) := ⟨by unfold okN; rw [HF'.out, hgd, Bool.true_and, hq]; rfl⟩
      clear hrun hz hgd hq HF
      by_cases hz0 : z = 0
      · subst hz0
        go_wp2_with (first | refine wpList_loadAll_g rwNd rfl _ rfl rfl HKr.out (by rw [cellsZ_length]; exact HL.out) ?_ | refine wpList_build0_g rfl rfl built_zero ?_ | refine wpList_eql_g eqG rfl _ _ rfl rfl rfl (HRun.out _) ?_)
        go_ret
        exact ⟨by rw [HOk.out]; rfl, HBr.out⟩
      · have hz1 : (z == 0) = false := by rw [beq_eq_false_iff_ne]; exact hz0
        go_wp2
        go_ret
        exact ⟨by rw [HOk.out, hz1]; rfl, HBr.out⟩
    | succ g2 =>
      have hgo : (k : Int) < 10 := by omega
      have hk : k < 10 := by omega
      obtain ⟨z, hz⟩ := ten_at HL.out k hk
      obtain ⟨md, hmd⟩ : ∃ x, x = mostN.getD k 0 := ⟨_, rfl⟩
      obtain ⟨wd, hwd⟩ : ∃ x, x = wideN.getD k 0 := ⟨_, rfl⟩
      have hm := most_at k hk
      rw [← hmd] at hm
      have hAt := fldsC_at X k hk
      rw [← hmd, ← hwd] at hAt
      have HAt : Kp _ := ⟨hAt⟩
      have HT : Kp _ := ⟨fitL_take mostN zs k _ z hm hz⟩
      have HFl : Kp _ := ⟨fun h => fitL_false mostN zs k _ z h hm hz⟩
      have HZ : Kp _ := ⟨cellsZ_at hz⟩
      obtain ⟨F, hF⟩ : ∃ F, F = wr.heap.size := ⟨_, rfl⟩
      clear hmd hwd hm hAt hz
      go_wp2_with (first | refine wpList_index_fd (show (Try.prog).underlying 63 = _ from by kernel_rfl) rwFd rfl _ _ rfl rfl rfl k rfl hk HAt.out ?_ | refine wpList_alloc tyFd rfl rfl ?_)
      intro w3 hk3 hb3 _
      rw [← hF] at hk3 ⊢
      have HF3 : Kp _ := ⟨hk3⟩
      have HK3 : Kp _ := ⟨HKr.out.below hb3 HKr.out.lt⟩
      have HB3 : Kp (Below w.heap.size w w3) := ⟨HBr.out.trans (hb3.mono HBr.out.size)⟩
      have HFw : Kp (w.heap.size ≤ F) := ⟨by rw [hF]; exact HBr.out.size⟩
      have HXF : Kp (X ≠ F) := ⟨by rw [hF]; exact alloc_ne HKr.out⟩
      clear hk3 hb3 hF HKr HBr HAt
      go_wp2_with (refine wpList_storeAll rwFd rfl _ _ rfl rfl HF3.out (n := 3) rfl (vs := fdL X k wd md) rfl (fdL_one _ _ _ _) rfl ?_)
      intro w4 hk4 ho4
      have HF4 : Kp _ := ⟨hk4⟩
      have HK4 : Kp _ := ⟨HK3.out.only ho4 HXF.out⟩
      have HB4 : Kp (Below w.heap.size w w4) := ⟨HB3.out.trans (ho4.below HFw.out)⟩
      clear hk4 ho4 HF3 HK3 HB3
      have HCl : Kp _ := ⟨fright_any X k wd md z w4 ((HK4.out.cell? k).trans HZ.out) HK4.out.lt⟩
      go_wp2_with (refine wpList_loadAll rwFd rfl _ rfl rfl HF4.out rfl ?_)
      refine HCl.out.mono ?_
      rintro e w5 ⟨rfl, hb5⟩
      have HK5 : Kp _ := ⟨HK4.out.below hb5 HK4.out.lt⟩
      have HB5 : Kp (Below w.heap.size w w5) := ⟨HB4.out.trans (hb5.mono HB4.out.size)⟩
      clear hb5 HCl HF4 HK4 HB4 HZ
      cases hq : fitB z md with
      | true =>
        have HF5 : Kp (fitL (mostN.take (k + 1)) (zs.take (k + 1)) = true) := ⟨by rw [HT.out, HF.out, hq]; rfl⟩
        go_wp2
        go_roundg g2
        case measure => omega
        case rel => exact ⟨k + 1, by omega, by go_num, HF5, HK5, HB5⟩
      | false =>
        have HO : Kp (okN zs = false) := ⟨by unfold okN; rw [HFl.out hq]; rfl⟩
        go_wp2
        go_ret
        exact ⟨by rw [HO.out]; rfl, HB5.out⟩
end
end Go.Proofs.Ytmiobgongddaiaa
