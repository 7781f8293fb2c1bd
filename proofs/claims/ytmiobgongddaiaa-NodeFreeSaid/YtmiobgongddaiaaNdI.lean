/- The contract of package node's Index. -/
import Derived.Test.YtmiobgongddaiaaNdE
namespace Go.Proofs.Ytmiobgongddaiaa
open Go.RowKit

theorem all_take_step {l : List Int} {k : Nat} {z : Int} (hz : l[k]? = some z) : (l.take (k + 1)).all ptrB = ((l.take k).all ptrB && ptrB z) := by
  have h1 := (List.getElem?_eq_some_iff.1 hz).1
  rw [List.take_succ_eq_append_getElem h1, (List.getElem?_eq_some_iff.1 hz).2, List.all_append]
  simp
theorem all_false {l : List Int} {k : Nat} {z : Int} (hz : l[k]? = some z) (h : ptrB z = false) : l.all ptrB = false := by
  cases hc : l.all ptrB with
  | false => rfl
  | true =>
    rw [List.all_eq_true.1 hc z (List.mem_of_getElem? hz)] at h
    cases h
theorem idxL_step {l : List Int} {k : Nat} {z : Int} (hz : l[k]? = some z) : idxL (l.take (k + 1)) = idxL (l.take k) ++ putN z.toNat 4 := by
  have h1 := (List.getElem?_eq_some_iff.1 hz).1
  rw [List.take_succ_eq_append_getElem h1, (List.getElem?_eq_some_iff.1 hz).2, idxL_snoc]
section
set_option maxRecDepth 100000
set_option maxHeartbeats 4000000
theorem index_any (A : Option Addr) (n c : Nat) (l : List Int) (w : World) (ha : Zs w w.heap.size .i64 A n c l) :
    Calls Try.prog 14 #[.slice A n c] w fun e w' => ∃ A' n' c', e = .returned (.tuple #[.slice A' n' c', .int .i64 (idxE l)]) ∧ Bs w' w'.heap.size A' n' c' (idxA l) ∧ n' ≤ 256 ∧ Below w.heap.size w w' := by
  have HA : Kp _ := ⟨ha⟩
  have HLn : Kp (l.length = n) := ⟨ha.len⟩
  have h63 := ha.le
  clear ha
  by_cases hn : 64 < n
  · have HE : Kp (idxE l = 2 ∧ idxA l = []) := ⟨by
      have h1 : idxB l = false := by unfold idxB; rw [decide_eq_false (by rw [HLn.out]; omega)]; rfl
      unfold idxE idxA
      rw [h1]
      exact ⟨rfl, rfl⟩⟩
    have hn' : (64 : Int) < (n : Int) := by omega
    go_enter Try.func14, Try.ntmps14
    go_wp2
    refine ret_tt rfl rfl rfl rfl ?_
    exact ⟨none, 0, 0, by rw [HE.out.1]; rfl, by rw [HE.out.2]; exact Bs.zero _ _, by decide, Below.refl _ _⟩
  · have hn' : ¬ ((64 : Int) < (n : Int)) := by omega
    have hn64 : n ≤ 64 := by omega
    have HIB : Kp (idxB l = l.all ptrB) := ⟨by unfold idxB; rw [decide_eq_true (by rw [HLn.out]; exact hn64)]; rfl⟩
    obtain ⟨B0, hB0⟩ : ∃ B0, B0 = w.heap.size := ⟨_, rfl⟩
    have HBe : Kp (B0 = w.heap.size) := ⟨hB0⟩
    go_enter Try.func14, Try.ntmps14
    go_wp2_with (refine wpList_mk0 el8 rfl _ _ rfl B0 _ _ _ 256 rfl rfl rfl (by decide) (by decide) (by omega) ?_)
    intro w3 hown hb3
    rw [← hB0] at hown hb3 ⊢
    have HB0e : Kp (B0 ≤ w.heap.size) := ⟨by omega⟩
    have HOw0 : Kp _ := ⟨hown.out⟩
    have HB3 : Kp (Below B0 w w3) := ⟨hb3⟩
    clear hown hb3 hB0 hn
    go_wp2
    go_loopg [4, 14] n (fun gk v4 v14 wr => ∃ k N : Nat, k + gk = n ∧ v14 = .int .i64 (k : Int) ∧ N ≤ 4 * k ∧ Kp ((l.take k).all ptrB = true) ∧ Kp (wr.ownsRow B0 5 1 v4 N (cells8 (idxL (l.take k)))) ∧ Kp (Below B0 w wr))
    case atStart => exact ⟨0, 0, by omega, rfl, by omega, ⟨rfl⟩, HOw0, HB3⟩
    case round =>
      obtain ⟨k, N, hkn, rfl, hN, HF, HOw, HBr⟩ := hrel
      cases gk with
      | zero =>
        have hend : ¬ ((k : Int) < (n : Int)) := by omega
        obtain rfl : k = n := by omega
        have hown := HOw.out
        have hF := HF.out
        rw [List.take_of_length_le (by rw [HLn.out]; exact Nat.le_refl _)] at hown hF
        have HE : Kp (idxE l = 0 ∧ idxA l = idxN l) := ⟨by unfold idxE idxA; rw [HIB.out, hF]; exact ⟨rfl, rfl⟩⟩
        obtain ⟨A4, c4, rfl, hbs⟩ := Bs.of_own hown
        have HCl : Kp _ := ⟨pad_any A4 N c4 256 _ wr hbs (by omega) (by decide)⟩
        have HPd : Kp (padL (idxL l) 256 = idxN l ∧ (idxN l).length = 256) := ⟨by
          refine ⟨?_, idxN_length l (by rw [HLn.out]; exact hn64)⟩
          unfold padL idxN
          rw [idxL_length]; rfl⟩
        clear hown hbs HOw hF
        go_wp2_with fail
        refine HCl.out.mono ?_
        rintro e w5 ⟨v, rfl, hown5, hb5⟩
        rw [HPd.out.1, HPd.out.2] at hown5
        obtain ⟨A5, c5, rfl, hbs5⟩ := Bs.of_own hown5
        have HBs5 : Kp _ := ⟨hbs5⟩
        have HB5 : Kp (Below B0 w w5) := ⟨HBr.out.trans (hb5.mono (Nat.le_trans HB0e.out HBr.out.size))⟩
        clear hown5 hbs5 hb5 HCl
        go_wp2
        refine ret_tt rfl rfl rfl rfl ?_
        exact ⟨A5, 256, c5, by rw [HE.out.1]; rfl, by rw [HE.out.2]; exact HBs5.out, by decide, HBe.out ▸ HB5.out⟩
      | succ g2 =>
        have hgo : (k : Int) < (n : Int) := by omega
        have hk : k < n := by omega
        obtain ⟨bA, oA, rfl, hlA, hcA⟩ := HA.out.at hk
        have hkl : k < l.length := by rw [HLn.out]; exact hk
        obtain ⟨z, hz⟩ : ∃ z, z = l[k] := ⟨_, rfl⟩
        rw [← hz] at hcA
        have hzs : l[k]? = some z := by rw [List.getElem?_eq_getElem hkl, hz]
        have hcr : wr.cell? ⟨bA, oA + k, none⟩ = some (.int .i64 z) := (HBr.out.cell (p := ⟨bA, oA + k, none⟩) (by rw [HBe.out]; exact hlA)).trans hcA
        have HT : Kp _ := ⟨all_take_step hzs⟩
        have HFl : Kp _ := ⟨fun h => all_false hzs h⟩
        have HStep : Kp _ := ⟨idxL_step hzs⟩
        have HBwr : Kp (B0 ≤ wr.heap.size) := ⟨Nat.le_trans HB0e.out HBr.out.size⟩
        have hb4 : Below wr.heap.size wr (wr.alloc (.cells #[.int .i64 z] 3)) := (Below.refl _ _).alloc (Nat.le_refl _) _
        have hk4 : Blk (wr.alloc (.cells #[.int .i64 z] 3)) wr.heap.size 3 [.int .i64 z] := Blk.new wr _ _
        obtain ⟨Nb, hNb⟩ : ∃ x, x = wr.heap.size := ⟨_, rfl⟩
        clear hcA hz hkl hzs
        go_upto_region 7 with fail
        rw [← hNb] at hk4 ⊢
        have HB4 : Kp (Below B0 w (wr.alloc (.cells #[.int .i64 z] 3))) := ⟨HBr.out.trans (hb4.mono HBwr.out)⟩
        have HOw4 : Kp _ := ⟨own_below HOw.out hb4⟩
        have HV4 : Kp _ := ⟨hk4⟩
        have HNb : Kp (B0 ≤ Nb) := ⟨by rw [hNb]; exact HBwr.out⟩
        generalize wr.alloc (.cells #[.int .i64 z] 3) = w4 at *
        clear hb4 hk4 hNb HOw HBr hcr HBwr
        go_wp2_with fail
        refine (pointer_any Nb 0 w4).mono ?_
        rintro e w5 ⟨rfl, hb5⟩
        have HV5 : Kp _ := ⟨HV4.out.below hb5 HV4.out.lt⟩
        have HOw5 : Kp _ := ⟨own_below HOw4.out hb5⟩
        have HB5 : Kp (Below B0 w w5) := ⟨HB4.out.trans (hb5.mono (Nat.le_trans HB0e.out HB4.out.size))⟩
        clear hb5 HV4 HOw4 HB4
        obtain ⟨F, hF⟩ : ∃ F, F = w5.heap.size := ⟨_, rfl⟩
        go_wp2_with (refine wpList_alloc tyFd rfl rfl ?_)
        intro w6 hk6 hb6 _
        rw [← hF] at hk6 ⊢
        have HF6 : Kp _ := ⟨hk6⟩
        have HOF : Kp _ := ⟨own_not HOw5.out⟩
        rw [← hF] at HOF
        have HV6 : Kp _ := ⟨HV5.out.below hb6 HV5.out.lt⟩
        have HOw6 : Kp _ := ⟨own_below HOw5.out hb6⟩
        have HB6 : Kp (Below B0 w w6) := ⟨HB5.out.trans (hb6.mono (Nat.le_trans HB0e.out HB5.out.size))⟩
        have HFw : Kp (B0 ≤ F) := ⟨by rw [hF]; exact Nat.le_trans HB0e.out HB5.out.size⟩
        have HVF : Kp (Nb ≠ F) := ⟨by rw [hF]; exact alloc_ne HV5.out⟩
        clear hk6 hb6 hF HV5 HOw5 HB5
        go_wp2_with (refine wpList_storeAll rwFd rfl _ _ rfl rfl HF6.out (n := 3) rfl (vs := fdL Nb 0 4 4095) rfl (fdL_one _ _ _ _) rfl ?_)
        intro w7 hk7 ho7
        have HF7 : Kp _ := ⟨hk7⟩
        have HV7 : Kp _ := ⟨HV6.out.only ho7 HVF.out⟩
        have HOw7 : Kp _ := ⟨own_only HOw6.out ho7 HOF.out⟩
        have HB7 : Kp (Below B0 w w7) := ⟨HB6.out.trans (ho7.below HFw.out)⟩
        clear hk7 ho7 HF6 HV6 HOw6 HB6
        have HCl : Kp _ := ⟨fright_any Nb 0 4 4095 z w7 (HV7.out.cell? 0) HV7.out.lt⟩
        go_wp2_with (refine wpList_loadAll rwFd rfl _ rfl rfl HF7.out rfl ?_)
        refine HCl.out.mono ?_
        rintro e w8 ⟨rfl, hb8⟩
        have HF8 : Kp _ := ⟨HF7.out.below hb8 HF7.out.lt⟩
        have HV8 : Kp _ := ⟨HV7.out.below hb8 HV7.out.lt⟩
        have HOw8 : Kp _ := ⟨own_below HOw7.out hb8⟩
        have HB8 : Kp (Below B0 w w8) := ⟨HB7.out.trans (hb8.mono (Nat.le_trans HB0e.out HB7.out.size))⟩
        clear hb8 HF7 HV7 HOw7 HB7 HCl
        cases hq : fitB z 4095 with
        | false =>
          have HE : Kp (idxE l = 2 ∧ idxA l = []) := ⟨by
            have h1 : idxB l = false := by rw [HIB.out]; exact HFl.out hq
            unfold idxE idxA
            rw [h1]
            exact ⟨rfl, rfl⟩⟩
          go_wp2
          refine ret_tt rfl rfl rfl rfl ?_
          exact ⟨none, 0, 0, by rw [HE.out.1]; rfl, by rw [HE.out.2]; exact Bs.zero _ _, by decide, HBe.out ▸ HB8.out⟩
        | true =>
          have hzb : 0 ≤ z ∧ z ≤ 4095 := by
            unfold fitB at hq
            rw [Bool.and_eq_true, decide_eq_true_eq, decide_eq_true_eq] at hq
            exact ⟨hq.1, by have := hq.2; omega⟩
          have HF9 : Kp ((l.take (k + 1)).all ptrB = true) := ⟨by rw [HT.out, HF.out]; exact hq⟩
          have HCl : Kp _ := ⟨fbytes_any Nb 0 4 4095 z w8 (HV8.out.cell? 0) HV8.out.lt hzb.1 (by omega) (by decide)⟩
          clear hzb hq
          go_wp2_with (refine wpList_loadAll rwFd rfl _ rfl rfl HF8.out rfl ?_)
          refine HCl.out.mono ?_
          rintro e w9 ⟨v9, rfl, hown9, hb9⟩
          obtain ⟨A9, c9, rfl, hbs9⟩ := Bs.of_own hown9
          have HBs9 : Kp _ := ⟨hbs9⟩
          have HOw9 : Kp _ := ⟨own_below HOw8.out hb9⟩
          have HB9 : Kp (Below B0 w w9) := ⟨HB8.out.trans (hb9.mono (Nat.le_trans HB0e.out HB8.out.size))⟩
          have HL9 : Kp ((cells8 (putN z.toNat 4)).length = 4) := ⟨by rw [cells8_length, putN_length]⟩
          have HB9w : Kp (B0 ≤ w9.heap.size) := ⟨Nat.le_trans HB0e.out HB9.out.size⟩
          clear hown9 hbs9 hb9 HCl HOw8 HV8 HB8 HF8
          go_wp2_with (at_builtin; refine wpList_app el8 rfl _ _ rfl B0 _ N _ rfl HOw9.out A9 4 c9 (cells8 (putN z.toNat 4)) rfl HL9.out (fun h => ⟨by have := HBs9.out.nil h; have := HBs9.out.cap; omega, HBs9.out.nil h⟩) HBs9.out.news (cells8_one _) (by simp only [maxLen]; omega) (by omega) HB9w.out ?_)
          intro v10 w10 hown10 hg10 _
          have hb10 : Below B0 w9 w10 := below_of_grown HOw9.out HB9w.out hg10
          have hown10' : w10.ownsRow B0 5 1 v10 (N + 4) (cells8 (idxL (l.take (k + 1)))) := by rw [HStep.out, cells8_append]; exact hown10
          have HOw10 : Kp _ := ⟨hown10'⟩
          have HB10 : Kp (Below B0 w w10) := ⟨HB9.out.trans hb10⟩
          clear hown10 hown10' hg10 hb10 HOw9 HB9 HBs9
          go_wp2
          go_roundg g2
          case measure => omega
          case rel => exact ⟨k + 1, N + 4, by omega, by go_num, by omega, HF9, HOw10, HB10⟩
end
end Go.Proofs.Ytmiobgongddaiaa
