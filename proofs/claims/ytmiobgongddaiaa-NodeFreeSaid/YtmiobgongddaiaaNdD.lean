/- The contract of package node's Decode. -/
import Derived.Test.YtmiobgongddaiaaNdE
namespace Go.Proofs.Ytmiobgongddaiaa
open Go.RowKit

theorem ret_two {P : Program} {a : Act} {w : World} {t : TypeId} {fn : Func} {R : Ending → World → Prop} {p q : Tmp} {d : TypeDesc} {n : Nat} (hr : fn.results = #[.cell p t, .tmp q]) (E : Rw P t d n) {g : Nat} {t' : TypeId} {cs : List Value} {v2 : Value} (hx : a.tmps.getD p undef = .pointer (some ⟨g, 0, none⟩)) (hq : a.tmps.getD q undef = v2) (hb : Blk w g t' cs) (hn : cs.length = n) (hd : a.defers = [])
    (h : R (.returned (.tuple #[.agg cs.toArray, v2])) w) : bodyPost P fn R .ret a w := by
  have hl := run_load_rw (w := w) E hb (off := 0) (by omega)
  simp only [Instr.loadAt, Instr.sureAddr, Sem.run_bind, Sem.run_pure, Result.andThen_ok] at hl
  have e : (cs.drop 0).take n = cs := by rw [List.drop_zero, List.take_of_length_le (by omega)]
  rw [e] at hl
  have hx' : a.tmps[p]?.getD undef = .pointer (some ⟨g, 0, none⟩) := by simpa using hx
  have hq' : a.tmps[q]?.getD undef = v2 := by simpa using hq
  exact bodyPost_ret (v := .tuple #[.agg cs.toArray, v2]) (by simp only [results, hr]; simp [hx', hq', asAddr, hl]) hd h
/-- a record of which the first k numbers are read -/
def decK (b : List UInt8) (k : Nat) : List Int := decL (wideN.take k) b ++ List.replicate (10 - k) 0
theorem decK_length (b : List UInt8) (k : Nat) (hk : k ≤ 10) : (decK b k).length = 10 := by
  unfold decK
  rw [List.length_append, decL_length, List.length_take, List.length_replicate]
  simp [wideN]; omega
theorem decK_zero (b : List UInt8) : decK b 0 = zero10 := rfl
theorem decK_ten (b : List UInt8) : decK b 10 = decL wideN b := by
  unfold decK
  rw [List.take_of_length_le (by decide)]; simp
theorem decK_set (b : List UInt8) (k wd : Nat) (hk : k < 10) (hw : wideN[k]? = some wd) : (cellsZ (decK b k)).set k (.int .i64 (getN ((b.drop (wideN.take k).sum).take wd) : Nat)) = cellsZ (decK b (k + 1)) := by
  unfold decK
  have hl : (decL (wideN.take k) b).length = k := by rw [decL_length, List.length_take]; simp [wideN]; omega
  rw [decL_step wideN b k wd hw, show 10 - k = (10 - (k + 1)) + 1 by omega, List.replicate_succ]
  unfold cellsZ
  rw [List.map_append, List.map_append, List.map_append, List.set_append_right _ _ (by rw [List.length_map, hl]; exact Nat.le_refl _)]
  simp [hl]
theorem sum_step (k wd : Nat) (hk : k < 10) (hw : wideN[k]? = some wd) : (wideN.take (k + 1)).sum = (wideN.take k).sum + wd ∧ (wideN.take (k + 1)).sum ≤ 35 := by
  have hc : k = 0 ∨ k = 1 ∨ k = 2 ∨ k = 3 ∨ k = 4 ∨ k = 5 ∨ k = 6 ∨ k = 7 ∨ k = 8 ∨ k = 9 := by omega
  rcases hc with rfl | rfl | rfl | rfl | rfl | rfl | rfl | rfl | rfl | rfl <;> (simp [wideN] at hw; subst hw; decide)
section
set_option maxRecDepth 100000
set_option maxHeartbeats 4000000
theorem decode_any (A : Option Addr) (n c : Nat) (b : List UInt8) (w : World) (hb : Bs w w.heap.size A n c b) :
    Calls Try.prog 19 #[.slice A n c] w fun e w' => e = .returned (.tuple #[.agg (cellsZ (decA b)).toArray, .int .i64 (decE b)]) ∧ Below w.heap.size w w' := by
  have hlen := hb.len
  have hmax := hb.max
  obtain ⟨B0, hB0⟩ : ∃ B0, B0 = w.heap.size := ⟨_, rfl⟩
  have HB0e : Kp (B0 ≤ w.heap.size) := ⟨by omega⟩
  have hb0 : Bs w B0 A n c b := by rw [hB0]; exact hb
  have HBs0 : Kp _ := ⟨hb0⟩
  have HLn : Kp (b.length = n) := ⟨hlen⟩
  clear hb hlen hb0 hmax
  go_enter Try.func19, Try.ntmps19
  go_wp2_with (refine wpList_alloc tyNd rfl rfl ?_)
  intro w1 hk1 hb1 hs1
  rw [← hB0] at hk1 hs1 hb1 ⊢
  obtain ⟨R, hR⟩ : ∃ R, R = B0 := ⟨_, rfl⟩
  rw [← hR] at hk1 ⊢
  have HR1 : Kp (Blk w1 R 24 (cellsZ zero10)) := ⟨hk1⟩
  have HB1 : Kp (Below B0 w w1) := ⟨hb1⟩
  have HRB : Kp (B0 ≤ R) := ⟨by omega⟩
  have HBs1 : Kp _ := ⟨HBs0.out.below hb1⟩
  have HBe : Kp (B0 = w.heap.size) := ⟨hB0⟩
  clear hk1 hb1 hs1 hB0 hR HBs0
  by_cases hn : n = 64
  · subst hn
    go_wp2_with (first | refine wpList_build0 rfl rfl built_zero ?_ | refine wpList_alloc tyNd rfl rfl ?_)
    intro w2 hk2 hb2 _
    obtain ⟨X, hX⟩ : ∃ X, X = w1.heap.size := ⟨_, rfl⟩
    rw [← hX] at hk2 ⊢
    have HX2 : Kp (Blk w2 X 24 (cellsZ zero10)) := ⟨hk2⟩
    have HR2 : Kp _ := ⟨HR1.out.below hb2 HR1.out.lt⟩
    have HRX : Kp (R ≠ X) := ⟨by rw [hX]; exact alloc_ne HR1.out⟩
    have HXB : Kp (B0 ≤ X) := ⟨by rw [hX]; exact Nat.le_trans HB0e.out HB1.out.size⟩
    have HB2 : Kp (Below B0 w w2) := ⟨HB1.out.trans (hb2.mono (Nat.le_trans HB0e.out HB1.out.size))⟩
    have HBs2 : Kp _ := ⟨HBs1.out.below (hb2.mono (Nat.le_trans HB0e.out HB1.out.size))⟩
    clear hk2 hb2 hX HB1 HBs1 HR1
    go_wp2_with (refine wpList_storeAll rwNd rfl _ _ rfl rfl HX2.out (n := 10) rfl (vs := cellsZ zero10) rfl (cellsZ_one _) rfl ?_)
    intro w3 hk3 ho3
    have HX3 : Kp _ := ⟨hk3⟩
    have HR3 : Kp _ := ⟨HR2.out.only ho3 HRX.out⟩
    have HB3 : Kp (Below B0 w w3) := ⟨HB2.out.trans (ho3.below HXB.out)⟩
    have HBs3 : Kp _ := ⟨HBs2.out.below (ho3.below HXB.out)⟩
    clear hk3 ho3 HX2 HR2 HB2 HBs2
    go_wp2_with fail
    refine (fields_any X w3).mono ?_
    rintro e w4 ⟨rfl, hb4⟩
    have hb4' := hb4.mono (Nat.le_trans HB0e.out HB3.out.size)
    have HX4 : Kp _ := ⟨HX3.out.below hb4 HX3.out.lt⟩
    have HR4 : Kp _ := ⟨HR3.out.below hb4 HR3.out.lt⟩
    have HB4 : Kp (Below B0 w w4) := ⟨HB3.out.trans hb4'⟩
    have HBs4 : Kp _ := ⟨HBs3.out.below hb4'⟩
    clear hb4 hb4' HX3 HR3 HB3 HBs3
    go_wp2
    go_loopg [5, 17] 10 (fun gk v5 v17 wr => ∃ (k n' c' : Nat) (A' : Option Addr), k + gk = 10 ∧ v17 = .int .i64 (k : Int) ∧ v5 = .slice A' n' c' ∧ Kp (n' + (wideN.take k).sum = 64) ∧ Kp (Bs wr B0 A' n' c' (b.drop (wideN.take k).sum)) ∧ Kp (Blk wr X 24 (cellsZ (decK b k))) ∧ Kp (Blk wr R 24 (cellsZ zero10)) ∧ Kp (Bs wr B0 A 64 c b) ∧ Kp (Below B0 w wr))
    case atStart => exact ⟨0, 64, c, A, by omega, rfl, rfl, ⟨rfl⟩, HBs4, ⟨by rw [decK_zero]; exact HX4.out⟩, HR4, HBs4, HB4⟩
    case round =>
      obtain ⟨k, n', c', A', hk10, rfl, rfl, HN, HRs, HKr, HRr, HBb, HBr⟩ := hrel
      cases gk with
      | zero =>
        have hend : ¬ ((k : Int) < 10) := by omega
        obtain rfl : k = 10 := by omega
        obtain ⟨zs, hzs⟩ : ∃ zs, zs = decL wideN b := ⟨_, rfl⟩
        have hl : zs.length = 10 := by rw [hzs, decL_length]; rfl
        have hK10 := HKr.out
        rw [decK_ten, ← hzs] at hK10
        have HK10 : Kp _ := ⟨hK10⟩
        have HLc : Kp ((cellsZ zs).length = 10) := ⟨by rw [cellsZ_length]; exact hl⟩
        have HL : Kp _ := ⟨hl⟩
        have HDb : Kp (decB b = (okN zs && (encN zs == b)) ∧ (decA b = if decB b then zs else zero10) ∧ (decE b = if decB b then 0 else 4)) := ⟨by unfold decA decE decB; rw [← hzs, decide_eq_true HLn.out]; exact ⟨by simp, rfl, rfl⟩⟩
        have hcall := encode_any zs hl wr
        unfold encE encA at hcall
        clear hK10 hl hzs HKr HRs HN
        cases hok : okN zs with
        | false =>
          have HE : Kp (decA b = zero10 ∧ decE b = 4) := ⟨by
            have h1 : decB b = false := by rw [HDb.out.1, hok]; rfl
            exact ⟨by rw [HDb.out.2.1, h1]; rfl, by rw [HDb.out.2.2, h1]; rfl⟩⟩
          rw [hok] at hcall
          simp only [Bool.false_eq_true, if_false] at hcall
          have HCl : Kp _ := ⟨hcall⟩
          clear hcall HDb
          go_wp2_with (refine wpList_loadAll rwNd rfl _ rfl rfl HK10.out HLc.out ?_)
          refine HCl.out.mono ?_
          rintro e w5 ⟨A5, n5, c5, rfl, _, _, hb5⟩
          have HR5 : Kp _ := ⟨HRr.out.below hb5 HRr.out.lt⟩
          have HB5 : Kp (Below B0 w w5) := ⟨HBr.out.trans (hb5.mono (Nat.le_trans HB0e.out HBr.out.size))⟩
          clear hb5 HCl HRr HBr HK10
          go_wp2_with (first | refine wpList_build0 rfl rfl built_zero ?_ | refine wpList_storeAll rwNd rfl _ _ rfl rfl HR5.out (n := 10) rfl (vs := cellsZ zero10) rfl (cellsZ_one _) rfl ?_)
          intro w6 hk6 ho6
          have HR6 : Kp _ := ⟨hk6⟩
          have HB6 : Kp (Below B0 w w6) := ⟨HB5.out.trans (ho6.below HRB.out)⟩
          clear hk6 ho6
          go_wp2
          refine ret_two rfl rwNd rfl rfl HR6.out rfl rfl ?_
          exact ⟨by rw [HE.out.1, HE.out.2]; rfl, HBe.out ▸ HB6.out⟩
        | true =>
          rw [hok] at hcall
          simp only [if_true] at hcall
          have HCl : Kp _ := ⟨hcall⟩
          clear hcall
          go_wp2_with (refine wpList_loadAll rwNd rfl _ rfl rfl HK10.out HLc.out ?_)
          refine HCl.out.mono ?_
          rintro e w5 ⟨A5, n5, c5, rfl, hbs5, _, hb5⟩
          have hb5' := hb5.mono (Nat.le_trans HB0e.out HBr.out.size)
          have HR5 : Kp _ := ⟨HRr.out.below hb5 HRr.out.lt⟩
          have HK5 : Kp _ := ⟨HK10.out.below hb5 HK10.out.lt⟩
          have HB5 : Kp (Below B0 w w5) := ⟨HBr.out.trans hb5'⟩
          have HBb5 : Kp _ := ⟨HBb.out.below hb5'⟩
          have HQ : Kp _ := ⟨equal_any A5 A n5 c5 64 c (encN zs) b w5 hbs5 (HBb5.out.more (Nat.le_trans HB0e.out HB5.out.size))⟩
          obtain ⟨q, hq⟩ : ∃ q, q = (encN zs == b) := ⟨_, rfl⟩
          rw [← hq] at HQ
          have HDq : Kp (decB b = q) := ⟨by rw [HDb.out.1, hok, ← hq]; rfl⟩
          clear hb5 hb5' hbs5 HCl HRr HBr HK10 HBb hok hq
          go_wp2_with fail
          refine HQ.out.mono ?_
          rintro e w6 ⟨rfl, hb6⟩
          have HR6 : Kp _ := ⟨HR5.out.below hb6 HR5.out.lt⟩
          have HK6 : Kp _ := ⟨HK5.out.below hb6 HK5.out.lt⟩
          have HB6 : Kp (Below B0 w w6) := ⟨HB5.out.trans (hb6.mono (Nat.le_trans HB0e.out HB5.out.size))⟩
          clear hb6 HQ HR5 HK5 HB5 HBb5
          cases q with
          | false =>
            have HE : Kp (decA b = zero10 ∧ decE b = 4) := ⟨by rw [HDb.out.2.1, HDb.out.2.2, HDq.out]; exact ⟨rfl, rfl⟩⟩
            go_wp2_with (first | refine wpList_build0 rfl rfl built_zero ?_ | refine wpList_storeAll rwNd rfl _ _ rfl rfl HR6.out (n := 10) rfl (vs := cellsZ zero10) rfl (cellsZ_one _) rfl ?_)
            intro w7 hk7 ho7
            have HR7 : Kp _ := ⟨hk7⟩
            have HB7 : Kp (Below B0 w w7) := ⟨HB6.out.trans (ho7.below HRB.out)⟩
            clear hk7 ho7
            go_wp2
            refine ret_two rfl rwNd rfl rfl HR7.out rfl rfl ?_
            exact ⟨by rw [HE.out.1, HE.out.2]; rfl, HBe.out ▸ HB7.out⟩
          | true =>
            have HE : Kp (decA b = zs ∧ decE b = 0) := ⟨by rw [HDb.out.2.1, HDb.out.2.2, HDq.out]; exact ⟨rfl, rfl⟩⟩
            go_wp2_with (first | refine wpList_loadAll rwNd rfl _ rfl rfl HK6.out HLc.out ?_ | refine wpList_storeAll rwNd rfl _ _ rfl rfl HR6.out (n := 10) rfl (vs := cellsZ zs) HLc.out (cellsZ_one _) rfl ?_)
            intro w7 hk7 ho7
            have HR7 : Kp _ := ⟨hk7⟩
            have HB7 : Kp (Below B0 w w7) := ⟨HB6.out.trans (ho7.below HRB.out)⟩
            clear hk7 ho7
            go_wp2
            refine ret_two rfl rwNd rfl rfl HR7.out HLc.out rfl ?_
            exact ⟨by rw [HE.out.1, HE.out.2]; rfl, HBe.out ▸ HB7.out⟩
      | succ g2 =>
        have hgo : (k : Int) < 10 := by omega
        have hk : k < 10 := by omega
        obtain ⟨md, hmd⟩ : ∃ x, x = mostN.getD k 0 := ⟨_, rfl⟩
        obtain ⟨wd, hwd⟩ : ∃ x, x = wideN.getD k 0 := ⟨_, rfl⟩
        have hm := most_at k hk
        have hv := wide_at k hk
        rw [← hmd] at hm
        rw [← hwd] at hv
        have hAt := fldsC_at X k hk
        rw [← hmd, ← hwd] at hAt
        have HAt : Kp _ := ⟨hAt⟩
        have HMd : Kp _ := ⟨hm⟩
        have HWd : Kp _ := ⟨hv⟩
        obtain ⟨F, hF⟩ : ∃ F, F = wr.heap.size := ⟨_, rfl⟩
        clear hmd hwd hm hv hAt
        go_wp2_with (first | refine wpList_index_fd (show (Try.prog).underlying 63 = _ from by kernel_rfl) rwFd rfl _ _ rfl rfl rfl k rfl hk HAt.out ?_ | refine wpList_alloc tyFd rfl rfl ?_)
        intro w3 hk3 hb3 _
        rw [← hF] at hk3 ⊢
        have HFl : Kp _ := ⟨hk3⟩
        have HFw : Kp (B0 ≤ F) := ⟨by rw [hF]; exact Nat.le_trans HB0e.out HBr.out.size⟩
        have HXF : Kp (X ≠ F) := ⟨by rw [hF]; exact alloc_ne HKr.out⟩
        replace HRs : Kp _ := ⟨HRs.out.below (hb3.mono (Nat.le_trans HB0e.out HBr.out.size))⟩
        replace HBb : Kp _ := ⟨HBb.out.below (hb3.mono (Nat.le_trans HB0e.out HBr.out.size))⟩
        have HRF : Kp (R ≠ F) := ⟨by rw [hF]; exact alloc_ne HRr.out⟩
        replace HRr : Kp _ := ⟨HRr.out.below hb3 HRr.out.lt⟩
        replace HKr : Kp _ := ⟨HKr.out.below hb3 HKr.out.lt⟩
        replace HBr : Kp _ := ⟨HBr.out.trans (hb3.mono (Nat.le_trans HB0e.out HBr.out.size))⟩
        clear hk3 hb3 hF HAt
        go_wp2_with (refine wpList_storeAll rwFd rfl _ _ rfl rfl HFl.out (n := 3) rfl (vs := fdL X k wd md) rfl (fdL_one _ _ _ _) rfl ?_)
        intro w4 hk4 ho4
        replace HFl : Kp _ := ⟨hk4⟩
        replace HRs : Kp _ := ⟨HRs.out.below (ho4.below HFw.out)⟩
        replace HBb : Kp _ := ⟨HBb.out.below (ho4.below HFw.out)⟩
        replace HRr : Kp _ := ⟨HRr.out.only ho4 HRF.out⟩
        replace HKr : Kp _ := ⟨HKr.out.only ho4 HXF.out⟩
        replace HBr : Kp _ := ⟨HBr.out.trans (ho4.below HFw.out)⟩
        clear hk4 ho4
        have hsum := sum_step k wd hk HWd.out
        have hwn : wd ≤ n' := by have := HN.out; omega
        have hw4 := wide_le k wd HWd.out
        have HSum : Kp _ := ⟨hsum⟩
        have HWn : Kp _ := ⟨hwn⟩
        have HSt : Kp _ := ⟨decK_set b k wd hk HWd.out⟩
        have HCl : Kp _ := ⟨fread_any X k wd md B0 _ _ A' n' c' _ w4 HKr.out (by rw [cellsZ_length, decK_length b k (by omega)]; exact hk) HRs.out HXB.out hw4 hwn⟩
        clear hsum
        go_wp2_with (refine wpList_loadAll rwFd rfl _ rfl rfl HFl.out rfl ?_)
        refine HCl.out.mono ?_
        rintro e w5 ⟨A5, n5, c5, rfl, hbs5, hk5, hg5⟩
        have hb5 : Below B0 w4 w5 := below_grown hg5 HXB.out (Nat.le_trans HB0e.out HBr.out.size)
        rw [HSt.out] at hk5
        rw [List.drop_drop, ← HSum.out.1] at hbs5
        have HN5 : Kp (n5 + (wideN.take (k + 1)).sum = 64) := ⟨by
          have h1 := hbs5.len
          rw [List.length_drop, HLn.out] at h1
          have := HSum.out.2
          omega⟩
        have HRs5 : Kp _ := ⟨hbs5⟩
        have HK5 : Kp _ := ⟨hk5⟩
        have HRr5 : Kp _ := ⟨HRr.out.grown hg5 HRX.out⟩
        have HBb5 : Kp _ := ⟨HBb.out.below hb5⟩
        have HB5 : Kp (Below B0 w w5) := ⟨HBr.out.trans hb5⟩
        clear hbs5 hk5 hg5 hb5 HCl HRs HKr HRr HBb HBr HFl HSt
        go_wp2
        go_roundg g2
        case measure => omega
        case rel => exact ⟨k + 1, n5, c5, A5, by omega, by go_num, rfl, HN5, HRs5, HK5, HRr5, HBb5, HB5⟩
  · have hn' : ¬ ((n : Int) = 64) := by omega
    have HE : Kp (decA b = zero10 ∧ decE b = 4) := ⟨by
      have h1 : decB b = false := by unfold decB; rw [decide_eq_false (by rw [HLn.out]; exact hn)]; rfl
      unfold decA decE
      rw [h1]
      exact ⟨rfl, rfl⟩⟩
    go_wp2_with (first | refine wpList_build0 rfl rfl built_zero ?_ | refine wpList_storeAll rwNd rfl _ _ rfl rfl HR1.out (n := 10) rfl (vs := cellsZ zero10) rfl (cellsZ_one _) rfl ?_)
    intro w7 hk7 ho7
    have HR7 : Kp _ := ⟨hk7⟩
    have HB7 : Kp (Below B0 w w7) := ⟨HB1.out.trans (ho7.below HRB.out)⟩
    clear hk7 ho7
    go_wp2
    refine ret_two rfl rwNd rfl rfl HR7.out rfl rfl ?_
    exact ⟨by rw [HE.out.1, HE.out.2]; rfl, HBe.out ▸ HB7.out⟩
end
end Go.Proofs.Ytmiobgongddaiaa
