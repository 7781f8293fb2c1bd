/- The contract of package node's Encode. -/
import Derived.Test.YtmiobgongddaiaaNdR
namespace Go.Proofs.Ytmiobgongddaiaa
open Go.RowKit

theorem ret_tt {P : Program} {a : Act} {w : World} {fn : Func} {R : Ending → World → Prop} {p q : Tmp} {v1 v2 : Value} (hr : fn.results = #[.tmp p, .tmp q]) (hp : a.tmps.getD p undef = v1) (hq : a.tmps.getD q undef = v2) (hd : a.defers = [])
    (h : R (.returned (.tuple #[v1, v2])) w) : bodyPost P fn R .ret a w := by
  have hp' : a.tmps[p]?.getD undef = v1 := by simpa using hp
  have hq' : a.tmps[q]?.getD undef = v2 := by simpa using hq
  exact bodyPost_ret (v := .tuple #[v1, v2]) (by simp only [results, hr]; simp [hp', hq']) hd h
theorem own_only {w w' : World} {base g n : Nat} {e : TypeId} {v : Value} {xs : List Value} (h : w.ownsRow base e 1 v n xs) (ho : Only g w w') (hg : v.ownBlock ≠ some g) : w'.ownsRow base e 1 v n xs := by
  refine ⟨h.1, ?_⟩
  rcases h.2 with ⟨rfl, rfl⟩ | ⟨b, cap, cur, rfl, hb, hh, hn, hm, hs, ht⟩
  · exact .inl ⟨rfl, rfl⟩
  · refine .inr ⟨b, cap, cur, rfl, hb, (ho.block b (fun e => hg (by rw [e]; rfl))).trans hh, hn, hm, hs, ht⟩
theorem own_not {w : World} {base n : Nat} {e : TypeId} {v : Value} {xs : List Value} (h : w.ownsRow base e 1 v n xs) : v.ownBlock ≠ some w.heap.size := by
  rcases h.2 with ⟨rfl, rfl⟩ | ⟨b, cap, cur, rfl, hb, hh, hn, hm, hs, ht⟩
  · intro e; cases e
  · intro e
    have h1 := (Array.getElem?_eq_some_iff.1 hh).1
    have e2 : some b = some w.heap.size := e
    have := Option.some.inj e2
    omega
theorem wide_le (j : Nat) (w : Nat) (h : wideN[j]? = some w) : w ≤ 4 := by
  have hj : j < 10 := (List.getElem?_eq_some_iff.1 h).1
  have hc : j = 0 ∨ j = 1 ∨ j = 2 ∨ j = 3 ∨ j = 4 ∨ j = 5 ∨ j = 6 ∨ j = 7 ∨ j = 8 ∨ j = 9 := by omega
  rcases hc with rfl | rfl | rfl | rfl | rfl | rfl | rfl | rfl | rfl | rfl <;> (simp [wideN] at h; omega)
theorem most_le (j : Nat) (m : Nat) (h : mostN[j]? = some m) : m ≤ 65535 := by
  have hj : j < 10 := (List.getElem?_eq_some_iff.1 h).1
  have hc : j = 0 ∨ j = 1 ∨ j = 2 ∨ j = 3 ∨ j = 4 ∨ j = 5 ∨ j = 6 ∨ j = 7 ∨ j = 8 ∨ j = 9 := by omega
  rcases hc with rfl | rfl | rfl | rfl | rfl | rfl | rfl | rfl | rfl | rfl <;> (simp [mostN] at h; omega)
section
set_option maxRecDepth 100000
set_option maxHeartbeats 2000000
theorem encode_any (zs : List Int) (hl : zs.length = 10) (w : World) :
    Calls Try.prog 12 #[.agg (cellsZ zs).toArray] w fun e w' => ∃ A n c, e = .returned (.tuple #[.slice A n c, .int .i64 (encE zs)]) ∧ Bs w' w'.heap.size A n c (encA zs) ∧ n ≤ 64 ∧ Below w.heap.size w w' := by
  obtain ⟨X, hX⟩ : ∃ X, X = w.heap.size := ⟨_, rfl⟩
  have hb1 : Below w.heap.size w (w.alloc (.cells (cellsZ zs).toArray 24)) := (Below.refl _ _).alloc (Nat.le_refl _) _
  have hk1 : Blk (w.alloc (.cells (cellsZ zs).toArray 24)) w.heap.size 24 (cellsZ zs) := Blk.new w _ _
  have hs1 : (w.alloc (.cells (cellsZ zs).toArray 24)).heap.size = X + 1 := by rw [hX]; simp
  rw [← hX] at hk1
  have HB1 : Kp _ := ⟨hb1⟩
  have HK1 : Kp _ := ⟨hk1⟩
  have HS1 : Kp _ := ⟨hs1⟩
  have HL : Kp (zs.length = 10) := ⟨hl⟩
  have HLc : Kp ((cellsZ zs).length = 10) := ⟨by rw [cellsZ_length]; exact hl⟩
  have HW : Kp (w.heap.size ≤ X) := ⟨by omega⟩
  clear hb1 hk1 hl hs1
  go_enter Try.func12, Try.ntmps12
  go_upto_region 1 with fail
  rw [← hX]
  generalize w.alloc (.cells (cellsZ zs).toArray 24) = w1 at *
  clear hX
  have HCl : Kp _ := ⟨right_any zs HL.out w1⟩
  go_wp2_with (refine wpList_loadAll rwNd rfl _ rfl rfl HK1.out HLc.out ?_)
  refine HCl.out.mono ?_
  rintro e w2 ⟨rfl, hb2⟩
  have HK2 : Kp _ := ⟨HK1.out.below hb2 HK1.out.lt⟩
  have HB2 : Kp (Below w.heap.size w w2) := ⟨HB1.out.trans (hb2.mono HB1.out.size)⟩
  have HS2 : Kp (X < w2.heap.size) := ⟨by have := hb2.size; have := HS1.out; omega⟩
  clear hb2 HK1 HB1 HS1 HCl
  cases hok : okN zs with
  | false =>
    have HE : Kp (encE zs = 2 ∧ encA zs = []) := ⟨by unfold encE encA; rw [hok]; exact ⟨rfl, rfl⟩⟩
    go_wp2
    refine ret_tt rfl rfl rfl rfl ?_
    exact ⟨none, 0, 0, by rw [HE.out.1]; rfl, by rw [HE.out.2]; exact Bs.zero _ _, by decide, HB2.out⟩
  | true =>
    have HE : Kp (encE zs = 0 ∧ encA zs = encN zs) := ⟨by unfold encE encA; rw [hok]; exact ⟨rfl, rfl⟩⟩
    have HFit : Kp _ := ⟨ok_fit hok⟩
    clear hok
    obtain ⟨B0, hB0⟩ : ∃ B0, B0 = w2.heap.size := ⟨_, rfl⟩
    go_wp2_with (refine wpList_mk0 el8 rfl _ _ rfl B0 _ _ _ 64 rfl rfl rfl (by decide) (by decide) (by omega) ?_)
    intro w3 hown hb3
    rw [← hB0] at hown hb3 ⊢
    have HB0e : Kp (B0 ≤ w2.heap.size) := ⟨by omega⟩
    have HOw0 : Kp _ := ⟨hown.out⟩
    have HK3 : Kp _ := ⟨HK2.out.below hb3 (by have := HS2.out; omega)⟩
    have HXB : Kp (X < B0) := ⟨by have := HS2.out; omega⟩
    have HB3 : Kp (Below B0 w2 w3) := ⟨hb3⟩
    have HWB : Kp (w.heap.size ≤ B0) := ⟨by have := HB2.out.size; omega⟩
    clear hown hb3 hB0 HK2 HS2
    go_wp2_with fail
    refine (fields_any X w3).mono ?_
    rintro e w4 ⟨rfl, hb4⟩
    have HK4 : Kp _ := ⟨HK3.out.below hb4 HK3.out.lt⟩
    have HOw4 : Kp _ := ⟨own_below HOw0.out hb4⟩
    have HB4 : Kp (Below B0 w2 w4) := ⟨HB3.out.trans (hb4.mono (Nat.le_trans HB0e.out HB3.out.size))⟩
    clear hb4 HK3 HOw0 HB3
    go_wp2
    go_loopg [4, 12] 10 (fun gk v4 v12 wr => ∃ k N : Nat, k + gk = 10 ∧ v12 = .int .i64 (k : Int) ∧ N ≤ 4 * k ∧ Kp (wr.ownsRow B0 5 1 v4 N (cells8 (encL (wideN.take k) (zs.take k)))) ∧ Kp (Blk wr X 24 (cellsZ zs)) ∧ Kp (Below B0 w2 wr))
    case atStart => exact ⟨0, 0, by omega, rfl, by omega, HOw4, HK4, HB4⟩
    case round =>
      obtain ⟨k, N, hk10, rfl, hN, HOw, HKr, HBr⟩ := hrel
      cases gk with
      | zero =>
        have hend : ¬ ((k : Int) < 10) := by omega
        obtain rfl : k = 10 := by omega
        have hown := HOw.out
        rw [List.take_of_length_le (by decide), List.take_of_length_le (by rw [HL.out]; exact Nat.le_refl _)] at hown
        obtain ⟨A, c, rfl, hbs⟩ := Bs.of_own hown
        have HBs : Kp _ := ⟨hbs⟩
        have HCl : Kp _ := ⟨pad_any A N c 64 _ wr hbs (by omega) (by decide)⟩
        have HPd : Kp (padL (encL wideN zs) 64 = encN zs) := ⟨by unfold padL encN; rw [encL_length _ _ (by rw [HL.out]; rfl)]; rfl⟩
        clear hown hbs HOw
        go_wp2_with fail
        refine HCl.out.mono ?_
        rintro e w5 ⟨v, rfl, hown5, hb5⟩
        rw [HPd.out] at hown5
        have hlen := encN_length zs HL.out
        rw [hlen] at hown5
        obtain ⟨A5, c5, rfl, hbs5⟩ := Bs.of_own hown5
        have HBs5 : Kp _ := ⟨hbs5⟩
        have HB5 : Kp (Below w.heap.size w w5) := ⟨HB2.out.trans ((HBr.out.trans (hb5.mono (Nat.le_trans HB0e.out HBr.out.size))).mono HWB.out)⟩
        clear hown5 hbs5 hb5 hlen HCl
        go_wp2
        refine ret_tt rfl rfl rfl rfl ?_
        exact ⟨A5, 64, c5, by rw [HE.out.1]; rfl, by rw [HE.out.2]; exact HBs5.out, by decide, HB5.out⟩
      | succ g2 =>
        have hgo : (k : Int) < 10 := by omega
        have hk : k < 10 := by omega
        obtain ⟨z, hz⟩ := ten_at HL.out k hk
        have HZ : Kp _ := ⟨cellsZ_at hz⟩
        have HZz : Kp _ := ⟨hz⟩
        have HOF : Kp _ := ⟨own_not HOw.out⟩
        clear hz
        obtain ⟨md, hmd⟩ : ∃ x, x = mostN.getD k 0 := ⟨_, rfl⟩
        obtain ⟨wd, hwd⟩ : ∃ x, x = wideN.getD k 0 := ⟨_, rfl⟩
        have hm := most_at k hk
        have hv := wide_at k hk
        rw [← hmd] at hm
        rw [← hwd] at hv
        have hAt := fldsC_at X k hk
        rw [← hmd, ← hwd] at hAt
        have HAt : Kp _ := ⟨hAt⟩
        have HMd : Kp _ := ⟨hm⟩
        have HWd : Kp _ := ⟨hv⟩
        obtain ⟨F, hF⟩ : ∃ F, F = wr.heap.size := ⟨_, rfl⟩
        clear hmd hwd hm hv hAt
        go_wp2_with (first | refine wpList_index_fd (show (Try.prog).underlying 63 = _ from by kernel_rfl) rwFd rfl _ _ rfl rfl rfl k rfl hk HAt.out ?_ | refine wpList_alloc tyFd rfl rfl ?_)
        intro w3 hk3 hb3 _
        rw [← hF] at hk3 ⊢
        have HFl : Kp _ := ⟨hk3⟩
        have HFw : Kp (B0 ≤ F) := ⟨by rw [hF]; exact Nat.le_trans HB0e.out HBr.out.size⟩
        have HXF : Kp (X ≠ F) := ⟨by rw [hF]; exact alloc_ne HKr.out⟩
        replace HOw : Kp _ := ⟨own_below HOw.out hb3⟩
        rw [← hF] at HOF
        replace HKr : Kp _ := ⟨HKr.out.below hb3 HKr.out.lt⟩
        replace HBr : Kp _ := ⟨HBr.out.trans (hb3.mono (Nat.le_trans HB0e.out HBr.out.size))⟩
        clear hk3 hb3 hF HAt
        go_wp2_with (refine wpList_storeAll rwFd rfl _ _ rfl rfl HFl.out (n := 3) rfl (vs := fdL X k wd md) rfl (fdL_one _ _ _ _) rfl ?_)
        intro w4 hk4 ho4
        replace HFl : Kp _ := ⟨hk4⟩
        replace HOw : Kp _ := ⟨own_only HOw.out ho4 HOF.out⟩
        replace HKr : Kp _ := ⟨HKr.out.only ho4 HXF.out⟩
        replace HBr : Kp _ := ⟨HBr.out.trans (ho4.below HFw.out)⟩
        clear hk4 ho4
        have hzb := fitL_at mostN zs k md z HFit.out HMd.out HZz.out
        have hm5 := most_le k md HMd.out
        have hw4 := wide_le k wd HWd.out
        have HCl : Kp _ := ⟨fbytes_any X k wd md z w4 ((HKr.out.cell? k).trans HZ.out) HKr.out.lt hzb.1 (by omega) (by omega)⟩
        have HStep : Kp _ := ⟨encL_step wideN zs k wd z (by rw [HL.out]; rfl) HWd.out HZz.out⟩
        clear hzb hm5
        go_wp2_with (refine wpList_loadAll rwFd rfl _ rfl rfl HFl.out rfl ?_)
        refine HCl.out.mono ?_
        rintro e w5 ⟨v5, rfl, hown5, hb5⟩
        obtain ⟨A5, c5, rfl, hbs5⟩ := Bs.of_own hown5
        have HBs5 : Kp _ := ⟨hbs5⟩
        have HOw5 : Kp _ := ⟨own_below HOw.out hb5⟩
        have HK5 : Kp _ := ⟨HKr.out.below hb5 HKr.out.lt⟩
        have HB5 : Kp (Below B0 w2 w5) := ⟨HBr.out.trans (hb5.mono (Nat.le_trans HB0e.out HBr.out.size))⟩
        have HL5 : Kp ((cells8 (putN z.toNat wd)).length = wd) := ⟨by rw [cells8_length, putN_length]⟩
        have HB5w : Kp (B0 ≤ w5.heap.size) := ⟨Nat.le_trans HB0e.out HB5.out.size⟩
        clear hown5 hbs5 hb5 HCl HOw HKr HBr HFl
        go_wp2_with (at_builtin; refine wpList_app el8 rfl _ _ rfl B0 _ N _ rfl HOw5.out A5 wd c5 (cells8 (putN z.toNat wd)) rfl HL5.out (fun h => ⟨by have := HBs5.out.nil h; have := HBs5.out.cap; omega, HBs5.out.nil h⟩) HBs5.out.news (cells8_one _) (by simp only [maxLen]; omega) (by omega) HB5w.out ?_)
        intro v6 w6 hown6 hg6 _
        have hb6 : Below B0 w5 w6 := below_of_grown HOw5.out HB5w.out hg6
        have hown6' : w6.ownsRow B0 5 1 v6 (N + wd) (cells8 (encL (wideN.take (k + 1)) (zs.take (k + 1)))) := by rw [HStep.out, cells8_append]; exact hown6
        have HOw6 : Kp _ := ⟨hown6'⟩
        have HK6 : Kp _ := ⟨HK5.out.below hb6 HXB.out⟩
        have HB6 : Kp (Below B0 w2 w6) := ⟨HB5.out.trans hb6⟩
        clear hown6 hown6' hb6 HOw5 HK5 HB5 HBs5
        go_wp2
        go_roundg g2
        case measure => omega
        case rel => exact ⟨k + 1, N + wd, by omega, by go_num, by omega, HOw6, HK6, HB6⟩
end
end Go.Proofs.Ytmiobgongddaiaa
