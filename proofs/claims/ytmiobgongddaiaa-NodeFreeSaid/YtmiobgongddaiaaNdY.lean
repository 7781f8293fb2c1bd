/- The contracts of the document's Encode and Index. -/
import Derived.Test.YtmiobgongddaiaaNdX
namespace Go.Proofs.Ytmiobgongddaiaa
open Go.RowKit Go.Shelf

/-- the first numbers of a record as bytes: the three, and k pointers -/
def encK (zs : List Int) (k : Nat) : List UInt8 := encL (wideN.take k) (zs.take k)
theorem encK_step (zs : List Int) (k : Nat) (w : Nat) (z : Int) (hl : zs.length = 10) (hw : wideN[k]? = some w) (hz : zs[k]? = some z) : encK zs (k + 1) = encK zs k ++ putN z.toNat w := encL_step wideN zs k w z (by rw [hl]; rfl) hw hz
theorem encK_ten (zs : List Int) (hl : zs.length = 10) : padL (encK zs 10) 64 = encN zs := by
  unfold encK padL encN
  rw [List.take_of_length_le (by decide), List.take_of_length_le (by omega), encL_length _ _ (by rw [hl]; rfl)]; rfl
section
set_option maxRecDepth 100000
set_option maxHeartbeats 4000000
theorem refencode_any (zs : List Int) (hl : zs.length = 10) (w : World) :
    Calls Try.prog 13 #[.agg (cellsZ zs).toArray] w fun e w' => ∃ A n c, e = .returned (.tuple #[.slice A n c, .int .i64 (encE zs)]) ∧ Bs w' w'.heap.size A n c (encA zs) ∧ Below w.heap.size w w' := by
  obtain ⟨X, hX⟩ : ∃ X, X = w.heap.size := ⟨_, rfl⟩
  have hb1 : Below w.heap.size w (w.alloc (.cells (cellsZ zs).toArray 24)) := (Below.refl _ _).alloc (Nat.le_refl _) _
  have hk1 : Blk (w.alloc (.cells (cellsZ zs).toArray 24)) w.heap.size 24 (cellsZ zs) := Blk.new w _ _
  rw [← hX] at hk1
  have HB1 : Kp _ := ⟨hb1⟩
  have HK1 : Kp _ := ⟨hk1⟩
  have HL : Kp (zs.length = 10) := ⟨hl⟩
  have HLc : Kp ((cellsZ zs).length = 10) := ⟨by rw [cellsZ_length]; exact hl⟩
  have HPd : Kp _ := ⟨encK_ten zs hl⟩
  clear hb1 hk1 hl
  go_enter Try.func13, Try.ntmps13
  go_upto_region 1 with fail
  rw [← hX]
  generalize w.alloc (.cells (cellsZ zs).toArray 24) = w1 at *
  clear hX
  have HCl : Kp _ := ⟨refright_any zs HL.out w1⟩
  go_wp2_with (refine wpList_loadAll rwNd rfl _ rfl rfl HK1.out HLc.out ?_)
  refine HCl.out.mono ?_
  rintro e w2 ⟨rfl, hb2⟩
  have HK2 : Kp _ := ⟨HK1.out.below hb2 HK1.out.lt⟩
  have HB2 : Kp (Below w.heap.size w w2) := ⟨HB1.out.trans (hb2.mono HB1.out.size)⟩
  clear hb2 HK1 HB1 HCl
  cases hok : okN zs with
  | false =>
    have HE : Kp (encE zs = 2 ∧ encA zs = []) := ⟨by unfold encE encA; rw [hok]; exact ⟨rfl, rfl⟩⟩
    go_wp2
    refine ret_tt rfl rfl rfl rfl ?_
    exact ⟨none, 0, 0, by rw [HE.out.1]; rfl, by rw [HE.out.2]; exact Bs.zero _ _, HB2.out⟩
  | true =>
    have HE : Kp (encE zs = 0 ∧ encA zs = encN zs) := ⟨by unfold encE encA; rw [hok]; exact ⟨rfl, rfl⟩⟩
    have hfit := ok_fit hok
    have bnd : ∀ j z, j < 10 → zs[j]? = some z → 0 ≤ z ∧ z ≤ 65535 := fun j z hj hz => by
      have h1 := fitL_at mostN zs j _ z hfit (most_at j hj) hz
      have h2 := most_le j _ (most_at j hj)
      exact ⟨h1.1, by omega⟩
    have HBd : Kp _ := ⟨bnd⟩
    obtain ⟨za, hza⟩ := ten_at HL.out 0 (by decide)
    obtain ⟨zb, hzb⟩ := ten_at HL.out 1 (by decide)
    obtain ⟨zc, hzc⟩ := ten_at HL.out 2 (by decide)
    have HC0 : Kp _ := ⟨cellsZ_at hza⟩
    have HC1 : Kp _ := ⟨cellsZ_at hzb⟩
    have HC2 : Kp _ := ⟨cellsZ_at hzc⟩
    have hs1 := encK_step zs 0 1 za HL.out rfl hza
    have hs2 := encK_step zs 1 2 zb HL.out rfl hzb
    have hs3 := encK_step zs 2 4 zc HL.out rfl hzc
    have HE3 : Kp (encK zs 3 = (([] ++ putN za.toNat 1) ++ putN zb.toNat 2) ++ putN zc.toNat 4) := ⟨by rw [hs3, hs2, hs1]; rfl⟩
    have b0 := bnd 0 za (by decide) hza
    have b1 := bnd 1 zb (by decide) hzb
    have b2 := bnd 2 zc (by decide) hzc
    clear hok hfit bnd hza hzb hzc hs1 hs2 hs3
    go_upto_region 3 with fail
    go_cut [4] from 9 to 17 (fun v4 wx => ∃ A c, v4 = .slice A 7 c ∧ Kp (Bs wx wx.heap.size A 7 c (encK zs 3)) ∧ Kp (Blk wx X 24 (cellsZ zs)) ∧ Kp (Below w.heap.size w wx))
    case first =>
      go_wp2_with fail
      refine wp_region_any (by kernel_rfl) ?_
      change wpAny _ _ _ _ _ _ _ w2.drew
      replace HK2 : Kp _ := ⟨HK2.out.drew⟩
      replace HB2 : Kp _ := ⟨HB2.out.drew⟩
      generalize w2.drew = wS at *
      refine wpAny_take (i := 0) (oi := ⟨some 9, _, _, _, _, _⟩) (v := ?_) rfl (by kernel_rfl) (by kernel_rfl) (by kernel_rfl) (fun _ _ _ h => h) (Or.inl ⟨by rfl, by intro w; go_simp; try rfl⟩) ?_
      try simp only [Act.put, List.setIfInBounds_toArray, List.set_cons_zero, List.set_cons_succ]
      refine wpAny_take (i := 3) (oi := ⟨some 12, _, _, _, _, _⟩) (v := ?_) rfl (by kernel_rfl) (by kernel_rfl) (by kernel_rfl) (fun _ _ _ h => h) (Or.inl ⟨by rfl, by intro w; go_simp; try rfl⟩) ?_
      try simp only [Act.put, List.setIfInBounds_toArray, List.set_cons_zero, List.set_cons_succ]
      refine wpAny_take (i := 6) (oi := ⟨some 15, _, _, _, _, _⟩) (v := ?_) rfl (by kernel_rfl) (by kernel_rfl) (by kernel_rfl) (fun _ _ _ h => h) (Or.inl ⟨by rfl, by intro w; go_simp; try rfl⟩) ?_
      try simp only [Act.put, List.setIfInBounds_toArray, List.set_cons_zero, List.set_cons_succ]
      repeat' (first
        | ((with_reducible change ite (Region.wanted ⟨some 10, _, _, _, _, _⟩ _ = true) _ _); have c0 := (HK2.out.cell? 0).trans HC0.out; go_simp; refine hK _ _ ?_; clear hK K c0; (try simp only [Act.put, List.setIfInBounds_toArray, List.set_cons_zero, List.set_cons_succ]))
        | ((with_reducible change ite (Region.wanted ⟨some 11, _, _, _, _, _⟩ _ = true) _ _); go_simp; refine (refput3_any none 0 0 1 [] za wS (Bs.zero _ _) (by decide) b0.1 b0.2 (by decide)).mono ?_; rintro e wZ ⟨v, rfl, hown, hb'⟩; refine hK _ _ ?_; clear hK K; obtain ⟨Aa, ca, rfl, hbs⟩ := Bs.of_own hown; have Ha : Kp _ := ⟨hbs⟩; (try simp only [Act.put, List.setIfInBounds_toArray, List.set_cons_zero, List.set_cons_succ]); replace HK2 : Kp _ := ⟨HK2.out.below hb' HK2.out.lt⟩; replace HB2 : Kp _ := ⟨HB2.out.trans (hb'.mono HB2.out.size)⟩; clear hown hbs hb'; obtain ⟨wS, rfl⟩ : ∃ x, x = wZ := ⟨_, rfl⟩)
        | ((with_reducible change ite (Region.wanted ⟨some 13, _, _, _, _, _⟩ _ = true) _ _); have c0 := (HK2.out.cell? 1).trans HC1.out; go_simp; refine hK _ _ ?_; clear hK K c0; (try simp only [Act.put, List.setIfInBounds_toArray, List.set_cons_zero, List.set_cons_succ]))
        | ((with_reducible change ite (Region.wanted ⟨some 14, _, _, _, _, _⟩ _ = true) _ _); go_simp; refine (refput3_any Aa (0 + 1) ca 2 _ zb wS (Ha.out) (by decide) b1.1 b1.2 (by decide)).mono ?_; rintro e wZ ⟨v, rfl, hown, hb'⟩; refine hK _ _ ?_; clear hK K; obtain ⟨Ab, cb, rfl, hbs⟩ := Bs.of_own hown; have Hb : Kp _ := ⟨hbs⟩; (try simp only [Act.put, List.setIfInBounds_toArray, List.set_cons_zero, List.set_cons_succ]); replace HK2 : Kp _ := ⟨HK2.out.below hb' HK2.out.lt⟩; replace HB2 : Kp _ := ⟨HB2.out.trans (hb'.mono HB2.out.size)⟩; clear hown hbs hb'; obtain ⟨wS, rfl⟩ : ∃ x, x = wZ := ⟨_, rfl⟩)
        | ((with_reducible change ite (Region.wanted ⟨some 16, _, _, _, _, _⟩ _ = true) _ _); have c0 := (HK2.out.cell? 2).trans HC2.out; go_simp; refine hK _ _ ?_; clear hK K c0; (try simp only [Act.put, List.setIfInBounds_toArray, List.set_cons_zero, List.set_cons_succ]))
        | ((with_reducible change ite (Region.wanted ⟨some 17, _, _, _, _, _⟩ _ = true) _ _); go_simp; refine (refput3_any Ab (0 + 1 + 2) cb 4 _ zc wS (Hb.out) (by decide) b2.1 b2.2 (by decide)).mono ?_; rintro e wZ ⟨v, rfl, hown, hb'⟩; refine hK _ _ ?_; clear hK K; obtain ⟨Ac, cc, rfl, hbs⟩ := Bs.of_own hown; have Hc : Kp _ := ⟨hbs⟩; (try simp only [Act.put, List.setIfInBounds_toArray, List.set_cons_zero, List.set_cons_succ]); replace HK2 : Kp _ := ⟨HK2.out.below hb' HK2.out.lt⟩; replace HB2 : Kp _ := ⟨HB2.out.trans (hb'.mono HB2.out.size)⟩; clear hown hbs hb'; obtain ⟨wS, rfl⟩ : ∃ x, x = wZ := ⟨_, rfl⟩; refine wpAny_take (i := 9) (oi := ⟨some 4, _, _, _, _, _⟩) (v := ?_) rfl (by kernel_rfl) (by kernel_rfl) (by kernel_rfl) (fun _ _ _ h => h) (Or.inl ⟨by rfl, by intro w; go_simp; try rfl⟩) ?_; (try simp only [Act.put, List.setIfInBounds_toArray, List.set_cons_zero, List.set_cons_succ]))
        | ((with_reducible change wpAny _ _ _ _ _ _ _ _); refine wpAny_ready (rs := [1, 4, 7]) (by decide +kernel) (by simp) ?_; refine AllReady.cons (o := ⟨some 10, _, _, _, _, _⟩) rfl (fun K hK => ?_) (AllReady.cons (o := ⟨some 13, _, _, _, _, _⟩) rfl (fun K hK => ?_) (AllReady.cons (o := ⟨some 16, _, _, _, _, _⟩) rfl (fun K hK => ?_) AllReady.nil)))
        | ((with_reducible change wpAny _ _ _ _ _ _ _ _); refine wpAny_ready (rs := [2, 4, 7]) (by decide +kernel) (by simp) ?_; refine AllReady.cons (o := ⟨some 11, _, _, _, _, _⟩) rfl (fun K hK => ?_) (AllReady.cons (o := ⟨some 13, _, _, _, _, _⟩) rfl (fun K hK => ?_) (AllReady.cons (o := ⟨some 16, _, _, _, _, _⟩) rfl (fun K hK => ?_) AllReady.nil)))
        | ((with_reducible change wpAny _ _ _ _ _ _ _ _); refine wpAny_ready (rs := [1, 4]) (by decide +kernel) (by simp) ?_; refine AllReady.cons (o := ⟨some 10, _, _, _, _, _⟩) rfl (fun K hK => ?_) (AllReady.cons (o := ⟨some 13, _, _, _, _, _⟩) rfl (fun K hK => ?_) AllReady.nil))
        | ((with_reducible change wpAny _ _ _ _ _ _ _ _); refine wpAny_ready (rs := [1, 7]) (by decide +kernel) (by simp) ?_; refine AllReady.cons (o := ⟨some 10, _, _, _, _, _⟩) rfl (fun K hK => ?_) (AllReady.cons (o := ⟨some 16, _, _, _, _, _⟩) rfl (fun K hK => ?_) AllReady.nil))
        | ((with_reducible change wpAny _ _ _ _ _ _ _ _); refine wpAny_ready (rs := [2, 4]) (by decide +kernel) (by simp) ?_; refine AllReady.cons (o := ⟨some 11, _, _, _, _, _⟩) rfl (fun K hK => ?_) (AllReady.cons (o := ⟨some 13, _, _, _, _, _⟩) rfl (fun K hK => ?_) AllReady.nil))
        | ((with_reducible change wpAny _ _ _ _ _ _ _ _); refine wpAny_ready (rs := [2, 7]) (by decide +kernel) (by simp) ?_; refine AllReady.cons (o := ⟨some 11, _, _, _, _, _⟩) rfl (fun K hK => ?_) (AllReady.cons (o := ⟨some 16, _, _, _, _, _⟩) rfl (fun K hK => ?_) AllReady.nil))
        | ((with_reducible change wpAny _ _ _ _ _ _ _ _); refine wpAny_ready (rs := [4, 7]) (by decide +kernel) (by simp) ?_; refine AllReady.cons (o := ⟨some 13, _, _, _, _, _⟩) rfl (fun K hK => ?_) (AllReady.cons (o := ⟨some 16, _, _, _, _, _⟩) rfl (fun K hK => ?_) AllReady.nil))
        | ((with_reducible change wpAny _ _ _ _ _ _ _ _); refine wpAny_ready (rs := [5, 7]) (by decide +kernel) (by simp) ?_; refine AllReady.cons (o := ⟨some 14, _, _, _, _, _⟩) rfl (fun K hK => ?_) (AllReady.cons (o := ⟨some 16, _, _, _, _, _⟩) rfl (fun K hK => ?_) AllReady.nil))
        | ((with_reducible change wpAny _ _ _ _ _ _ _ _); refine wpAny_ready (rs := [1]) (by decide +kernel) (by simp) ?_; refine AllReady.cons (o := ⟨some 10, _, _, _, _, _⟩) rfl (fun K hK => ?_) AllReady.nil)
        | ((with_reducible change wpAny _ _ _ _ _ _ _ _); refine wpAny_ready (rs := [2]) (by decide +kernel) (by simp) ?_; refine AllReady.cons (o := ⟨some 11, _, _, _, _, _⟩) rfl (fun K hK => ?_) AllReady.nil)
        | ((with_reducible change wpAny _ _ _ _ _ _ _ _); refine wpAny_ready (rs := [4]) (by decide +kernel) (by simp) ?_; refine AllReady.cons (o := ⟨some 13, _, _, _, _, _⟩) rfl (fun K hK => ?_) AllReady.nil)
        | ((with_reducible change wpAny _ _ _ _ _ _ _ _); refine wpAny_ready (rs := [5]) (by decide +kernel) (by simp) ?_; refine AllReady.cons (o := ⟨some 14, _, _, _, _, _⟩) rfl (fun K hK => ?_) AllReady.nil)
        | ((with_reducible change wpAny _ _ _ _ _ _ _ _); refine wpAny_ready (rs := [7]) (by decide +kernel) (by simp) ?_; refine AllReady.cons (o := ⟨some 16, _, _, _, _, _⟩) rfl (fun K hK => ?_) AllReady.nil)
        | ((with_reducible change wpAny _ _ _ _ _ _ _ _); refine wpAny_ready (rs := [8]) (by decide +kernel) (by simp) ?_; refine AllReady.cons (o := ⟨some 17, _, _, _, _, _⟩) rfl (fun K hK => ?_) AllReady.nil)
        | ((with_reducible change wpAny _ _ _ _ _ _ _ _); refine wpAny_done (by decide +kernel) ?_ _; go_wp2_with fail; go_meet; case rel => exact ⟨Ac, cc, rfl, ⟨by rw [HE3.out]; exact Hc.out⟩, HK2, HB2⟩)
        | fail)
    case rest =>
      obtain ⟨A3, c3, rfl, HBs, HK, HB⟩ := hcut
      clear HK2 HB2 HC0 HC1 HC2 HE3 b0 b1 b2
      go_wp2
      go_loopg [4, 5] 6 (fun gk v4 v5 wr => ∃ (k N c : Nat) (A : Option Addr), k + gk = 6 ∧ v5 = .int .i64 (k : Int) ∧ v4 = .slice A N c ∧ Kp (N = 7 + 4 * k) ∧ N ≤ 31 ∧ Kp (Bs wr wr.heap.size A N c (encK zs (3 + k))) ∧ Kp (Blk wr X 24 (cellsZ zs)) ∧ Kp (Below w.heap.size w wr))
      case atStart => exact ⟨0, 7, c3, A3, by omega, rfl, rfl, ⟨rfl⟩, by decide, HBs, HK, HB⟩
      case round =>
        obtain ⟨k, N, c, A, hk6, rfl, rfl, HN, hN31, HBr, HKr, HBl⟩ := hrel
        cases gk with
        | zero =>
          have hend : ¬ ((k : Int) < 6) := by omega
          obtain rfl : k = 6 := by omega
          obtain ⟨zi, hzi⟩ := ten_at HL.out 9 (by decide)
          have ci := (HKr.out.cell? 9).trans (cellsZ_at hzi)
          have HBdi : Kp _ := ⟨HBd.out 9 zi (by decide) hzi⟩
          have hst := encK_step zs 9 4 zi HL.out rfl hzi
          have HP : Kp _ := ⟨refput3_any A N c 4 _ zi wr HBr.out (by omega) HBdi.out.1 HBdi.out.2 (by decide)⟩
          rw [← hst] at HP
          have HN31 : Kp (N + 4 = 35) := ⟨by have := HN.out; omega⟩
          clear hzi hst
          go_wp2_with fail
          refine HP.out.mono ?_
          rintro e w5 ⟨v5, rfl, hown5, hb5⟩
          obtain ⟨A5, c5, rfl, hbs5⟩ := Bs.of_own hown5
          have HQ : Kp _ := ⟨refpad_any A5 (N + 4) c5 64 _ w5 hbs5 (by omega) (by decide)⟩
          have HB5 : Kp (Below w.heap.size w w5) := ⟨HBl.out.trans (hb5.mono HBl.out.size)⟩
          clear hown5 hbs5 hb5 HP ci
          go_wp2_with fail
          refine HQ.out.mono ?_
          rintro e w6 ⟨v6, rfl, hown6, hb6⟩
          rw [HPd.out] at hown6
          have hlen := encN_length zs HL.out
          rw [hlen] at hown6
          obtain ⟨A6, c6, rfl, hbs6⟩ := Bs.of_own hown6
          have HBs6 : Kp _ := ⟨hbs6⟩
          have HB6 : Kp (Below w.heap.size w w6) := ⟨HB5.out.trans (hb6.mono HB5.out.size)⟩
          clear hown6 hbs6 hb6 hlen HQ
          go_wp2
          refine ret_tt rfl rfl rfl rfl ?_
          exact ⟨A6, 64, c6, by rw [HE.out.1]; rfl, by rw [HE.out.2]; exact HBs6.out, HB6.out⟩
        | succ g2 =>
          have hgo : (k : Int) < 6 := by omega
          have hk : k < 6 := by omega
          obtain ⟨z, hz⟩ := ten_at HL.out (3 + k) (by omega)
          have cz := (HKr.out.cell? (3 + k)).trans (cellsZ_at hz)
          have HBdz : Kp _ := ⟨HBd.out (3 + k) z (by omega) hz⟩
          have hw4 : wideN[3 + k]? = some 4 := by
            have hc : k = 0 ∨ k = 1 ∨ k = 2 ∨ k = 3 ∨ k = 4 ∨ k = 5 := by omega
            rcases hc with rfl | rfl | rfl | rfl | rfl | rfl <;> rfl
          have hst := encK_step zs (3 + k) 4 z HL.out hw4 hz
          have HP : Kp _ := ⟨refput3_any A N c 4 _ z wr HBr.out (by omega) HBdz.out.1 HBdz.out.2 (by decide)⟩
          rw [← hst] at HP
          have HN4 : Kp (N + 4 = 7 + 4 * (k + 1) ∧ N + 4 ≤ 31) := ⟨by have := HN.out; omega⟩
          clear hz hst hw4
          go_wp2_with fail
          refine HP.out.mono ?_
          rintro e w5 ⟨v5, rfl, hown5, hb5⟩
          obtain ⟨A5, c5, rfl, hbs5⟩ := Bs.of_own hown5
          have HBs5 : Kp _ := ⟨hbs5⟩
          have HK5 : Kp _ := ⟨HKr.out.below hb5 HKr.out.lt⟩
          have HB5 : Kp (Below w.heap.size w w5) := ⟨HBl.out.trans (hb5.mono HBl.out.size)⟩
          clear hown5 hbs5 hb5 HP cz HBr HKr HBl
          go_wp2
          go_roundg g2
          case measure => omega
          case rel => exact ⟨k + 1, N + 4, c5, A5, by omega, by go_num, rfl, ⟨HN4.out.1⟩, HN4.out.2, HBs5, HK5, HB5⟩
end
end Go.Proofs.Ytmiobgongddaiaa
