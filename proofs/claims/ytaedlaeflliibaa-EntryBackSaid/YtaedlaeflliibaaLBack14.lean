/- The law EntryBack. -/
import Derived.Test.YtaedlaeflliibaaLWide14
import Derived.Test.YtaedlaeflliibaaCop
import Derived.Deep.CutRange
namespace Go.Proofs.Ytaedlaeflliibaa
open Go.RowKit Go.Deep

theorem cells8_put (b : List UInt8) (k : Nat) (z : UInt8) : (cells8 b).set k (.int .u8 (z.toNat : Int)) = cells8 (b.set k z) := by
  unfold cells8; rw [List.map_set]
set_option maxRecDepth 100000 in
set_option maxHeartbeats 8000000 in
theorem law_entryBack (A : Option Addr) (n c : Nat) (l : List En) (A1 : Option Addr) (n1 c1 : Nat) (b : List UInt8) (p1 p2 : Nat) (w : World) (ha : Ens w w.heap.size A n c l) (hb : Bs w w.heap.size A1 n1 c1 b) (hav : p1 < 65536) (hbv : p2 < 256) :
    Calls Try.prog 5 #[.slice A n c, .slice A1 n1 c1, .int .u16 (p1 : Int), .int .u8 (p2 : Int)] w fun e w' => e = .returned (.bool true) ∧ Below w.heap.size w w' := by
  have HI : Kp _ := ⟨ha⟩
  have HL : Kp _ := ⟨ha.len⟩
  have HBs : Kp _ := ⟨hb⟩
  clear ha hb
  go_enter Try.func5, Try.ntmps5
  go_wp2_with fail
  refine (reflong_any A n c l _ _ HI.out).mono ?_
  rintro e w2 ⟨⟨q, rfl⟩, hw'⟩
  subst hw'
  by_cases hq : 1500 < q
  · have hqd : decide (1500 < q) = true := decide_eq_true hq
    go_wp2_with fail
    refine (known14_any _).mono ?_
    rintro e w3 ⟨rfl, hb3⟩
    go_wp2
    go_ret
    exact ⟨rfl, hb3⟩
  have hqd : decide (1500 < q) = false := decide_eq_false hq
  by_cases hbig : 1500 < n1
  · have hbd : (1500 : Int) < (n1 : Int) := by omega
    go_wp2_with fail
    refine (known14_any _).mono ?_
    rintro e w3 ⟨rfl, hb3⟩
    go_wp2
    go_ret
    exact ⟨rfl, hb3⟩
  have hbd : ¬ (1500 : Int) < (n1 : Int) := by omega
  have HEn : Kp _ := ⟨encode_any A n c l w2 HI.out⟩
  go_wp2_with fail
  refine HEn.out.mono ?_
  rintro e w3 ⟨A3, n3, c3, rfl, h3, hb3⟩
  have HB3 : Kp _ := ⟨hb3⟩
  have HI3 : Kp _ := ⟨HI.out.next hb3 (Nat.le_refl _)⟩
  have HD : Kp _ := ⟨decode_any A3 n3 c3 _ w3 h3⟩
  have HN3 : Kp (rightE l = true → (n3 : Int) = 32 * (n : Int)) := ⟨fun hr => by
    have h1 := encL_len fun x hx => (okE_b ((right_all hr).2 x hx)).1
    have h2 := h3.len
    unfold encR at h2
    rw [hr, if_pos rfl, h1, HL.out] at h2
    omega⟩
  have HN4 : Kp (n3 ≤ 17920) := ⟨by
    have h2 := h3.len
    unfold encR at h2
    cases hr : rightE l with
    | false => rw [hr] at h2; simp at h2; omega
    | true =>
      have h1 := encL_len fun x hx => (okE_b ((right_all hr).2 x hx)).1
      have h5 := (right_all hr).1
      rw [hr, if_pos rfl, h1] at h2
      omega⟩
  clear h3 hb3 HEn
  go_wp2_with fail
  refine HD.out.mono ?_
  rintro e w4 ⟨A4, n4, c4, rfl, h4, hb4⟩
  have HB4 : Kp (Below w2.heap.size w2 w4) := ⟨HB3.out.trans (hb4.mono HB3.out.size)⟩
  have HI4 : Kp _ := ⟨HI3.out.next hb4 (Nat.le_refl _)⟩
  have HM4' : Kp _ := ⟨h4⟩
  clear h4 hb4 HD HI3 HB3
  have HEc : Kp (rightE l = false → encC l = 2) := ⟨fun hr => by unfold encC; rw [hr]; rfl⟩
  have HEt : Kp (rightE l = true → encC l = 0 ∧ decC (encR l) = 0 ∧ decR (encR l) = l) := ⟨fun hr => by
    have h1 := dec_enc hr
    unfold encC encR; rw [hr]; exact ⟨rfl, h1⟩⟩
  obtain ⟨ec, hec⟩ : ∃ x, x = encC l := ⟨_, rfl⟩
  obtain ⟨dc, hdc⟩ : ∃ x, x = decC (encR l) := ⟨_, rfl⟩
  rw [← hec, ← hdc] at HEt ⊢
  rw [← hec] at HEc
  clear hec hdc
  go_upto_region 5 with fail
  go_cut [58] from 39 to 57 (fun v58 wx => v58 = .bool false ∧ Kp (Below w2.heap.size w2 wx))
  case first =>
    cases hr : rightE l with
    | false =>
      have hd1 : ¬ ec = 0 := by rw [HEc.out hr]; decide
      have hd1' : (ec == 0) = false := by rw [HEc.out hr]; rfl
      clear HN3 HI4 HM4' HEt HEc
      go_wp2_with fail
      go_meet
      case rel => exact ⟨rfl, HB4⟩
    | true =>
      have hd1 : (ec == 0) = true := by rw [(HEt.out hr).1]; rfl
      have hd2 : (dc != 0) = false := by rw [(HEt.out hr).2.1]; rfl
      have hd3 : ((n3 : Int) != 32 * (n : Int)) = false := by rw [HN3.out hr]; simp
      have hd2' : (dc == 0) = true := by rw [(HEt.out hr).2.1]; rfl
      have hd3' : ((n3 : Int) == 32 * (n : Int)) = true := by rw [HN3.out hr]; simp
      have h4 := HM4'.out
      rw [(HEt.out hr).2.2] at h4
      have HM4 : Kp _ := ⟨h4⟩
      have hn560 : n ≤ 560 := by rw [← HL.out]; exact (right_all hr).1
      clear h4 HN3 HM4' HEt HEc
      go_wp2_with fail
      refine (same_yes _ _ _ _ _ _ _ w4 HI4.out HM4.out).mono ?_
      rintro e w5 ⟨rfl, hb5⟩
      have HB5 : Kp (Below w2.heap.size w2 w5) := ⟨HB4.out.trans (hb5.mono HB4.out.size)⟩
      clear hb5 HM4 HI4
      go_wp2_with fail
      go_meet
      case rel => exact ⟨rfl, HB5⟩
  case rest =>
    obtain ⟨rfl, HB⟩ := hcut
    have HBc : Kp _ := ⟨HBs.out.next HB.out (Nat.le_refl _)⟩
    clear HBs
    go_upto_if 61 with fail
    go_cut [1, 13, 14] from 20 to 80 (fun v1 v13 v14 wx => ∃ A' c' b', v1 = .slice A' n1 c' ∧ Kp (Bs wx wx.heap.size A' n1 c' b') ∧ Kp (Below w2.heap.size w2 wx))
    case first =>
      by_cases h0 : n1 = 0
      · have hz : ¬ (0 : Int) < (n1 : Int) := by omega
        clear h0
        go_wp2_with fail
        go_meet
        case rel => exact ⟨_, _, _, rfl, HBc, HB⟩
      · have hz : (0 : Int) < (n1 : Int) := by omega
        have hn0 : ((n1 : Int) == 0) = false := by simp; omega
        have hnne : ¬ (n1 : Int) = 0 := by omega
        obtain ⟨kx, hkx⟩ : ∃ kx, kx = p1 % n1 := ⟨_, rfl⟩
        obtain ⟨mx, hmx⟩ : ∃ mx, mx = p2 % 8 := ⟨_, rfl⟩
        have hKb : kx < n1 := by rw [hkx]; exact Nat.mod_lt _ (by omega)
        have k1 : ((p1 : Int)).tmod (n1 : Int) = (kx : Int) := by rw [Int.tmod_eq_emod_of_nonneg (by omega), hkx]; omega
        have k1' : (p1 : Int) % (n1 : Int) = (kx : Int) := by rw [hkx]; omega
        have k2 : ((p2 : Int)).tmod 8 = (mx : Int) := by rw [Int.tmod_eq_emod_of_nonneg (by omega), hmx]; omega
        have k2' : (p2 : Int) % 8 = (mx : Int) := by rw [hmx]; omega
        have hm8 : mx < 8 := by rw [hmx]; omega
        have wp1 : IntKind.i64.wrap (p1 : Int) = (p1 : Int) := by rw [IntKind.wrap_i64]; omega
        have wK : IntKind.i64.wrap (kx : Int) = (kx : Int) := by rw [IntKind.wrap_i64]; omega
        have HCo : Kp _ := ⟨cop_any A1 n1 c1 b wc HBc.out (by omega)⟩
        clear hkx hmx
        go_wp2_with fail
        refine HCo.out.mono ?_
        rintro e w7 ⟨v7, rfl, hown7, hb7⟩
        rcases hown7.2 with ⟨rfl, hx0⟩ | ⟨g, cap, cur, rfl, hg, hh, hnc, hcm, hcs, htk⟩
        · omega
        have hbl : b.length = n1 := HBc.out.len
        obtain ⟨T, hT⟩ : ∃ T, cur.toList = cells8 b ++ T := ⟨cur.toList.drop n1, by rw [← htk]; simp⟩
        have HK : Kp (Blk w7 g 5 (cells8 b ++ T)) := ⟨⟨by rw [← hT]; simpa using hh⟩⟩
        have HG : Kp (w2.heap.size ≤ g) := ⟨Nat.le_trans HB.out.size hg⟩
        have HB7 : Kp (Below w2.heap.size w2 w7) := ⟨HB.out.trans (hb7.mono HB.out.size)⟩
        have HBl : Kp (b.length = n1) := ⟨hbl⟩
        obtain ⟨y, hy⟩ : ∃ y, y = b[kx]'(by omega) := ⟨_, rfl⟩
        have hcell : w7.cell? ⟨g, kx, none⟩ = some (.int .u8 (y.toNat : Int)) := by
          rw [HK.out.cell? kx, List.getElem?_append_left (by rw [cells8_length]; omega), cells8_at _ _ (by omega), ← hy]
        have hfro := HK.out.frozen kx
        have HC : Kp (n1 ≤ cap ∧ cap ≤ maxLen) := ⟨hnc, hcm⟩
        clear hown7 hh htk hcs hT hg hb7 hnc hcm hbl hy HCo
        go_wp2_with fail
        obtain ⟨r, hr, hr8⟩ : ∃ r : Nat, (2 : Int) ^ mx % 256 = (r : Int) ∧ r < 256 := ⟨2 ^ mx % 256, by push_cast; rfl, Nat.mod_lt _ (by decide)⟩
        obtain ⟨z, hz2⟩ : ∃ z : UInt8, bits .xor .u8 (y.toNat : Int) ((2 : Int) ^ mx % 256) = (z.toNat : Int) := ⟨UInt8.ofNat (y.toNat ^^^ r), by
          have h1 : y.toNat ^^^ r < 2 ^ 8 := Nat.xor_lt_two_pow (UInt8.toNat_lt _) hr8
          rw [hr, u8_xor_nat _ _ (UInt8.toNat_lt _) hr8, ofNat_toNat, Nat.mod_eq_of_lt h1]⟩
        rw [hz2]
        have hk := HK.out.set kx (.int .u8 (z.toNat : Int))
        rw [List.set_append_left _ _ (by rw [cells8_length, HBl.out]; exact hKb), cells8_put] at hk
        have HZ : Kp _ := ⟨hk.bytes (l := b.set kx z) (o := 0) (n := n1) hk.lt (by rw [List.drop_zero, List.take_append_of_le_length (by rw [cells8_length, List.length_set, HBl.out]; exact Nat.le_refl _), List.take_of_length_le (by rw [cells8_length, List.length_set, HBl.out]; exact Nat.le_refl _)]) (by rw [List.length_set, HBl.out]) cap HC.out.1 HC.out.2⟩
        have HZb : Kp _ := ⟨HB7.out.setCell (p := ⟨g, kx, none⟩) HG.out (.int .u8 (z.toNat : Int))⟩
        clear hr hr8 hz2 hk
        go_meet
        case rel => exact ⟨_, _, _, rfl, HZ, HZb⟩
    case rest =>
      obtain ⟨A5, c5, b5, rfl, HB5, HBx⟩ := hcut
      clear HB HBc HB4 HI4 HM4' HN3 HN4 HEc HEt HI
      have HD : Kp _ := ⟨decode_any A5 n1 c5 b5 wc HB5.out⟩
      cases hd : decOk b5 with
      | false =>
        have HC : Kp (decC b5 = 4 ∧ decR b5 = []) := ⟨by unfold decC decR; rw [hd]; exact ⟨rfl, rfl⟩⟩
        rw [HC.out.1, HC.out.2] at HD
        clear hd
        go_wp2_with fail
        refine HD.out.mono ?_
        rintro e w8 ⟨A8, n8, c8, rfl, h8, hb8⟩
        obtain rfl : n8 = 0 := by have := h8.len; simpa using this.symm
        have HB8 : Kp (Below w2.heap.size w2 w8) := ⟨HBx.out.trans (hb8.mono HBx.out.size)⟩
        clear h8 hb8 HD
        go_wp2_with fail
        refine (known14_any _).mono ?_
        rintro e w9 ⟨rfl, hb9⟩
        have HB9 : Kp (Below w2.heap.size w2 w9) := ⟨HB8.out.trans (hb9.mono HB8.out.size)⟩
        clear hb9 HB8
        go_wp2
        go_ret
        exact ⟨rfl, HB9.out⟩
      | true =>
        have hc : decC b5 = 0 := by unfold decC; rw [hd]; rfl
        have hbk := dec_back hc
        rw [hc] at HD
        obtain ⟨D, hD⟩ : ∃ D, D = decR b5 := ⟨_, rfl⟩
        rw [← hD] at hbk HD
        have HR : Kp (rightE D = true) := ⟨hbk.1⟩
        have HEn : Kp (encC D = 0 ∧ encR D = b5) := ⟨by unfold encC encR; rw [hbk.1]; exact ⟨rfl, hbk.2⟩⟩
        clear hd hc hbk hD
        go_wp2_with fail
        refine HD.out.mono ?_
        rintro e w8 ⟨A8, n8, c8, rfl, h8, hb8⟩
        have HE8 : Kp _ := ⟨encode_any A8 n8 c8 D w8 h8⟩
        rw [HEn.out.1, HEn.out.2] at HE8
        have H8 : Kp _ := ⟨h8⟩
        have HL8 : Kp (D.length = n8) := ⟨h8.len⟩
        have HB8 : Kp (Below w2.heap.size w2 w8) := ⟨HBx.out.trans (hb8.mono HBx.out.size)⟩
        have HB5b : Kp _ := ⟨HB5.out.next hb8 (Nat.le_refl _)⟩
        clear h8 hb8 HD HB5
        go_wp2_with fail
        refine HE8.out.mono ?_
        rintro e w9 ⟨A9, n9, c9, rfl, h9, hb9⟩
        have H9 : Kp _ := ⟨h9⟩
        have H89 : Kp _ := ⟨H8.out.next hb9 (Nat.le_refl _)⟩
        have HB9 : Kp (Below w2.heap.size w2 w9) := ⟨HB8.out.trans (hb9.mono HB8.out.size)⟩
        have HB59 : Kp _ := ⟨HB5b.out.next hb9 (Nat.le_refl _)⟩
        have h560 : n8 ≤ 560 := by rw [← HL8.out]; exact (right_all HR.out).1
        have HSm : Kp (∀ W, Bs W w9.heap.size A9 n9 c9 b5 → Bs W w9.heap.size A5 n1 c5 b5 → Calls Try.prog 17 #[.slice A9 n9 c9, .slice A5 n1 c5] W fun e w' => e = .returned (.bool true) ∧ Below W.heap.size W w') := ⟨fun W h k => (same_any A9 A5 n9 c9 n1 c5 b5 b5 W _ _ h k).mono fun e w' hh => ⟨by rw [hh.1]; simp, by rw [← hh.2]; exact Below.refl _ _⟩⟩
        clear h9 hb9 HE8 H8 HB8 HB5b
        go_wp2_with fail
        go_loopg [19] n8 (fun gk v19 wr => ∃ k : Nat, k + gk = n8 ∧ v19 = .int .i64 k ∧ Kp (Below w9.heap.size w9 wr))
        case atStart => exact ⟨0, by omega, rfl, ⟨Below.refl _ _⟩⟩
        case round =>
          obtain ⟨k, hkg, rfl, HW⟩ := hrel
          cases gk with
          | zero =>
            have hend : ¬ ((k : Int) < (n8 : Int)) := by omega
            have HSr : Kp _ := ⟨HSm.out wr (H9.out.below HW.out) (HB59.out.below HW.out)⟩
            have HBr : Kp (Below w2.heap.size w2 wr) := ⟨HB9.out.trans (HW.out.mono HB9.out.size)⟩
            go_wp2_with fail
            refine HSr.out.mono ?_
            rintro e w10 ⟨rfl, hb10⟩
            have HB10 : Kp (Below w2.heap.size w2 w10) := ⟨HBr.out.trans (hb10.mono HBr.out.size)⟩
            clear hb10 HSr
            go_wp2_with fail
            refine (known14_any _).mono ?_
            rintro e w11 ⟨rfl, hb11⟩
            have HB11 : Kp (Below w2.heap.size w2 w11) := ⟨HB10.out.trans (hb11.mono HB10.out.size)⟩
            clear hb11 HB10
            go_wp2
            go_ret
            exact ⟨rfl, HB11.out⟩
          | succ g2 =>
            have hlt : k < n8 := by omega
            have hgo : (k : Int) < (n8 : Int) := by omega
            have hkl : k < D.length := by rw [HL8.out]; exact hlt
            have hbkk : (0 : Int) ≤ (k : Int) ∧ (k : Int) < (n8 : Int) := by omega
            obtain ⟨bb, oo, rfl, hbb, hc0, _⟩ := (H89.out.below HW.out).at hlt
            have hok := (right_all HR.out).2 _ (List.getElem_mem hkl)
            obtain ⟨x, hx⟩ : ∃ x, x = D[k].1 := ⟨_, rfl⟩
            have HNm : Kp (∀ W, Calls Try.prog 25 #[.string ⟨x.toArray⟩] W fun e w' => e = .returned (.bool true) ∧ Below W.heap.size W w') := ⟨fun W => by
              have h := named_any x W (by rw [hx]; have := (okE_b hok).1; omega)
              have e : okNm x = true := by
                rw [hx]; unfold okE at hok
                simp only [Bool.and_eq_true] at hok
                exact hok.1.1
              rwa [e] at h⟩
            rw [← hx] at hc0
            have HC0 : Kp (∀ W, Below wr.heap.size wr W → W.cell? ⟨bb, oo + k * 2, none⟩ = some (.string ⟨x.toArray⟩)) := ⟨fun W hW => (hW.cell (p := ⟨bb, _, none⟩) (by have := HW.out.size; exact Nat.lt_of_lt_of_le hbb this)).trans hc0⟩
            clear hc0 hok
            by_cases hk0 : k = 0
            · subst hk0
              have HC1 : Kp (∀ W, Below wr.heap.size wr W → W.cell? ⟨bb, oo, none⟩ = some (.string ⟨x.toArray⟩)) := ⟨fun W hW => by have h := HC0.out W hW; rwa [show oo + 0 * 2 = oo by omega] at h⟩
              clear hx HC0 hkl
              go_upto_region 19 with fail
              refine wp_region_held_drew (S := fun WW => Below wr.heap.size wr WW) (by kernel_rfl) ((Below.refl _ _).drew) (fun hHeld => ?_)
              generalize wr.drew = wS at *
              refine wpAnyH_take (i := 0) (oi := ⟨some 105, _, _, _, _, _⟩) (v := ?_) rfl (by kernel_rfl) (by kernel_rfl) (by kernel_rfl) (fun _ _ _ h => h) (Or.inl ⟨by rfl, by intro w hSw; go_simp; try rfl⟩) (by assumption) ?_
              try simp only [Act.put, List.setIfInBounds_toArray, List.set_cons_zero, List.set_cons_succ]
              refine wpAnyH_take (i := 1) (oi := ⟨some 106, _, _, _, _, _⟩) (v := ?_) rfl (by kernel_rfl) (by kernel_rfl) (by kernel_rfl) (fun _ _ _ h => h) (Or.inl ⟨by rfl, by intro w hSw; go_simp; try rfl⟩) (by assumption) ?_
              try simp only [Act.put, List.setIfInBounds_toArray, List.set_cons_zero, List.set_cons_succ]
              refine wpAnyH_take (i := 2) (oi := ⟨some 107, _, _, _, _, _⟩) (v := ?_) rfl (by kernel_rfl) (by kernel_rfl) (by kernel_rfl) (fun _ _ _ h => h) (Or.inl ⟨by rfl, by intro w hSw; go_simp; try rfl⟩) (by assumption) ?_
              try simp only [Act.put, List.setIfInBounds_toArray, List.set_cons_zero, List.set_cons_succ]
              refine wpAnyH_take (i := 3) (oi := ⟨some 108, _, _, _, _, _⟩) (v := ?_) rfl (by kernel_rfl) (by kernel_rfl) (by kernel_rfl) (fun _ _ _ h => h) (Or.inl ⟨by rfl, by intro w hSw; go_simp; try rfl⟩) (by assumption) ?_
              try simp only [Act.put, List.setIfInBounds_toArray, List.set_cons_zero, List.set_cons_succ]
              refine wpAnyH_take (i := 4) (oi := ⟨some 109, _, _, _, _, _⟩) (v := _) rfl (by kernel_rfl) (by kernel_rfl) (by kernel_rfl) (fun _ _ _ h => h) (yieldsIf_str rfl _ rfl rfl ⟨x.toArray⟩ (fun W h => HC1.out W h)) (by assumption) ?_
              try simp only [Act.put, List.setIfInBounds_toArray, List.set_cons_zero, List.set_cons_succ]
              refine wpAnyH_ready (rs := [5]) (by kernel_rfl) (by simp) ?_
              refine AllReadyH.cons (o := ⟨some 110, _, _, _, _, _⟩) rfl (fun K hK => ?_) AllReadyH.nil
              go_simp
              refine (HNm.out wS).mono ?_
              rintro e w101 ⟨rfl, hb'⟩
              refine hK.out _ _ (hHeld.trans (hb'.mono hHeld.size)) (fun hHeld2 => ?_)
              clear hb'
              clear hK K hHeld
              have hHeld := hHeld2
              clear hHeld2
              try simp only [Act.put, List.setIfInBounds_toArray, List.set_cons_zero, List.set_cons_succ]
              refine wpAnyH_take (i := 6) (oi := ⟨some 111, _, _, _, _, _⟩) (v := ?_) rfl (by kernel_rfl) (by kernel_rfl) (by kernel_rfl) (fun _ _ _ h => h) (Or.inl ⟨by rfl, by intro w hSw; go_simp; try rfl⟩) (by assumption) ?_
              try simp only [Act.put, List.setIfInBounds_toArray, List.set_cons_zero, List.set_cons_succ]
              refine wpAnyH_take (i := 7) (oi := ⟨some 112, _, _, _, _, _⟩) (v := ?_) rfl (by kernel_rfl) (by kernel_rfl) (by kernel_rfl) (fun _ _ _ h => h) (Or.inl ⟨by rfl, by intro w hSw; go_simp; try rfl⟩) (by assumption) ?_
              try simp only [Act.put, List.setIfInBounds_toArray, List.set_cons_zero, List.set_cons_succ]
              refine wpAnyH_take (i := 8) (oi := ⟨some 113, _, _, _, _, _⟩) (v := ?_) rfl (by kernel_rfl) (by kernel_rfl) (by kernel_rfl) (fun _ _ _ h => h) (Or.inl ⟨by rfl, by intro w hSw; go_simp; try rfl⟩) (by assumption) ?_
              try simp only [Act.put, List.setIfInBounds_toArray, List.set_cons_zero, List.set_cons_succ]
              refine wpAnyH_take (i := 9) (oi := ⟨some 114, _, _, _, _, _⟩) (v := ?_) rfl (by kernel_rfl) (by kernel_rfl) (by kernel_rfl) (fun _ _ _ h => h) (Or.inl ⟨by rfl, by intro w hSw; go_simp; try rfl⟩) (by assumption) ?_
              try simp only [Act.put, List.setIfInBounds_toArray, List.set_cons_zero, List.set_cons_succ]
              refine wpAnyH_take (i := 10) (oi := ⟨some 115, _, _, _, _, _⟩) (v := ?_) rfl (by kernel_rfl) (by kernel_rfl) (by kernel_rfl) (fun _ _ _ h => h) (Or.inl ⟨by rfl, by intro w hSw; go_simp; try rfl⟩) (by assumption) ?_
              try simp only [Act.put, List.setIfInBounds_toArray, List.set_cons_zero, List.set_cons_succ]
              refine wpAnyH_take (i := 11) (oi := ⟨some 116, _, _, _, _, _⟩) (v := undef) rfl (by kernel_rfl) (by kernel_rfl) (by kernel_rfl) (fun _ _ _ h => h) (Or.inr ⟨by rfl, rfl⟩) (by assumption) ?_
              try simp only [Act.put, List.setIfInBounds_toArray, List.set_cons_zero, List.set_cons_succ]
              refine wpAnyH_take (i := 12) (oi := ⟨some 117, _, _, _, _, _⟩) (v := undef) rfl (by kernel_rfl) (by kernel_rfl) (by kernel_rfl) (fun _ _ _ h => h) (Or.inr ⟨by rfl, rfl⟩) (by assumption) ?_
              try simp only [Act.put, List.setIfInBounds_toArray, List.set_cons_zero, List.set_cons_succ]
              refine wpAnyH_take (i := 13) (oi := ⟨some 118, _, _, _, _, _⟩) (v := undef) rfl (by kernel_rfl) (by kernel_rfl) (by kernel_rfl) (fun _ _ _ h => h) (Or.inr ⟨by rfl, rfl⟩) (by assumption) ?_
              try simp only [Act.put, List.setIfInBounds_toArray, List.set_cons_zero, List.set_cons_succ]
              refine wpAnyH_take (i := 14) (oi := ⟨some 119, _, _, _, _, _⟩) (v := undef) rfl (by kernel_rfl) (by kernel_rfl) (by kernel_rfl) (fun _ _ _ h => h) (Or.inr ⟨by rfl, rfl⟩) (by assumption) ?_
              try simp only [Act.put, List.setIfInBounds_toArray, List.set_cons_zero, List.set_cons_succ]
              refine wpAnyH_take (i := 15) (oi := ⟨some 120, _, _, _, _, _⟩) (v := undef) rfl (by kernel_rfl) (by kernel_rfl) (by kernel_rfl) (fun _ _ _ h => h) (Or.inr ⟨by rfl, rfl⟩) (by assumption) ?_
              try simp only [Act.put, List.setIfInBounds_toArray, List.set_cons_zero, List.set_cons_succ]
              refine wpAnyH_take (i := 16) (oi := ⟨some 121, _, _, _, _, _⟩) (v := undef) rfl (by kernel_rfl) (by kernel_rfl) (by kernel_rfl) (fun _ _ _ h => h) (Or.inr ⟨by rfl, rfl⟩) (by assumption) ?_
              try simp only [Act.put, List.setIfInBounds_toArray, List.set_cons_zero, List.set_cons_succ]
              refine wpAnyH_take (i := 17) (oi := ⟨some 122, _, _, _, _, _⟩) (v := undef) rfl (by kernel_rfl) (by kernel_rfl) (by kernel_rfl) (fun _ _ _ h => h) (Or.inr ⟨by rfl, rfl⟩) (by assumption) ?_
              try simp only [Act.put, List.setIfInBounds_toArray, List.set_cons_zero, List.set_cons_succ]
              refine wpAnyH_take (i := 18) (oi := ⟨some 123, _, _, _, _, _⟩) (v := undef) rfl (by kernel_rfl) (by kernel_rfl) (by kernel_rfl) (fun _ _ _ h => h) (Or.inr ⟨by rfl, rfl⟩) (by assumption) ?_
              try simp only [Act.put, List.setIfInBounds_toArray, List.set_cons_zero, List.set_cons_succ]
              refine wpAnyH_take (i := 19) (oi := ⟨some 124, _, _, _, _, _⟩) (v := undef) rfl (by kernel_rfl) (by kernel_rfl) (by kernel_rfl) (fun _ _ _ h => h) (Or.inr ⟨by rfl, rfl⟩) (by assumption) ?_
              try simp only [Act.put, List.setIfInBounds_toArray, List.set_cons_zero, List.set_cons_succ]
              refine wpAnyH_take (i := 20) (oi := ⟨some 125, _, _, _, _, _⟩) (v := undef) rfl (by kernel_rfl) (by kernel_rfl) (by kernel_rfl) (fun _ _ _ h => h) (Or.inr ⟨by rfl, rfl⟩) (by assumption) ?_
              try simp only [Act.put, List.setIfInBounds_toArray, List.set_cons_zero, List.set_cons_succ]
              refine wpAnyH_take (i := 21) (oi := ⟨some 126, _, _, _, _, _⟩) (v := undef) rfl (by kernel_rfl) (by kernel_rfl) (by kernel_rfl) (fun _ _ _ h => h) (Or.inr ⟨by rfl, rfl⟩) (by assumption) ?_
              try simp only [Act.put, List.setIfInBounds_toArray, List.set_cons_zero, List.set_cons_succ]
              refine wpAnyH_take (i := 22) (oi := ⟨some 127, _, _, _, _, _⟩) (v := undef) rfl (by kernel_rfl) (by kernel_rfl) (by kernel_rfl) (fun _ _ _ h => h) (Or.inr ⟨by rfl, rfl⟩) (by assumption) ?_
              try simp only [Act.put, List.setIfInBounds_toArray, List.set_cons_zero, List.set_cons_succ]
              refine wpAnyH_take (i := 23) (oi := ⟨some 128, _, _, _, _, _⟩) (v := ?_) rfl (by kernel_rfl) (by kernel_rfl) (by kernel_rfl) (fun _ _ _ h => h) (Or.inl ⟨by rfl, by intro w hSw; go_simp; try rfl⟩) (by assumption) ?_
              try simp only [Act.put, List.setIfInBounds_toArray, List.set_cons_zero, List.set_cons_succ]
              refine wpAnyH_take (i := 24) (oi := ⟨some 129, _, _, _, _, _⟩) (v := ?_) rfl (by kernel_rfl) (by kernel_rfl) (by kernel_rfl) (fun _ _ _ h => h) (Or.inl ⟨by rfl, by intro w hSw; go_simp; try rfl⟩) (by assumption) ?_
              try simp only [Act.put, List.setIfInBounds_toArray, List.set_cons_zero, List.set_cons_succ]
              refine wpAnyH_done (by kernel_rfl) ?_ _
              go_wp2
              go_roundg g2
              case measure => omega
              case rel => exact ⟨0 + 1, by omega, by go_num, ⟨HW.out.trans (hHeld.mono HW.out.size)⟩⟩
            · obtain ⟨p, rfl⟩ : ∃ p, k = p + 1 := ⟨k - 1, by omega⟩
              obtain ⟨b2, o2, e2, _, hc2, _⟩ := (H89.out.below HW.out).at (i := p) (by omega)
              cases e2
              have hup : D[p].1 < D[p + 1].1 := by
                have h := HR.out; unfold rightE at h
                simp only [Bool.and_eq_true] at h
                exact ((riseL_up _).1 h.1.2).at (by omega) hkl
              obtain ⟨y, hy⟩ : ∃ y, y = D[p].1 := ⟨_, rfl⟩
              rw [← hx, ← hy] at hup
              rw [← hy] at hc2
              have hls : (Op.bytesLess x y || x == y) = false := by rw [leq_str, decide_eq_true hup]; rfl
              have HC2 : Kp (∀ W, Below wr.heap.size wr W → W.cell? ⟨bb, oo + p * 2, none⟩ = some (.string ⟨y.toArray⟩)) := ⟨fun W hW => (hW.cell (p := ⟨bb, _, none⟩) (by have := HW.out.size; exact Nat.lt_of_lt_of_le hbb this)).trans hc2⟩
              obtain ⟨kk, hkk⟩ : ∃ kk : Nat, kk = p + 1 := ⟨_, rfl⟩
              have r1 : IntKind.i64.wrap ((kk : Int) - 1) = (p : Int) := by rw [IntKind.wrap_i64]; omega
              have r2 : 0 < kk := by omega
              have r3 : (0 : Int) ≤ (p : Int) ∧ (p : Int) < (n8 : Int) := by omega
              clear hx hy hc2 hup hkl hk0
              rw [← hkk] at HC0 hbkk hgo hlt hkg ⊢
              have HKK : Kp (kk = p + 1) := ⟨hkk⟩
              clear hkk
              go_upto_region 19 with fail
              refine wp_region_held_drew (S := fun WW => Below wr.heap.size wr WW) (by kernel_rfl) ((Below.refl _ _).drew) (fun hHeld => ?_)
              generalize wr.drew = wS at *
              refine wpAnyH_take (i := 0) (oi := ⟨some 105, _, _, _, _, _⟩) (v := ?_) rfl (by kernel_rfl) (by kernel_rfl) (by kernel_rfl) (fun _ _ _ h => h) (Or.inl ⟨by rfl, by intro w hSw; go_simp; try rfl⟩) (by assumption) ?_
              try simp only [Act.put, List.setIfInBounds_toArray, List.set_cons_zero, List.set_cons_succ]
              refine wpAnyH_take (i := 1) (oi := ⟨some 106, _, _, _, _, _⟩) (v := ?_) rfl (by kernel_rfl) (by kernel_rfl) (by kernel_rfl) (fun _ _ _ h => h) (Or.inl ⟨by rfl, by intro w hSw; go_simp; try rfl⟩) (by assumption) ?_
              try simp only [Act.put, List.setIfInBounds_toArray, List.set_cons_zero, List.set_cons_succ]
              refine wpAnyH_take (i := 2) (oi := ⟨some 107, _, _, _, _, _⟩) (v := ?_) rfl (by kernel_rfl) (by kernel_rfl) (by kernel_rfl) (fun _ _ _ h => h) (Or.inl ⟨by rfl, by intro w hSw; go_simp; try rfl⟩) (by assumption) ?_
              try simp only [Act.put, List.setIfInBounds_toArray, List.set_cons_zero, List.set_cons_succ]
              refine wpAnyH_take (i := 3) (oi := ⟨some 108, _, _, _, _, _⟩) (v := ?_) rfl (by kernel_rfl) (by kernel_rfl) (by kernel_rfl) (fun _ _ _ h => h) (Or.inl ⟨by rfl, by intro w hSw; go_simp; try rfl⟩) (by assumption) ?_
              try simp only [Act.put, List.setIfInBounds_toArray, List.set_cons_zero, List.set_cons_succ]
              refine wpAnyH_take (i := 4) (oi := ⟨some 109, _, _, _, _, _⟩) (v := _) rfl (by kernel_rfl) (by kernel_rfl) (by kernel_rfl) (fun _ _ _ h => h) (yieldsIf_str rfl _ rfl rfl ⟨x.toArray⟩ (fun W h => HC0.out W h)) (by assumption) ?_
              try simp only [Act.put, List.setIfInBounds_toArray, List.set_cons_zero, List.set_cons_succ]
              refine wpAnyH_ready (rs := [5]) (by kernel_rfl) (by simp) ?_
              refine AllReadyH.cons (o := ⟨some 110, _, _, _, _, _⟩) rfl (fun K hK => ?_) AllReadyH.nil
              go_simp
              refine (HNm.out wS).mono ?_
              rintro e w101 ⟨rfl, hb'⟩
              refine hK.out _ _ (hHeld.trans (hb'.mono hHeld.size)) (fun hHeld2 => ?_)
              clear hb'
              clear hK K hHeld
              have hHeld := hHeld2
              clear hHeld2
              try simp only [Act.put, List.setIfInBounds_toArray, List.set_cons_zero, List.set_cons_succ]
              refine wpAnyH_take (i := 6) (oi := ⟨some 111, _, _, _, _, _⟩) (v := ?_) rfl (by kernel_rfl) (by kernel_rfl) (by kernel_rfl) (fun _ _ _ h => h) (Or.inl ⟨by rfl, by intro w hSw; go_simp; try rfl⟩) (by assumption) ?_
              try simp only [Act.put, List.setIfInBounds_toArray, List.set_cons_zero, List.set_cons_succ]
              refine wpAnyH_take (i := 7) (oi := ⟨some 112, _, _, _, _, _⟩) (v := ?_) rfl (by kernel_rfl) (by kernel_rfl) (by kernel_rfl) (fun _ _ _ h => h) (Or.inl ⟨by rfl, by intro w hSw; go_simp; try rfl⟩) (by assumption) ?_
              try simp only [Act.put, List.setIfInBounds_toArray, List.set_cons_zero, List.set_cons_succ]
              refine wpAnyH_take (i := 8) (oi := ⟨some 113, _, _, _, _, _⟩) (v := ?_) rfl (by kernel_rfl) (by kernel_rfl) (by kernel_rfl) (fun _ _ _ h => h) (Or.inl ⟨by rfl, by intro w hSw; go_simp; try rfl⟩) (by assumption) ?_
              try simp only [Act.put, List.setIfInBounds_toArray, List.set_cons_zero, List.set_cons_succ]
              refine wpAnyH_take (i := 9) (oi := ⟨some 114, _, _, _, _, _⟩) (v := ?_) rfl (by kernel_rfl) (by kernel_rfl) (by kernel_rfl) (fun _ _ _ h => h) (Or.inl ⟨by rfl, by intro w hSw; go_simp; try rfl⟩) (by assumption) ?_
              try simp only [Act.put, List.setIfInBounds_toArray, List.set_cons_zero, List.set_cons_succ]
              refine wpAnyH_take (i := 10) (oi := ⟨some 115, _, _, _, _, _⟩) (v := ?_) rfl (by kernel_rfl) (by kernel_rfl) (by kernel_rfl) (fun _ _ _ h => h) (Or.inl ⟨by rfl, by intro w hSw; go_simp; try rfl⟩) (by assumption) ?_
              try simp only [Act.put, List.setIfInBounds_toArray, List.set_cons_zero, List.set_cons_succ]
              refine wpAnyH_take (i := 11) (oi := ⟨some 116, _, _, _, _, _⟩) (v := ?_) rfl (by kernel_rfl) (by kernel_rfl) (by kernel_rfl) (fun _ _ _ h => h) (Or.inl ⟨by rfl, by intro w hSw; go_simp; try rfl⟩) (by assumption) ?_
              try simp only [Act.put, List.setIfInBounds_toArray, List.set_cons_zero, List.set_cons_succ]
              refine wpAnyH_take (i := 12) (oi := ⟨some 117, _, _, _, _, _⟩) (v := ?_) rfl (by kernel_rfl) (by kernel_rfl) (by kernel_rfl) (fun _ _ _ h => h) (Or.inl ⟨by rfl, by intro w hSw; go_simp; try rfl⟩) (by assumption) ?_
              try simp only [Act.put, List.setIfInBounds_toArray, List.set_cons_zero, List.set_cons_succ]
              refine wpAnyH_take (i := 13) (oi := ⟨some 118, _, _, _, _, _⟩) (v := ?_) rfl (by kernel_rfl) (by kernel_rfl) (by kernel_rfl) (fun _ _ _ h => h) (Or.inl ⟨by rfl, by intro w hSw; go_simp; try rfl⟩) (by assumption) ?_
              try simp only [Act.put, List.setIfInBounds_toArray, List.set_cons_zero, List.set_cons_succ]
              refine wpAnyH_take (i := 14) (oi := ⟨some 119, _, _, _, _, _⟩) (v := ?_) rfl (by kernel_rfl) (by kernel_rfl) (by kernel_rfl) (fun _ _ _ h => h) (Or.inl ⟨by rfl, by intro w hSw; go_simp; try rfl⟩) (by assumption) ?_
              try simp only [Act.put, List.setIfInBounds_toArray, List.set_cons_zero, List.set_cons_succ]
              refine wpAnyH_take (i := 15) (oi := ⟨some 120, _, _, _, _, _⟩) (v := _) rfl (by kernel_rfl) (by kernel_rfl) (by kernel_rfl) (fun _ _ _ h => h) (yieldsIf_str rfl _ rfl rfl ⟨x.toArray⟩ (fun W h => HC0.out W h)) (by assumption) ?_
              try simp only [Act.put, List.setIfInBounds_toArray, List.set_cons_zero, List.set_cons_succ]
              refine wpAnyH_take (i := 16) (oi := ⟨some 121, _, _, _, _, _⟩) (v := ?_) rfl (by kernel_rfl) (by kernel_rfl) (by kernel_rfl) (fun _ _ _ h => h) (Or.inl ⟨by rfl, by intro w hSw; go_simp; try rfl⟩) (by assumption) ?_
              try simp only [Act.put, List.setIfInBounds_toArray, List.set_cons_zero, List.set_cons_succ]
              refine wpAnyH_take (i := 17) (oi := ⟨some 122, _, _, _, _, _⟩) (v := ?_) rfl (by kernel_rfl) (by kernel_rfl) (by kernel_rfl) (fun _ _ _ h => h) (Or.inl ⟨by rfl, by intro w hSw; go_simp; try rfl⟩) (by assumption) ?_
              try simp only [Act.put, List.setIfInBounds_toArray, List.set_cons_zero, List.set_cons_succ]
              refine wpAnyH_take (i := 18) (oi := ⟨some 123, _, _, _, _, _⟩) (v := ?_) rfl (by kernel_rfl) (by kernel_rfl) (by kernel_rfl) (fun _ _ _ h => h) (Or.inl ⟨by rfl, by intro w hSw; go_simp; try rfl⟩) (by assumption) ?_
              try simp only [Act.put, List.setIfInBounds_toArray, List.set_cons_zero, List.set_cons_succ]
              refine wpAnyH_take (i := 19) (oi := ⟨some 124, _, _, _, _, _⟩) (v := ?_) rfl (by kernel_rfl) (by kernel_rfl) (by kernel_rfl) (fun _ _ _ h => h) (Or.inl ⟨by rfl, by intro w hSw; go_simp; try rfl⟩) (by assumption) ?_
              try simp only [Act.put, List.setIfInBounds_toArray, List.set_cons_zero, List.set_cons_succ]
              refine wpAnyH_take (i := 20) (oi := ⟨some 125, _, _, _, _, _⟩) (v := ?_) rfl (by kernel_rfl) (by kernel_rfl) (by kernel_rfl) (fun _ _ _ h => h) (Or.inl ⟨by rfl, by intro w hSw; go_simp; try rfl⟩) (by assumption) ?_
              try simp only [Act.put, List.setIfInBounds_toArray, List.set_cons_zero, List.set_cons_succ]
              refine wpAnyH_take (i := 21) (oi := ⟨some 126, _, _, _, _, _⟩) (v := _) rfl (by kernel_rfl) (by kernel_rfl) (by kernel_rfl) (fun _ _ _ h => h) (yieldsIf_str rfl _ rfl rfl ⟨y.toArray⟩ (fun W h => HC2.out W h)) (by assumption) ?_
              try simp only [Act.put, List.setIfInBounds_toArray, List.set_cons_zero, List.set_cons_succ]
              refine wpAnyH_take (i := 22) (oi := ⟨some 127, _, _, _, _, _⟩) (v := ?_) rfl (by kernel_rfl) (by kernel_rfl) (by kernel_rfl) (fun _ _ _ h => h) (Or.inl ⟨by rfl, by intro w hSw; go_simp; try rfl⟩) (by assumption) ?_
              try simp only [Act.put, List.setIfInBounds_toArray, List.set_cons_zero, List.set_cons_succ]
              refine wpAnyH_take (i := 23) (oi := ⟨some 128, _, _, _, _, _⟩) (v := ?_) rfl (by kernel_rfl) (by kernel_rfl) (by kernel_rfl) (fun _ _ _ h => h) (Or.inl ⟨by rfl, by intro w hSw; go_simp; try rfl⟩) (by assumption) ?_
              try simp only [Act.put, List.setIfInBounds_toArray, List.set_cons_zero, List.set_cons_succ]
              refine wpAnyH_take (i := 24) (oi := ⟨some 129, _, _, _, _, _⟩) (v := ?_) rfl (by kernel_rfl) (by kernel_rfl) (by kernel_rfl) (fun _ _ _ h => h) (Or.inl ⟨by rfl, by intro w hSw; go_simp; try rfl⟩) (by assumption) ?_
              try simp only [Act.put, List.setIfInBounds_toArray, List.set_cons_zero, List.set_cons_succ]
              refine wpAnyH_done (by kernel_rfl) ?_ _
              go_wp2
              go_roundg g2
              case measure => omega
              case rel => exact ⟨kk + 1, by omega, by go_num, ⟨HW.out.trans (hHeld.mono HW.out.size)⟩⟩
end Go.Proofs.Ytaedlaeflliibaa
