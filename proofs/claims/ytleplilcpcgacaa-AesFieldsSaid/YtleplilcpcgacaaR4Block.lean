/- The contract of sacristanref04's Block. -/
import Derived.Test.YtleplilcpcgacaaR4Shift
import Derived.Test.YtleplilcpcgacaaR4Mix
import Derived.Test.YtleplilcpcgacaaR4Next
namespace Go.Proofs.Ytleplilcpcgacaa
open Go.RowKit

/-- a round -/
def roundL (ks : List (List UInt8)) (bx s : List UInt8) (r : Nat) : List UInt8 := addL (if r < 10 then mixL (shiftL s bx 16) 16 else shiftL s bx 16) (ks.getD r []) 16
def roundsL (ks : List (List UInt8)) (bx inp : List UInt8) : Nat → List UInt8
  | 0 => addL inp (ks.getD 0 []) 16
  | r + 1 => roundL ks bx (roundsL ks bx inp r) (r + 1)
/-- a block, enciphered -/
def blockL (ks : List (List UInt8)) (bx inp : List UInt8) : List UInt8 := roundsL ks bx inp 10
theorem roundsL_length (ks : List (List UInt8)) (bx inp : List UInt8) (r : Nat) : (roundsL ks bx inp r).length = 16 := by
  cases r <;> simp [roundsL, roundL, addL_length]
theorem blockL_length (ks : List (List UInt8)) (bx inp : List UInt8) : (blockL ks bx inp).length = 16 := roundsL_length _ _ _ _

/-- a key, spread, and the box, as the document's C has them -/
structure CIs (w : World) (B : Nat) (KA : Option Addr) (kc : Nat) (ks : List (List UInt8)) (BA : Option Addr) (bc : Nat) (bx : List UInt8) : Prop where
  key : ∃ b o, KA = some ⟨b, o, none⟩ ∧ b < B ∧ ∀ r, r < 11 → ∃ A c, w.cell? ⟨b, o + r, none⟩ = some (.slice A 16 c) ∧ Is w B A 16 c (ks.getD r [])
  box : Is w B BA 256 bc bx
theorem CIs.next {w0 w1 : World} {KA : Option Addr} {kc : Nat} {ks : List (List UInt8)} {BA : Option Addr} {bc : Nat} {bx : List UInt8} (h : CIs w0 w0.heap.size KA kc ks BA bc bx) (hb : Below w0.heap.size w0 w1) : CIs w1 w1.heap.size KA kc ks BA bc bx := by
  obtain ⟨b, o, hA, hlt, hk⟩ := h.key
  refine ⟨⟨b, o, hA, Nat.lt_of_lt_of_le hlt hb.size, fun r hr => ?_⟩, h.box.next hb (Nat.le_refl _)⟩
  obtain ⟨A, c, h1, h2⟩ := hk r hr
  exact ⟨A, c, (hb.cell (p := ⟨b, o + r, none⟩) hlt).trans h1, h2.next hb (Nat.le_refl _)⟩

/-- the first j bytes of s, and noughts behind them -/
def outL (s : List UInt8) (j : Nat) : List UInt8 := s.take j ++ List.replicate (16 - j) 0
theorem outL_length (s : List UInt8) (j : Nat) (hs : s.length = 16) (hj : j ≤ 16) : (outL s j).length = 16 := by simp [outL]; omega
theorem outL_set (s : List UInt8) (j : Nat) (hj : j < s.length) (hs : s.length = 16) : (cells8 (outL s j)).set j (.int .u8 (s[j].toNat : Int)) = cells8 (outL s (j + 1)) := by
  unfold outL
  rw [show 16 - j = (16 - (j + 1)) + 1 by omega, List.replicate_succ, cells8_append, List.set_append_right _ _ (by rw [cells8_length, List.length_take]; omega), cells8_length, List.length_take, Nat.min_eq_left (by omega), Nat.sub_self, List.take_succ_eq_append_getElem hj, List.append_assoc, cells8_append]
  rfl
theorem outL_done (s : List UInt8) (hs : s.length = 16) : outL s 16 = s := by unfold outL; rw [List.take_of_length_le (by omega)]; simp
def lit16 : List Value := [.int .u8 0, .int .u8 0, .int .u8 0, .int .u8 0, .int .u8 0, .int .u8 0, .int .u8 0, .int .u8 0, .int .u8 0, .int .u8 0, .int .u8 0, .int .u8 0, .int .u8 0, .int .u8 0, .int .u8 0, .int .u8 0]
theorem lit16_one : ∀ v ∈ lit16, v.oneCell' = true := by unfold lit16; intro v hv; simp at hv; subst hv; rfl
theorem lit16_zero : lit16 = zero16 := by rfl
theorem outL_none (s : List UInt8) : cells8 (outL s 0) = zero16 := by simp [outL, zero16]

set_option maxRecDepth 100000 in
set_option maxHeartbeats 4000000 in
theorem refblock_any (KA : Option Addr) (kc : Nat) (ks : List (List UInt8)) (BA : Option Addr) (bc : Nat) (bx : List UInt8) (inp : List UInt8) (w : World) (hc : CIs w w.heap.size KA kc ks BA bc bx) (hi : inp.length = 16) :
    Calls Try.prog 19 #[.agg #[.slice KA 11 kc, .slice BA 256 bc], .agg (cells8 inp).toArray] w fun e w' => e = .returned (.agg (cells8 (blockL ks bx inp)).toArray) ∧ Below w.heap.size w w' := by
  have HC : Kp _ := ⟨hc⟩
  have HI : Kp _ := ⟨hi⟩
  clear hc hi
  go_enter Try.func19, Try.ntmps19
  go_wp2_with (with_reducible refine wpList_box (o := ⟨some 2, _, _, _, _, _⟩) (cs := [.slice KA 11 kc, .slice BA 256 bc]) rfl (.tmp 0) rfl rfl ?_)
  intro w1 hk1 hb1 hs1
  have HK1 : Kp _ := ⟨hk1⟩
  have HC1 : Kp _ := ⟨HC.out.next hb1⟩
  clear hk1 hs1
  go_wp2_with (with_reducible refine wpList_box (o := ⟨some 3, _, _, _, _, _⟩) rfl (.tmp 1) rfl rfl ?_)
  intro w2 hk2 hb2 hs2
  have HK2 : Kp _ := ⟨hk2⟩
  have HK12 : Kp _ := ⟨HK1.out.below hb2 HK1.out.lt⟩
  have HC2 : Kp _ := ⟨HC1.out.next hb2⟩
  have hb02 := below_next hb1 hb2
  clear hk2 hs2 HK1 HC1
  go_wp2_with (with_reducible refine wpList_alloc (o := ⟨some 4, _, _, _, _, _⟩) tyNonce rfl rfl ?_)
  intro w3 hk3 hb3 hs3
  have HR3 : Kp _ := ⟨hk3⟩
  have HK3 : Kp _ := ⟨HK2.out.below hb3 HK2.out.lt⟩
  have HK13 : Kp _ := ⟨HK12.out.below hb3 HK12.out.lt⟩
  have HC3 : Kp _ := ⟨HC2.out.next hb3⟩
  have hb03 := below_next hb02 hb3
  have hl1 : w.heap.size < w3.heap.size := HK13.out.lt
  have hl2 : w1.heap.size < w3.heap.size := HK3.out.lt
  have hl3 : w2.heap.size < w3.heap.size := hk3.lt
  have hgw : w.heap.size ≤ w2.heap.size := hb02.size
  clear hk3 hs3 HK2 HK12 HC2 hb1 hb2 hb3 hb02 HC
  have hk0 : ∀ W, Below w3.heap.size w3 W → W.cell? ⟨w.heap.size, 0, none⟩ = some (.slice KA 11 kc) := fun W hW => (hW.cell (p := ⟨w.heap.size, 0, none⟩) hl1).trans (HK13.out.cell? 0)
  have hk1 : ∀ W, Below w3.heap.size w3 W → W.cell? ⟨w.heap.size, 1, none⟩ = some (.slice BA 256 bc) := fun W hW => (hW.cell (p := ⟨w.heap.size, 1, none⟩) hl1).trans (HK13.out.cell? 1)
  have K0 : Kp _ := ⟨hk0⟩
  have K1 : Kp _ := ⟨hk1⟩
  clear hk0 hk1 HK13
  go_wp2
  go_loopw [5, 6] (fun v i wr => ∃ j : Nat, j ≤ 16 ∧ i = .int .i64 j ∧ Hid (wr.ownsRow w3.heap.size 3 1 v j (cellsI (inp.take j))) ∧ Below w3.heap.size w3 wr) (fun _ i _ => 16 - (intOf i).toNat)
  case atStart => exact ⟨0, Nat.zero_le _, rfl, own_nil _ _ _, Below.refl _ _⟩
  case round =>
    obtain ⟨j, hj, rfl, H, hB⟩ := hrel
    by_cases hlt : j < 16
    · have hsz := hB.size
      have hjl : j < inp.length := by rw [HI.out]; exact hlt
      have hcx : wr.cell? ⟨w1.heap.size, j, none⟩ = some (.int .u8 (inp[j].toNat : Int)) := by rw [(HK3.out.below hB hl2).cell? j, cells8_at inp j hjl]
      have HT : Kp _ := ⟨List.take_succ_eq_append_getElem hjl⟩
      generalize inp[j] = x at *
      have hwr : wrap64 (x.toNat : Int) = (x.toNat : Int) := by have := x.toNat_lt; simp only [wrap64]; omega
      go_wp2_with (at_builtin; refine wpList_app1 elI rfl _ _ rfl w3.heap.size _ j _ rfl H.out rfl rfl (by simp only [maxLen]; omega) (by omega) hsz ?_)
      intro v' w' H' hb' _ _
      have H2 : Hid (w'.ownsRow w3.heap.size 3 1 v' (j + 1) (cellsI (inp.take (j + 1)))) := by
        show World.ownsRow _ _ _ _ _ _ _
        rw [HT.out, cellsI_append]
        exact H'.out
      clear H H' HT
      go_wp2
      go_roundw
      case rel => exact ⟨j + 1, by omega, by go_num, H2, hB.trans hb'⟩
      case measure => simp [intOf]; omega
    · obtain rfl : j = 16 := by omega
      obtain ⟨A0, c0, e0, hs0⟩ := Is.of_own H.out
      subst e0
      rw [List.take_of_length_le (by rw [HI.out]; exact Nat.le_refl _)] at hs0
      have HS0 : Kp _ := ⟨hs0⟩
      obtain ⟨wa, rfl⟩ : ∃ x, x = wr := ⟨wr, rfl⟩
      have q0 := K0.out wa hB
      obtain ⟨kb, ko, rfl, hkb, hkk⟩ := (HC3.out.next hB).key
      obtain ⟨Ak, ck, qk, hik⟩ := hkk 0 (by omega)
      have HIk : Kp _ := ⟨hik⟩
      clear hs0 H hik hkk
      rw [Nat.add_zero] at qk
      go_wp2_with fail
      refine (refadd_any A0 16 c0 inp Ak 16 ck _ wa HS0.out HIk.out (by omega) (by omega)).mono ?_
      rintro e wb ⟨vb, rfl, hownb, hbb⟩
      obtain ⟨A1, c1, rfl, hs1⟩ := Is.of_own hownb
      have HS1 : Kp (Is wb wb.heap.size A1 16 c1 (roundsL ks bx inp 0)) := ⟨hs1⟩
      have hB0b : Below w3.heap.size w3 wb := below_next hB hbb
      clear hs1 hownb hbb q0 qk HS0 HIk
      go_wp2
      go_loopg [5, 7] 10 (fun gk v i wr => ∃ (r : Nat) (A : Option Addr) (c : Nat), r + gk = 10 ∧ i = .int .i64 ((r : Int) + 1) ∧ v = .slice A 16 c ∧ Kp (Is wr wr.heap.size A 16 c (roundsL ks bx inp r)) ∧ Below w3.heap.size w3 wr)
      case atStart => exact ⟨0, A1, c1, by omega, rfl, rfl, HS1, hB0b⟩
      case round =>
        clear HS1 hB0b
        obtain ⟨r, A, c, hr, rfl, rfl, HS, hBr⟩ := hrel
        cases gk with
        | zero =>
          obtain rfl : r = 10 := by omega
          have HS10 : Kp (Is wr wr.heap.size A 16 c (blockL ks bx inp)) := HS
          have HL16 : Kp ((blockL ks bx inp).length = 16) := ⟨blockL_length _ _ _⟩
          have HZ : Kp (zero16.length = 16) := ⟨rfl⟩
          have HZl : Kp (lit16.length = 16) := ⟨rfl⟩
          generalize hbl : blockL ks bx inp = R at *
          have HBL : Kp _ := ⟨hbl⟩
          obtain ⟨wc, rfl⟩ : ∃ x, x = wr := ⟨wr, rfl⟩
          clear HS hbl K0 K1
          go_wp2_with (with_reducible refine wpList_alloc (o := ⟨some 8, _, _, _, _, _⟩) tyNonce rfl rfl ?_)
          intro wd hkd hbd hsd
          have HKd : Kp _ := ⟨hkd⟩
          clear hkd hsd
          go_wp2_with (refine wpList_storeAll (o := ⟨none, _, _, _, _, _⟩) (vs := lit16) rwNonce rfl (.tmp 8) (.tmp 46) rfl rfl HKd.out HZ.out HZl.out lit16_one rfl ?_)
          intro we hke hoe
          have HKe : Kp (Blk we wc.heap.size 31 (cells8 (outL R 0))) := ⟨by rw [outL_none]; exact hke⟩
          have hbe : Below wc.heap.size wc we := hbd.trans (hoe.below (Nat.le_refl _))
          have HSe : Kp _ := ⟨HS10.out.below hbe⟩
          have hB0e : Below w3.heap.size w3 we := hBr.trans (hbe.mono hBr.size)
          have hgt : w3.heap.size ≤ wc.heap.size := hBr.size
          clear hke hoe HKd hbd hbe HS10 hBr
          go_wp2
          go_loopw [9] (fun i wr => ∃ j : Nat, j ≤ 16 ∧ i = .int .i64 j ∧ Kp (Blk wr wc.heap.size 31 (cells8 (outL R j))) ∧ Only wc.heap.size we wr) (fun i _ => 16 - (intOf i).toNat)
          case atStart => exact ⟨0, Nat.zero_le _, rfl, HKe, Only.refl _ _⟩
          case round =>
            clear HKe
            obtain ⟨j, hj, rfl, HB, ho⟩ := hrel
            by_cases hlt : j < 16
            · have hjl : j < R.length := by rw [HL16.out]; exact hlt
              obtain ⟨b1, o1, rfl, hbb, hcx⟩ := HSe.out.cell (i := j) hlt
              have hcx2 : wr.cell? ⟨b1, o1 + j, none⟩ = some (.int .i64 (R[j].toNat : Int)) := (World.cell?_of_block (w := we) (ho.block b1 (by omega))).trans hcx
              have hco := HB.out.cell (i := j) (by rw [cells8_length, outL_length R j HL16.out (by omega)]; exact hlt)
              have hfo := HB.out.frozen j
              have HSet : Kp _ := ⟨outL_set R j hjl HL16.out⟩
              have hx8 := R[j].toNat_lt
              have hmod : (R[j].toNat : Int) % 256 = (R[j].toNat : Int) := by omega
              generalize R[j] = x at *
              generalize (cells8 (outL R j))[j]'_ = q at hco
              clear hcx
              go_wp2
              refine ⟨⟨j + 1, by omega, by go_num, ⟨?_⟩, ho.trans (Only.setCell wr ⟨wc.heap.size, j, none⟩ _)⟩, by simp [intOf]; omega⟩
              have h3 := HB.out.set j (.int .u8 (x.toNat : Int))
              rw [HSet.out] at h3
              exact h3
            · obtain rfl : j = 16 := by omega
              have HD : Kp (Blk wr wc.heap.size 31 (cells8 R)) := ⟨by
                have h := HB.out
                rw [outL_done R HL16.out] at h
                exact h⟩
              have HLen : Kp ((cells8 R).length = 16) := ⟨by rw [cells8_length, HL16.out]⟩
              have HRr : Kp _ := ⟨((HR3.out.below hB0e hl3).only ho (by omega))⟩
              clear HB
              go_wp2_with (first
                | (with_reducible refine wpList_loadAll (o := ⟨some 58, _, _, _, _, _⟩) rwNonce rfl (.tmp 8) rfl rfl HD.out HLen.out ?_)
                | (with_reducible refine wpList_storeAll (o := ⟨none, _, _, _, _, _⟩) (vs := cells8 R) rwNonce rfl (.tmp 4) (.tmp 58) rfl rfl HRr.out HZ.out HLen.out (cells8_one _) rfl ?_))
              intro w5 hk5 ho5
              have HK5 : Kp _ := ⟨hk5⟩
              clear hk5
              go_wp2
              have hBf : Below w.heap.size w w5 := ((hb03.trans (hB0e.mono (Nat.le_of_lt hl1))).trans (ho.below (by omega))).trans (ho5.below hgw)
              exact ret_arr rfl rwNonce rfl HK5.out HLen.out rfl ⟨by rw [HBL.out], hBf⟩
        | succ g =>
          have hr10 : (r : Int) + 1 ≤ 10 := by omega
          obtain ⟨wc, rfl⟩ : ∃ x, x = wr := ⟨wr, rfl⟩
          have q1 := K1.out wc hBr
          have hCc := HC3.out.next hBr
          have HBx : Kp _ := ⟨hCc.box⟩
          clear hCc
          go_wp2_with fail
          refine (refshift_any A 16 c (roundsL ks bx inp r) BA bc bx wc HS.out HBx.out (by omega)).mono ?_
          rintro e wd ⟨vd, rfl, hownd, hbd⟩
          obtain ⟨A2, c2, rfl, hs2⟩ := Is.of_own hownd
          have HS2 : Kp _ := ⟨hs2⟩
          have hBd := below_next hBr hbd
          clear hs2 hownd hbd q1 HBx
          by_cases hr9 : (r : Int) + 1 < 10
          · have HE : Kp (roundsL ks bx inp (r + 1) = addL (mixL (shiftL (roundsL ks bx inp r) bx 16) 16) (ks.getD (r + 1) []) 16) := ⟨by show roundL _ _ _ _ = _; unfold roundL; rw [if_pos (by omega)]⟩
            go_wp2_with fail
            refine (refmix_any A2 16 c2 _ wd HS2.out (by omega)).mono ?_
            rintro e we ⟨ve, rfl, howne, hbe⟩
            obtain ⟨A3, c3, rfl, hs3⟩ := Is.of_own howne
            have HS3 : Kp _ := ⟨hs3⟩
            have hBe := below_next hBd hbe
            clear hs3 howne hbe HS2 hBd
            have q0 := K0.out we hBe
            obtain ⟨kb', ko', eKA, hkb, hkk⟩ := (HC3.out.next hBe).key
            cases eKA
            obtain ⟨Ak, ck, qk, hik⟩ := hkk (r + 1) (by omega)
            have HIk : Kp _ := ⟨hik⟩
            clear hik hkk
            obtain ⟨s, hs⟩ : ∃ s, s = r + 1 := ⟨_, rfl⟩
            have hidx : (r : Int) + 1 = (s : Int) := by omega
            have hs11 : (s : Int) < 11 := by omega
            rw [← hs] at qk HIk
            have HSs : Kp _ := ⟨hs⟩
            have e64 : Kp (wrap64 ((s : Int) + 1) = ((r + 1 : Nat) : Int) + 1) := ⟨by simp only [wrap64]; omega⟩
            clear hs
            go_wp2_with fail
            refine (refadd_any A3 16 c3 _ Ak 16 ck _ we HS3.out HIk.out (by omega) (by omega)).mono ?_
            rintro e wf ⟨vf, rfl, hownf, hbf⟩
            obtain ⟨A4, c4, rfl, hs4⟩ := Is.of_own hownf
            have HS4 : Kp (Is wf wf.heap.size A4 16 c4 (roundsL ks bx inp (r + 1))) := ⟨by rw [HE.out, ← HSs.out]; exact hs4⟩
            have hBf := below_next hBe hbf
            clear hs4 hownf hbf q0 qk HIk HS3 hBe hidx HE hs11
            go_wp2
            go_roundg g
            case rel => exact ⟨r + 1, A4, c4, by omega, by rw [← e64.out], rfl, HS4, hBf⟩
            case measure => omega
          · have HE : Kp (roundsL ks bx inp (r + 1) = addL (shiftL (roundsL ks bx inp r) bx 16) (ks.getD (r + 1) []) 16) := ⟨by show roundL _ _ _ _ = _; unfold roundL; rw [if_neg (by omega)]⟩
            have q0 := K0.out wd hBd
            obtain ⟨kb', ko', eKA, hkb, hkk⟩ := (HC3.out.next hBd).key
            cases eKA
            obtain ⟨Ak, ck, qk, hik⟩ := hkk (r + 1) (by omega)
            have HIk : Kp _ := ⟨hik⟩
            clear hik hkk
            obtain ⟨s, hs⟩ : ∃ s, s = r + 1 := ⟨_, rfl⟩
            have hidx : (r : Int) + 1 = (s : Int) := by omega
            have hs11 : (s : Int) < 11 := by omega
            rw [← hs] at qk HIk
            have HSs : Kp _ := ⟨hs⟩
            have e64 : Kp (wrap64 ((s : Int) + 1) = ((r + 1 : Nat) : Int) + 1) := ⟨by simp only [wrap64]; omega⟩
            clear hs
            go_wp2_with fail
            refine (refadd_any A2 16 c2 _ Ak 16 ck _ wd HS2.out HIk.out (by omega) (by omega)).mono ?_
            rintro e wf ⟨vf, rfl, hownf, hbf⟩
            obtain ⟨A4, c4, rfl, hs4⟩ := Is.of_own hownf
            have HS4 : Kp (Is wf wf.heap.size A4 16 c4 (roundsL ks bx inp (r + 1))) := ⟨by rw [HE.out, ← HSs.out]; exact hs4⟩
            have hBf := below_next hBd hbf
            clear hs4 hownf hbf q0 qk HIk HS2 hBd hidx HE hs11
            go_wp2
            go_roundg g
            case rel => exact ⟨r + 1, A4, c4, by omega, by rw [← e64.out], rfl, HS4, hBf⟩
            case measure => omega
end Go.Proofs.Ytleplilcpcgacaa
