/- The contract of sacristanref03.Tag. -/
import Derived.Test.YtnpodomdagodbaaR3
namespace Go.Proofs.Ytnpodomdagodbaa
open Go.RowKit

/-- a key of more than a block is its digest -/
def keyL (key : List UInt8) : List UInt8 := if 64 < key.length then shaL key else key
/-- HMAC-SHA256 -/
def hmacL (key b : List UInt8) : List UInt8 := shaL (padK (keyL key) 92 64 ++ shaL (padK (keyL key) 54 64 ++ b))
theorem shaL_len (l : List UInt8) : (shaL l).length = 32 := by unfold shaL; rw [digestL_length]

set_option maxRecDepth 100000 in
set_option maxHeartbeats 4000000 in
theorem reftag_any (A : Option Addr) (n c : Nat) (key : List UInt8) (B : Option Addr) (m d : Nat) (b : List UInt8) (w : World) (ha : Bs w w.heap.size A n c key) (hb : Bs w w.heap.size B m d b) (hn : n ≤ 1048000) (hm : m ≤ 1048000) :
    Calls Try.prog 24 #[.slice A n c, .slice B m d] w fun e w' => e = .returned (.agg (cells8 (hmacL key b)).toArray) ∧ Below w.heap.size w w' := by
  have HA : Kp _ := ⟨ha⟩
  have HB : Kp _ := ⟨hb⟩
  have HN : Kp _ := ⟨ha.len⟩
  have HM : Kp _ := ⟨hb.len⟩
  clear ha hb
  go_enter Try.func24, Try.ntmps24
  go_wp2_with (with_reducible refine wpList_alloc (o := ⟨some 4, _, _, _, _, _⟩) tyDig rfl rfl ?_)
  intro w0 hk0 hB0 hs0
  have HA0 : Kp _ := ⟨HA.out.next hB0 (Nat.le_refl _)⟩
  have HB0 : Kp _ := ⟨HB.out.next hB0 (Nat.le_refl _)⟩
  have HK0 : Kp _ := ⟨hk0⟩
  have hlt0 := hk0.lt
  clear hk0 HA HB hs0
  by_cases h64 : (64 : Int) < (n : Int)
  · have HK : Kp (keyL key = shaL key) := ⟨by unfold keyL; rw [if_pos (by rw [HN.out]; omega)]⟩
    go_wp2_with fail
    refine (refsum_any _ _ _ _ _ HA0.out (by omega)).mono ?_
    rintro e w1 ⟨rfl, hB1⟩
    have HB1 : Kp _ := ⟨HB0.out.next hB1 (Nat.le_refl _)⟩
    have HK1 : Kp _ := ⟨HK0.out.below hB1 hlt0⟩
    have hs1 := hB1.size
    go_wp2_with fail
    refine (slice_any _ (shaL_len _) _).mono ?_
    rintro e w2 ⟨v2, rfl, hown2, hB2⟩
    obtain ⟨A2, c2, rfl, hbs2⟩ := Bs.of_own hown2
    have HB2 : Kp _ := ⟨HB1.out.next hB2 (Nat.le_refl _)⟩
    have HKc : Kp _ := ⟨HK1.out.below hB2 (by omega)⟩
    have hs2 := hB2.size
    have hlt2 : w.heap.size < w2.heap.size := by omega
    have hle2 : w.heap.size ≤ w2.heap.size := by omega
    have HA2 : Kp (Bs w2 w2.heap.size A2 32 c2 (keyL key)) := ⟨by rw [HK.out]; exact hbs2⟩
    have hB12 := below_next hB0 (below_next hB1 hB2)
    clear hown2 hbs2 hB1 hB2 HA0 HB0 HB1 HK0 HK1 HN HK hB0
    go_wp2_with fail
    refine ((refpad_any _ _ _ _ 54 _ _ (Nat.le_refl _) HA2.out) : Calls _ _ #[_, .int .u8 54] _ _).mono ?_
    rintro e w3 ⟨v3, rfl, hown3, hB3⟩
    have H3 : Kp _ := ⟨hown3⟩
    have HA3 := HA2
    have HB3 : Kp _ := ⟨HB2.out.below hB3⟩
    have HK3 : Kp _ := ⟨HKc.out.below hB3 hlt2⟩
    have hs3 := hB3.size
    have hB13 := below_next hB12 hB3
    clear hown3 HA2 HB2 HKc hB12
    go_wp2_with (at_builtin; refine wpList_app el8 rfl _ _ rfl w2.heap.size _ 64 (cells8 (padK (keyL key) 54 64)) rfl H3.out B m d (cells8 b) rfl (by rw [cells8_length, HM.out]) ?_ HB3.out.news (cells8_one _) (by simp only [maxLen]; omega) (by omega) hs3 ?_)
    · exact fun h => ⟨by have := HB3.out.nil h; have := HB3.out.cap; omega, HB3.out.nil h⟩
    intro v4 w4 hown4 hg4 _
    have hb4 : Below w2.heap.size w3 w4 := below_of_grown H3.out hs3 hg4
    rw [← cells8_append] at hown4
    obtain ⟨A4, c4, rfl, hbs4⟩ := Bs.of_own hown4
    have H4 : Kp _ := ⟨hbs4⟩
    have hB4 : Below w2.heap.size w2 w4 := hB3.trans hb4
    have HA4 : Kp (Bs w4 w4.heap.size A2 32 c2 (keyL key)) := ⟨(HA3.out.below hB4).more hB4.size⟩
    have HK4 : Kp _ := ⟨HK3.out.below hb4 hlt2⟩
    have hB14 := hB13.trans (hb4.mono hle2)
    have hs4 := hB4.size
    clear hown4 hg4 hbs4 H3 HB3 HA3 HK3 hB13 hb4 hB3 hs3
    go_wp2_with fail
    refine ((refpad_any _ _ _ _ 92 _ _ (Nat.le_refl _) HA4.out) : Calls _ _ #[_, .int .u8 92] _ _).mono ?_
    rintro e w5 ⟨v5, rfl, hown5, hB5⟩
    have H5 : Kp _ := ⟨hown5⟩
    have H45 : Kp _ := ⟨H4.out.next hB5 (Nat.le_refl _)⟩
    have HK5 : Kp _ := ⟨HK4.out.below hB5 (by omega)⟩
    have hB15 := hB14.trans (hB5.mono (by have := hB14.size; omega))
    have hs5 := hB5.size
    clear hown5 H4 HA4 HK4 hB14
    go_wp2_with fail
    refine (refsum_any _ _ _ _ _ H45.out (by omega)).mono ?_
    rintro e w6 ⟨rfl, hB6⟩
    have H6 : Kp _ := ⟨own_below H5.out hB6⟩
    have HK6 : Kp _ := ⟨HK5.out.below hB6 (by omega)⟩
    have hB16 := hB15.trans (hB6.mono (by omega))
    have hs6 := hB6.size
    clear H5 H45 HK5 hB15
    go_wp2_with fail
    refine (slice_any _ (shaL_len _) _).mono ?_
    rintro e w7 ⟨v7, rfl, hown7, hB7⟩
    obtain ⟨A7, c7, rfl, hbs7⟩ := Bs.of_own hown7
    have H77 : Kp _ := ⟨hbs7⟩
    have H7 : Kp _ := ⟨own_below H6.out hB7⟩
    have HK7 : Kp _ := ⟨HK6.out.below hB7 (by omega)⟩
    have hB17 := hB16.trans (hB7.mono (by omega))
    have hs7 := hB7.size
    clear hown7 hbs7 H6 HK6 hB16
    go_wp2_with (at_builtin; refine wpList_app el8 rfl _ _ rfl w4.heap.size _ 64 (cells8 (padK (keyL key) 92 64)) rfl H7.out A7 32 c7 (cells8 (shaL (padK (keyL key) 54 64 ++ b))) rfl (by rw [cells8_length, shaL_len]) ?_ H77.out.news (cells8_one _) (by simp only [maxLen]; omega) (by omega) (by omega) ?_)
    · exact fun h => absurd (H77.out.nil h) (by have := H77.out.cap; omega)
    intro v8 w8 hown8 hg8 _
    have hb8 : Below w4.heap.size w7 w8 := below_of_grown H7.out (by omega) hg8
    rw [← cells8_append] at hown8
    obtain ⟨A8, c8, rfl, hbs8⟩ := Bs.of_own hown8
    have H8 : Kp _ := ⟨hbs8⟩
    have HK8 : Kp _ := ⟨HK7.out.below hb8 (by omega)⟩
    have hB18 := hB17.trans (hb8.mono (by omega))
    have hs8 := hb8.size
    clear hown8 hg8 hbs8 H7 H77 HK7 hB17
    go_wp2_with fail
    refine (refsum_any _ _ _ _ _ H8.out (by omega)).mono ?_
    rintro e w9 ⟨rfl, hB9⟩
    have HK9 : Kp _ := ⟨HK8.out.below hB9 (by omega)⟩
    have hB19 := hB18.trans (hB9.mono (by omega))
    have HLen : Kp ((cells8 (hmacL key b)).length = 32) := ⟨by rw [cells8_length]; exact shaL_len _⟩
    have e9 : shaL (padK (keyL key) 92 64 ++ shaL (padK (keyL key) 54 64 ++ b)) = hmacL key b := rfl
    rw [e9]
    clear e9 H8 HK8 hB18
    obtain ⟨R, hR⟩ : ∃ R, R = hmacL key b := ⟨_, rfl⟩
    rw [← hR] at HLen ⊢
    have HR : Kp _ := ⟨hR⟩
    clear hR
    go_wp2_with (with_reducible refine wpList_storeAll (o := ⟨none, _, _, _, _, _⟩) (vs := cells8 R) rwDig rfl (.tmp 4) (.tmp 26) rfl rfl HK9.out rfl HLen.out (cells8_one _) rfl ?_)
    intro w10 hk10 ho10
    have HK10 : Kp _ := ⟨hk10⟩
    clear hk10
    go_wp2
    exact ret_arr rfl rwDig rfl HK10.out HLen.out rfl ⟨by rw [HR.out], hB19.trans (ho10.below (Nat.le_refl _))⟩
  · have HK : Kp (keyL key = key) := ⟨by unfold keyL; rw [if_neg (by rw [HN.out]; omega)]⟩
    have hB12 := hB0
    have HA2 : Kp (Bs w0 w0.heap.size A n c (keyL key)) := ⟨by rw [HK.out]; exact HA0.out⟩
    have HB2 := HB0
    have HKc := HK0
    have hlt2 : w.heap.size < w0.heap.size := hlt0
    have hle2 : w.heap.size ≤ w0.heap.size := Nat.le_of_lt hlt0
    clear HA0 HB0 HK0 HK hB0 HN
    go_wp2_with fail
    refine ((refpad_any _ _ _ _ 54 _ _ (Nat.le_refl _) HA2.out) : Calls _ _ #[_, .int .u8 54] _ _).mono ?_
    rintro e w3 ⟨v3, rfl, hown3, hB3⟩
    have H3 : Kp _ := ⟨hown3⟩
    have HA3 := HA2
    have HB3 : Kp _ := ⟨HB2.out.below hB3⟩
    have HK3 : Kp _ := ⟨HKc.out.below hB3 hlt2⟩
    have hs3 := hB3.size
    have hB13 := below_next hB12 hB3
    clear hown3 HA2 HB2 HKc hB12
    go_wp2_with (at_builtin; refine wpList_app el8 rfl _ _ rfl w0.heap.size _ 64 (cells8 (padK (keyL key) 54 64)) rfl H3.out B m d (cells8 b) rfl (by rw [cells8_length, HM.out]) ?_ HB3.out.news (cells8_one _) (by simp only [maxLen]; omega) (by omega) hs3 ?_)
    · exact fun h => ⟨by have := HB3.out.nil h; have := HB3.out.cap; omega, HB3.out.nil h⟩
    intro v4 w4 hown4 hg4 _
    have hb4 : Below w0.heap.size w3 w4 := below_of_grown H3.out hs3 hg4
    rw [← cells8_append] at hown4
    obtain ⟨A4, c4, rfl, hbs4⟩ := Bs.of_own hown4
    have H4 : Kp _ := ⟨hbs4⟩
    have hB4 : Below w0.heap.size w0 w4 := hB3.trans hb4
    have HA4 : Kp (Bs w4 w4.heap.size A n c (keyL key)) := ⟨(HA3.out.below hB4).more hB4.size⟩
    have HK4 : Kp _ := ⟨HK3.out.below hb4 hlt2⟩
    have hB14 := hB13.trans (hb4.mono hle2)
    have hs4 := hB4.size
    clear hown4 hg4 hbs4 H3 HB3 HA3 HK3 hB13 hb4 hB3 hs3
    go_wp2_with fail
    refine ((refpad_any _ _ _ _ 92 _ _ (Nat.le_refl _) HA4.out) : Calls _ _ #[_, .int .u8 92] _ _).mono ?_
    rintro e w5 ⟨v5, rfl, hown5, hB5⟩
    have H5 : Kp _ := ⟨hown5⟩
    have H45 : Kp _ := ⟨H4.out.next hB5 (Nat.le_refl _)⟩
    have HK5 : Kp _ := ⟨HK4.out.below hB5 (by omega)⟩
    have hB15 := hB14.trans (hB5.mono (by have := hB14.size; omega))
    have hs5 := hB5.size
    clear hown5 H4 HA4 HK4 hB14
    go_wp2_with fail
    refine (refsum_any _ _ _ _ _ H45.out (by omega)).mono ?_
    rintro e w6 ⟨rfl, hB6⟩
    have H6 : Kp _ := ⟨own_below H5.out hB6⟩
    have HK6 : Kp _ := ⟨HK5.out.below hB6 (by omega)⟩
    have hB16 := hB15.trans (hB6.mono (by omega))
    have hs6 := hB6.size
    clear H5 H45 HK5 hB15
    go_wp2_with fail
    refine (slice_any _ (shaL_len _) _).mono ?_
    rintro e w7 ⟨v7, rfl, hown7, hB7⟩
    obtain ⟨A7, c7, rfl, hbs7⟩ := Bs.of_own hown7
    have H77 : Kp _ := ⟨hbs7⟩
    have H7 : Kp _ := ⟨own_below H6.out hB7⟩
    have HK7 : Kp _ := ⟨HK6.out.below hB7 (by omega)⟩
    have hB17 := hB16.trans (hB7.mono (by omega))
    have hs7 := hB7.size
    clear hown7 hbs7 H6 HK6 hB16
    go_wp2_with (at_builtin; refine wpList_app el8 rfl _ _ rfl w4.heap.size _ 64 (cells8 (padK (keyL key) 92 64)) rfl H7.out A7 32 c7 (cells8 (shaL (padK (keyL key) 54 64 ++ b))) rfl (by rw [cells8_length, shaL_len]) ?_ H77.out.news (cells8_one _) (by simp only [maxLen]; omega) (by omega) (by omega) ?_)
    · exact fun h => absurd (H77.out.nil h) (by have := H77.out.cap; omega)
    intro v8 w8 hown8 hg8 _
    have hb8 : Below w4.heap.size w7 w8 := below_of_grown H7.out (by omega) hg8
    rw [← cells8_append] at hown8
    obtain ⟨A8, c8, rfl, hbs8⟩ := Bs.of_own hown8
    have H8 : Kp _ := ⟨hbs8⟩
    have HK8 : Kp _ := ⟨HK7.out.below hb8 (by omega)⟩
    have hB18 := hB17.trans (hb8.mono (by omega))
    have hs8 := hb8.size
    clear hown8 hg8 hbs8 H7 H77 HK7 hB17
    go_wp2_with fail
    refine (refsum_any _ _ _ _ _ H8.out (by omega)).mono ?_
    rintro e w9 ⟨rfl, hB9⟩
    have HK9 : Kp _ := ⟨HK8.out.below hB9 (by omega)⟩
    have hB19 := hB18.trans (hB9.mono (by omega))
    have HLen : Kp ((cells8 (hmacL key b)).length = 32) := ⟨by rw [cells8_length]; exact shaL_len _⟩
    have e9 : shaL (padK (keyL key) 92 64 ++ shaL (padK (keyL key) 54 64 ++ b)) = hmacL key b := rfl
    rw [e9]
    clear e9 H8 HK8 hB18
    obtain ⟨R, hR⟩ : ∃ R, R = hmacL key b := ⟨_, rfl⟩
    rw [← hR] at HLen ⊢
    have HR : Kp _ := ⟨hR⟩
    clear hR
    go_wp2_with (with_reducible refine wpList_storeAll (o := ⟨none, _, _, _, _, _⟩) (vs := cells8 R) rwDig rfl (.tmp 4) (.tmp 26) rfl rfl HK9.out rfl HLen.out (cells8_one _) rfl ?_)
    intro w10 hk10 ho10
    have HK10 : Kp _ := ⟨hk10⟩
    clear hk10
    go_wp2
    exact ret_arr rfl rwDig rfl HK10.out HLen.out rfl ⟨by rw [HR.out], hB19.trans (ho10.below (Nat.le_refl _))⟩
end Go.Proofs.Ytnpodomdagodbaa
