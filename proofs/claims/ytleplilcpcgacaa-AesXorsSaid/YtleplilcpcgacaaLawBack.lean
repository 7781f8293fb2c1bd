/- The walk of AesBack. -/
import Derived.Test.YtleplilcpcgacaaLawNext
import Derived.Test.YtleplilcpcgacaaLawStreams
namespace Go.Proofs.Ytleplilcpcgacaa
open Go.RowKit

theorem addL_twice (s b : List UInt8) (n : Nat) (h : b.length = n) : addL s (addL s b n) n = b := by
  refine List.ext_getElem (by rw [addL_length, h]) fun i h1 h2 => ?_
  have hi : i < n := by rwa [addL_length] at h1
  have e : (addL s b n).getD i 0 = s.getD i 0 ^^^ b.getD i 0 := map_getD _ _ _ _ hi
  have e2 : (addL s (addL s b n) n)[i] = s.getD i 0 ^^^ (addL s b n).getD i 0 := by simp [addL]
  have e3 : b.getD i 0 = b[i] := by simp [List.getD, List.getElem?_eq_getElem h2]
  rw [e2, e, e3, ← UInt8.xor_assoc, UInt8.xor_self]
  simp
theorem strL_drop (key at' : List UInt8) (m k : Nat) : (strL (strF key at') (16 * m + k)).drop (16 * m) = strL (strF key (nextL at' m)) k := by
  refine List.ext_getElem (by rw [List.length_drop, strL_length, strL_length]; omega) fun i h1 h2 => ?_
  rw [List.getElem_drop]
  simp only [strL, List.getElem_map, List.getElem_range]
  rw [show (16 * m + i) / 16 = m + i / 16 by omega, show (16 * m + i) % 16 = i % 16 by omega]
  unfold strF
  rw [nextL_add]
set_option maxRecDepth 100000 in
set_option maxHeartbeats 4000000 in
theorem walk_aesBack (key at' : List UInt8) (B : Option Addr) (n c : Nat) (b : List UInt8) (k : UInt8) (w : World) (hk : key.length = 16) (ha : at'.length = 16) (hb : Bs w w.heap.size B n c b) :
    Calls Try.prog 6 #[.agg (cells8 key).toArray, .agg (cells8 at').toArray, .slice B n c, .int .u8 k.toNat] w fun e w' => e = .returned (.bool true) ∧ Below w.heap.size w w' := by
  have HK : Kp (key.length = 16) := ⟨hk⟩
  have HA : Kp (at'.length = 16) := ⟨ha⟩
  have HLk : Kp ((cells8 key).length = 16) := ⟨by rw [cells8_length]; exact hk⟩
  have HLa : Kp ((cells8 at').length = 16) := ⟨by rw [cells8_length]; exact ha⟩
  have HB : Kp _ := ⟨hb⟩
  have hn63 := hb.le
  have hk8 := k.toNat_lt
  clear hk ha hb
  go_enter Try.func6, Try.ntmps6
  go_wp2_with (with_reducible refine wpList_box (o := ⟨some 4, _, _, _, _, _⟩) rfl (.tmp 0) rfl rfl ?_)
  intro w1 hk1 hb1 hs1
  have HK1 : Kp _ := ⟨hk1⟩
  have HB1 : Kp _ := ⟨HB.out.next hb1 (Nat.le_refl _)⟩
  clear hk1 hs1 HB
  go_wp2_with (with_reducible refine wpList_box (o := ⟨some 5, _, _, _, _, _⟩) rfl (.tmp 1) rfl rfl ?_)
  intro w2 hk2 hb2 hs2
  have HI2 : Kp _ := ⟨hk2⟩
  have HB2 : Kp _ := ⟨HB1.out.next hb2 (Nat.le_refl _)⟩
  have HK2 : Kp _ := ⟨HK1.out.below hb2 HK1.out.lt⟩
  have hB2 : Below w.heap.size w w2 := hb1.trans (hb2.mono hb1.size)
  obtain ⟨g1, hg1⟩ : ∃ g, g = w1.heap.size := ⟨_, rfl⟩
  rw [← hg1] at HI2 ⊢
  clear hk2 hs2 hb1 hb2 HK1 HB1 hg1
  by_cases h6 : (600 : Int) < n
  · go_wp2_with fail
    refine (known4_any _).mono ?_
    rintro e w5 ⟨rfl, hb5⟩
    have hB5 := hB2.trans (hb5.mono hB2.size)
    go_wp2
    go_ret
    exact ⟨rfl, hB5⟩
  have hn6 : n ≤ 1048576 := by omega
  go_wp2_with (with_reducible refine wpList_loadAll (o := ⟨some 18, _, _, _, _, _⟩) rwKey rfl (.tmp 4) rfl rfl HK2.out HLk.out ?_)
  go_wp2_with fail
  refine (new_any key w2 HK.out).mono ?_
  rintro e w3 ⟨gc, rfl, hci, hb3⟩
  have HC3 : Kp _ := ⟨hci⟩
  have HI3 : Kp _ := ⟨HI2.out.below hb3 HI2.out.lt⟩
  have HB3 : Kp _ := ⟨HB2.out.next hb3 (Nat.le_refl _)⟩
  have hB3 := hB2.trans (hb3.mono hB2.size)
  clear hci hb3 HK2 HI2 HB2 hB2
  go_wp2_with (with_reducible refine wpList_loadAll (o := ⟨some 21, _, _, _, _, _⟩) rwNonce rfl (.tmp 5) rfl rfl HI3.out HLa.out ?_)
  go_wp2_with fail
  refine (xor_any gc key at' B n c b w3 HC3.out HA.out HB3.out hn6).mono ?_
  rintro e w4 ⟨A4, d4, rfl, hbs4, hb4⟩
  have HX4 : Kp _ := ⟨hbs4⟩
  have HC4 : Kp _ := ⟨HC3.out.below hb4⟩
  have HI4 : Kp _ := ⟨HI3.out.below hb4 HI3.out.lt⟩
  have HB4 : Kp _ := ⟨HB3.out.next hb4 (Nat.le_refl _)⟩
  have hB4 := hB3.trans (hb4.mono hB3.size)
  have HTW : Kp _ := ⟨addL_twice (strL (strF key at') n) b n HB3.out.len⟩
  have hd63 := hbs4.le
  clear hbs4 hb4 HC3 HI3 HB3 hB3
  obtain ⟨X, hX⟩ : ∃ X, X = addL (strL (strF key at') n) b n := ⟨_, rfl⟩
  rw [← hX] at HX4 HTW
  clear hX
  have hnn : ((n : Int) != (n : Int)) = false := by simp
  go_wp2_with (refine wpList_loadAll_g (o := ⟨some 31, _, _, _, _, some _⟩) rwNonce (by rfl) (.tmp 5) rfl rfl HI4.out HLa.out ?_)
  refine (xor_any gc key at' A4 n d4 X w4 HC4.out HA.out HX4.out hn6).mono ?_
  rintro e w5 ⟨A5, d5, rfl, hbs5, hb5⟩
  rw [HTW.out] at hbs5
  have HY5 : Kp _ := ⟨hbs5⟩
  have HC5 : Kp _ := ⟨HC4.out.below hb5⟩
  have HI5 : Kp _ := ⟨HI4.out.below hb5 HI4.out.lt⟩
  have HB5 : Kp _ := ⟨HB4.out.next hb5 (Nat.le_refl _)⟩
  have hB5 := hB4.trans (hb5.mono hB4.size)
  have hbb : (b == b) = true := beq_self_eq_true _
  clear hbs5 hb5 HC4 HI4 HB4 hB4 HX4 HTW
  go_wp2_with fail
  refine (same_any A5 B n d5 n c b b w5 _ _ HY5.out HB5.out).mono ?_
  rintro e w6 ⟨rfl, hww⟩
  subst hww
  rw [hbb]
  obtain ⟨m, hm⟩ : ∃ m, m = k.toNat % 20 := ⟨_, rfl⟩
  have hmI : (k.toNat : Int) % 20 = (m : Int) := by omega
  obtain ⟨q, hq⟩ : ∃ q, q = 16 * m + 40 := ⟨_, rfl⟩
  have hqI : 16 * (m : Int) + 40 = (q : Int) := by omega
  have hm20 : m < 20 := by omega
  have hq63 : q ≤ 1048576 := by omega
  have HQ : Kp (q = 16 * m + 40) := ⟨hq⟩
  clear hm hq hbb HB5 HY5
  go_wp2_with (with_reducible refine wpList_loadAll (o := ⟨some 42, _, _, _, _, _⟩) rwNonce rfl (.tmp 5) rfl rfl HI5.out HLa.out ?_)
  refine (stream_mid gc key at' q w5 HC5.out HA.out hq63).mono ?_
  rintro e w6 ⟨v6, rfl, hown6, hb6⟩
  obtain ⟨A6, c6, rfl, hbs6⟩ := Bs.of_own hown6
  have HS6 : Kp _ := ⟨hbs6⟩
  have HC6 : Kp _ := ⟨HC5.out.below hb6⟩
  have HI6 : Kp _ := ⟨HI5.out.below hb6 HI5.out.lt⟩
  have hB6 := hB5.trans (hb6.mono hB5.size)
  have hc6 := hbs6.cap
  clear hown6 hbs6 hb6 HC5 HI5 hB5
  go_wp2_with (with_reducible refine wpList_loadAll (o := ⟨some 48, _, _, _, _, _⟩) rwNonce rfl (.tmp 5) rfl rfl HI6.out HLa.out ?_)
  refine (next_mid at' m w6 HA.out (by omega)).mono ?_
  rintro e w7 ⟨rfl, hb7⟩
  have HS7 : Kp _ := ⟨HS6.out.next hb7 (Nat.le_refl _)⟩
  have HC7 : Kp _ := ⟨HC6.out.below hb7⟩
  have hB7 := hB6.trans (hb7.mono hB6.size)
  clear hb7 HS6 HC6 HI6 hB6
  go_wp2_with fail
  refine (stream_mid gc key (nextL at' m) 40 w7 HC7.out (nextL_length _ _) (by decide)).mono ?_
  rintro e w8 ⟨v8, rfl, hown8, hb8⟩
  obtain ⟨A8, c8, rfl, hbs8⟩ := Bs.of_own hown8
  have HT8 : Kp _ := ⟨hbs8⟩
  have HS8 : Kp _ := ⟨HS7.out.next hb8 (Nat.le_refl _)⟩
  have hB8 := hB7.trans (hb8.mono hB7.size)
  have HDR : Kp ((strL (strF key at') q).drop (16 * m) = strL (strF key (nextL at' m)) 40) := ⟨by rw [HQ.out]; exact strL_drop key at' m 40⟩
  obtain ⟨T, hT⟩ : ∃ T, T = strL (strF key (nextL at' m)) 40 := ⟨_, rfl⟩
  obtain ⟨S, hS⟩ : ∃ S, S = strL (strF key at') q := ⟨_, rfl⟩
  rw [← hT] at HT8 HDR
  rw [← hS] at HS8 HDR
  have hTT : (T == T) = true := beq_self_eq_true _
  clear hT hS hown8 hbs8 hb8 HS7 HC7 hB7
  obtain ⟨m16, hm16⟩ : ∃ x, x = 16 * m := ⟨_, rfl⟩
  have hm16I : 16 * (m : Int) = (m16 : Int) := by omega
  rw [← hm16] at HDR
  have hmq : m16 ≤ q := by omega
  clear hm16
  go_wp2_with (refine wpList_cut_l_g (o := ⟨some 62, _, _, _, _, some _⟩) el8 (by rfl) (.tmp 59) (.tmp 61) rfl rfl HS8.out .i64 _ m16 rfl (by first | rfl | exact hm16I) hmq ?_)
  intro A9 n9 d9 hbs9
  rw [HDR.out] at hbs9
  have HU9 : Kp _ := ⟨hbs9⟩
  clear hbs9 HS8
  go_wp2_with fail
  refine (same_any A9 A8 n9 d9 40 c8 T T w8 _ _ HU9.out HT8.out).mono ?_
  rintro e w9 ⟨rfl, hww⟩
  subst hww
  rw [hTT]
  go_wp2_with fail
  refine (known4_any _).mono ?_
  rintro e w10 ⟨rfl, hb10⟩
  have hB10 := hB8.trans (hb10.mono hB8.size)
  go_wp2
  go_ret
  exact ⟨rfl, hB10⟩
end Go.Proofs.Ytleplilcpcgacaa
