/- The law PathBack. -/
import Derived.Test.YtaedlaeflliibaaDoorLParses15
namespace Go.Proofs.YtaedlaeflliibaaDoor
open Go.RowKit Go.Shelf Go.Deep

section
set_option maxRecDepth 100000
set_option maxHeartbeats 4000000
theorem law_pathBack (s t : ByteArray) (w : World) (hs : s.data.toList.length ≤ 140737488351232) (ht : t.data.toList.length ≤ 140737488351232) :
    Calls Tryd.prog 5 #[.string s, .string t] w fun e w' => e = .returned (.bool true) ∧ Below w.heap.size w w' := by
  obtain ⟨l, rfl, hl⟩ := str_of s
  rw [hl] at hs
  obtain ⟨m, rfl, hm⟩ := str_of t
  rw [hm] at ht
  clear hl hm
  have hsz : (ByteArray.mk l.toArray).size = l.length := by simp [ByteArray.size]
  have htz : (ByteArray.mk m.toArray).size = m.length := by simp [ByteArray.size]
  by_cases hbig : 90 < l.length
  · have hbd : (90 : Int) < (l.length : Int) := by omega
    go_enter Tryd.func5, Tryd.ntmps5
    have HW : Kp (Below w.heap.size w w) := ⟨Below.refl _ _⟩
    go_wp2_with fail
    refine (known15_any _).mono ?_
    rintro e w1 ⟨rfl, hb'⟩
    replace HW : Kp _ := ⟨HW.out.trans (hb'.mono HW.out.size)⟩
    clear hb'
    go_wp2
    go_ret
    exact ⟨rfl, HW.out⟩
  have hbd : ¬ (90 : Int) < (l.length : Int) := by omega
  by_cases hbig2 : 90 < m.length
  · have hbd2 : (90 : Int) < (m.length : Int) := by omega
    go_enter Tryd.func5, Tryd.ntmps5
    have HW : Kp (Below w.heap.size w w) := ⟨Below.refl _ _⟩
    go_wp2_with fail
    refine (known15_any _).mono ?_
    rintro e w1 ⟨rfl, hb'⟩
    replace HW : Kp _ := ⟨HW.out.trans (hb'.mono HW.out.size)⟩
    clear hb'
    go_wp2
    go_ret
    exact ⟨rfl, HW.out⟩
  have hbd2 : ¬ (90 : Int) < (m.length : Int) := by omega
  have hl90 : l.length ≤ 90 := by omega
  have hm90 : m.length ≤ 90 := by omega
  have HPa : Kp (∀ (x : Nm) W, x.length ≤ 1000 → _) := ⟨fun x W h => parse_any x W (Nat.le_trans h (by decide))⟩
  have HX : Kp _ := ⟨parse_print (s := l)⟩
  have HY : Kp _ := ⟨parse_dots (s := l)⟩
  have HNm : Kp (∀ x ∈ namS l, _) := ⟨fun x hx => nam_mem hx⟩
  have HPl : Kp (okS l = true → longN (namS l) ≤ l.length + 1) := ⟨nam_long⟩
  cases ho : okS l with
  | false =>
    have HE : Kp (errS l = 11 ∧ absS l = false ∧ namS l = []) := ⟨errS_no ho, absS_no ho, namS_no ho⟩
    go_enter Tryd.func5, Tryd.ntmps5
    have HW : Kp (Below w.heap.size w w) := ⟨Below.refl _ _⟩
    go_wp2_with fail
    refine (HPa.out l _ (by omega)).mono ?_
    rintro e w1 ⟨A1, n1, c1, rfl, hs1, hb'⟩
    replace HW : Kp _ := ⟨HW.out.trans (hb'.mono HW.out.size)⟩
    rw [HE.out.2.2] at hs1
    obtain rfl : n1 = 0 := hs1.len.symm
    have S1 : Kp _ := ⟨hs1⟩
    rw [HE.out.1, HE.out.2.1]
    clear hs1
    clear hb'
    go_upto_region 4 with fail
    have hbx : Below w1.heap.size w1 (w1.alloc (.cells #[.bool false, .slice A1 0 c1] 25)) := (Below.refl _ _).alloc (Nat.le_refl _) _
    have KP : Kp _ := ⟨Blk.new w1 25 [.bool false, .slice A1 0 c1]⟩
    obtain ⟨w2, hw2⟩ : ∃ x, x = w1.alloc (.cells #[.bool false, .slice A1 0 c1] 25) := ⟨_, rfl⟩
    rw [← hw2] at hbx KP ⊢
    replace S1 : Kp _ := ⟨S1.out.next hbx (Nat.le_refl _)⟩
    replace HW : Kp _ := ⟨HW.out.trans (hbx.mono HW.out.size)⟩
    obtain ⟨GP, hG⟩ : ∃ g, g = w1.heap.size := ⟨_, rfl⟩
    rw [← hG] at KP ⊢
    clear hG hbx hw2
    have cKP0 : w2.cell? ⟨GP, 0, none⟩ = some (.bool false) := KP.out.cell? 0
    have cKP1 : w2.cell? ⟨GP, 1, none⟩ = some (.slice A1 0 c1) := KP.out.cell? 1
    go_wp2_with fail
    refine (refsame_any false false A1 none 0 c1 0 0 [] [] _ _ 0 S1.out (Ss.zero _ _) (Nat.le_refl _) (Nat.zero_le _)).mono ?_
    rintro e w3 ⟨rfl, hb'⟩
    replace KP : Kp _ := ⟨KP.out.below hb' KP.out.lt⟩
    replace S1 : Kp _ := ⟨S1.out.next hb' (Nat.le_refl _)⟩
    replace HW : Kp _ := ⟨HW.out.trans (hb'.mono HW.out.size)⟩
    rw [same_self]
    clear hb'
    clear cKP0 cKP1
    go_wp2_with fail
    refine (known15_any _).mono ?_
    rintro e w4 ⟨rfl, hb'⟩
    replace KP : Kp _ := ⟨KP.out.below hb' KP.out.lt⟩
    replace S1 : Kp _ := ⟨S1.out.next hb' (Nat.le_refl _)⟩
    replace HW : Kp _ := ⟨HW.out.trans (hb'.mono HW.out.size)⟩
    clear hb'
    go_wp2
    go_ret
    exact ⟨rfl, HW.out⟩
  | true =>
    have HE : Kp (errS l = 0) := ⟨errS_ok ho⟩
    obtain ⟨b, hb⟩ : ∃ b, b = absS l := ⟨_, rfl⟩
    obtain ⟨ns, hns⟩ : ∃ ns, ns = namS l := ⟨_, rfl⟩
    obtain ⟨p1, p2, p3⟩ := HX.out ho hl90
    obtain ⟨d1, d2, d3⟩ := HY.out ho hl90
    have hln := HPl.out ho
    rw [← hb, ← hns] at p1 p2 p3
    rw [← hb] at d3
    rw [← hns] at d2 hln
    obtain ⟨pr, hpr⟩ : ∃ pr, pr = printA b ns := ⟨_, rfl⟩
    rw [← hpr] at p1 p2 p3
    have hprl : pr.length ≤ 200 := (okS_len p1).2
    obtain ⟨sd, hsd⟩ : ∃ sd, sd = l ++ [47, 47, 46, 47] := ⟨_, rfl⟩
    rw [← hsd] at d1 d2 d3
    have hsdl : sd.length ≤ 200 := (okS_len d1).2
    have HPr : Kp (pr = printA b ns ∧ longN ns ≤ 91) := ⟨hpr, by omega⟩
    have happ : (ByteArray.mk l.toArray) ++ ⟨#[47, 47, 46, 47]⟩ = ⟨sd.toArray⟩ := by
      rw [hsd]; exact bs_app l [47, 47, 46, 47]
    have HP1 : Kp (∀ W, Calls Tryd.prog 11 #[.string ⟨l.toArray⟩] W fun e w' => ∃ A n c, e = .returned (.tuple #[.agg #[.bool b, .slice A n c], .int .i64 0]) ∧ Ss w' w'.heap.size A n c ns ∧ Below W.heap.size W w') := ⟨fun W => by
      have h := HPa.out l W (by omega)
      rw [HE.out, ← hb, ← hns] at h; exact h⟩
    have HP2 : Kp (∀ W, Calls Tryd.prog 11 #[.string ⟨pr.toArray⟩] W fun e w' => ∃ A n c, e = .returned (.tuple #[.agg #[.bool b, .slice A n c], .int .i64 0]) ∧ Ss w' w'.heap.size A n c ns ∧ Below W.heap.size W w') := ⟨fun W => by
      have h := HPa.out pr W (by omega)
      rw [errS_ok p1, p2, p3] at h; exact h⟩
    have HP3 : Kp (∀ W, Calls Tryd.prog 11 #[.string ⟨sd.toArray⟩] W fun e w' => ∃ A n c, e = .returned (.tuple #[.agg #[.bool b, .slice A n c], .int .i64 0]) ∧ Ss w' w'.heap.size A n c ns ∧ Below W.heap.size W w') := ⟨fun W => by
      have h := HPa.out sd W (by omega)
      rw [errS_ok d1, d2, d3] at h; exact h⟩
    have HTw : Kp _ := ⟨parse_two (s := l) (t := m) ho⟩
    have HBe : Kp (b = absS l ∧ ns = namS l) := ⟨hb, hns⟩
    clear p1 p2 p3 d1 d2 d3 hpr hsd hbig hbig2 HX HY HNm HPl hln hb hns
    go_enter Tryd.func5, Tryd.ntmps5
    have HW : Kp (Below w.heap.size w w) := ⟨Below.refl _ _⟩
    go_wp2_with fail
    refine (HP1.out _).mono ?_
    rintro e w1 ⟨A1, n1, c1, rfl, hs1, hb'⟩
    replace HW : Kp _ := ⟨HW.out.trans (hb'.mono HW.out.size)⟩
    have S1 : Kp _ := ⟨hs1⟩
    clear hs1
    clear hb'
    go_upto_region 4 with fail
    have hbx : Below w1.heap.size w1 (w1.alloc (.cells #[.bool b, .slice A1 n1 c1] 25)) := (Below.refl _ _).alloc (Nat.le_refl _) _
    have KP : Kp _ := ⟨Blk.new w1 25 [.bool b, .slice A1 n1 c1]⟩
    obtain ⟨w2, hw2⟩ : ∃ x, x = w1.alloc (.cells #[.bool b, .slice A1 n1 c1] 25) := ⟨_, rfl⟩
    rw [← hw2] at hbx KP ⊢
    replace S1 : Kp _ := ⟨S1.out.next hbx (Nat.le_refl _)⟩
    replace HW : Kp _ := ⟨HW.out.trans (hbx.mono HW.out.size)⟩
    obtain ⟨GP, hG⟩ : ∃ g, g = w1.heap.size := ⟨_, rfl⟩
    rw [← hG] at KP ⊢
    clear hG hbx hw2
    have cKP0 : w2.cell? ⟨GP, 0, none⟩ = some (.bool b) := KP.out.cell? 0
    have cKP1 : w2.cell? ⟨GP, 1, none⟩ = some (.slice A1 n1 c1) := KP.out.cell? 1
    go_wp2_with fail
    refine (print_any b A1 n1 c1 ns _ _ S1.out (Nat.le_refl _) (by have := HPr.out.2; omega)).mono ?_
    rintro e w3 ⟨rfl, hb'⟩
    replace KP : Kp _ := ⟨KP.out.below hb' KP.out.lt⟩
    replace S1 : Kp _ := ⟨S1.out.next hb' (Nat.le_refl _)⟩
    replace HW : Kp _ := ⟨HW.out.trans (hb'.mono HW.out.size)⟩
    rw [← HPr.out.1]
    clear hb'
    clear cKP0 cKP1
    go_wp2_with fail
    refine (HP2.out _).mono ?_
    rintro e w4 ⟨A2, n2, c2, rfl, hs2, hb'⟩
    replace KP : Kp _ := ⟨KP.out.below hb' KP.out.lt⟩
    replace S1 : Kp _ := ⟨S1.out.next hb' (Nat.le_refl _)⟩
    replace HW : Kp _ := ⟨HW.out.trans (hb'.mono HW.out.size)⟩
    have S2 : Kp _ := ⟨hs2⟩
    clear hs2
    clear hb'
    go_upto_region 7 with fail
    have hbx : Below w4.heap.size w4 (w4.alloc (.cells #[.bool b, .slice A2 n2 c2] 25)) := (Below.refl _ _).alloc (Nat.le_refl _) _
    have KR : Kp _ := ⟨Blk.new w4 25 [.bool b, .slice A2 n2 c2]⟩
    obtain ⟨w5, hw5⟩ : ∃ x, x = w4.alloc (.cells #[.bool b, .slice A2 n2 c2] 25) := ⟨_, rfl⟩
    rw [← hw5] at hbx KR ⊢
    replace KP : Kp _ := ⟨KP.out.below hbx KP.out.lt⟩
    replace S1 : Kp _ := ⟨S1.out.next hbx (Nat.le_refl _)⟩
    replace S2 : Kp _ := ⟨S2.out.next hbx (Nat.le_refl _)⟩
    replace HW : Kp _ := ⟨HW.out.trans (hbx.mono HW.out.size)⟩
    obtain ⟨GR, hG⟩ : ∃ g, g = w4.heap.size := ⟨_, rfl⟩
    rw [← hG] at KR ⊢
    clear hG hbx hw5
    go_wp2_with fail
    try rw [happ]
    refine (HP3.out _).mono ?_
    rintro e w6 ⟨A3, n3, c3, rfl, hs3, hb'⟩
    replace KP : Kp _ := ⟨KP.out.below hb' KP.out.lt⟩
    replace KR : Kp _ := ⟨KR.out.below hb' KR.out.lt⟩
    replace S1 : Kp _ := ⟨S1.out.next hb' (Nat.le_refl _)⟩
    replace S2 : Kp _ := ⟨S2.out.next hb' (Nat.le_refl _)⟩
    replace HW : Kp _ := ⟨HW.out.trans (hb'.mono HW.out.size)⟩
    have S3 : Kp _ := ⟨hs3⟩
    clear hs3
    clear hb'
    go_upto_region 8 with fail
    have hbx : Below w6.heap.size w6 (w6.alloc (.cells #[.bool b, .slice A3 n3 c3] 25)) := (Below.refl _ _).alloc (Nat.le_refl _) _
    have KU : Kp _ := ⟨Blk.new w6 25 [.bool b, .slice A3 n3 c3]⟩
    obtain ⟨w7, hw7⟩ : ∃ x, x = w6.alloc (.cells #[.bool b, .slice A3 n3 c3] 25) := ⟨_, rfl⟩
    rw [← hw7] at hbx KU ⊢
    replace KP : Kp _ := ⟨KP.out.below hbx KP.out.lt⟩
    replace KR : Kp _ := ⟨KR.out.below hbx KR.out.lt⟩
    replace S1 : Kp _ := ⟨S1.out.next hbx (Nat.le_refl _)⟩
    replace S2 : Kp _ := ⟨S2.out.next hbx (Nat.le_refl _)⟩
    replace S3 : Kp _ := ⟨S3.out.next hbx (Nat.le_refl _)⟩
    replace HW : Kp _ := ⟨HW.out.trans (hbx.mono HW.out.size)⟩
    obtain ⟨GU, hG⟩ : ∃ g, g = w6.heap.size := ⟨_, rfl⟩
    rw [← hG] at KU ⊢
    clear hG hbx hw7
    have cKP0 : w7.cell? ⟨GP, 0, none⟩ = some (.bool b) := KP.out.cell? 0
    have cKP1 : w7.cell? ⟨GP, 1, none⟩ = some (.slice A1 n1 c1) := KP.out.cell? 1
    have cKR0 : w7.cell? ⟨GR, 0, none⟩ = some (.bool b) := KR.out.cell? 0
    have cKR1 : w7.cell? ⟨GR, 1, none⟩ = some (.slice A2 n2 c2) := KR.out.cell? 1
    go_wp2_with fail
    refine (samePt_any b b A1 A2 n1 c1 n2 c2 ns ns _ _ _ S1.out S2.out (Nat.le_refl _) (Nat.le_refl _)).mono ?_
    rintro e w8 ⟨rfl, hb'⟩
    replace KP : Kp _ := ⟨KP.out.below hb' KP.out.lt⟩
    replace KR : Kp _ := ⟨KR.out.below hb' KR.out.lt⟩
    replace KU : Kp _ := ⟨KU.out.below hb' KU.out.lt⟩
    replace S1 : Kp _ := ⟨S1.out.next hb' (Nat.le_refl _)⟩
    replace S2 : Kp _ := ⟨S2.out.next hb' (Nat.le_refl _)⟩
    replace S3 : Kp _ := ⟨S3.out.next hb' (Nat.le_refl _)⟩
    replace HW : Kp _ := ⟨HW.out.trans (hb'.mono HW.out.size)⟩
    rw [same_self]
    clear hb'
    clear cKP0 cKP1 cKR0 cKR1
    have cKP0 : w8.cell? ⟨GP, 0, none⟩ = some (.bool b) := KP.out.cell? 0
    have cKP1 : w8.cell? ⟨GP, 1, none⟩ = some (.slice A1 n1 c1) := KP.out.cell? 1
    have cKU0 : w8.cell? ⟨GU, 0, none⟩ = some (.bool b) := KU.out.cell? 0
    have cKU1 : w8.cell? ⟨GU, 1, none⟩ = some (.slice A3 n3 c3) := KU.out.cell? 1
    go_wp2_with fail
    refine (samePt_any b b A1 A3 n1 c1 n3 c3 ns ns _ _ _ S1.out S3.out (Nat.le_refl _) (Nat.le_refl _)).mono ?_
    rintro e w9 ⟨rfl, hb'⟩
    replace KP : Kp _ := ⟨KP.out.below hb' KP.out.lt⟩
    replace KR : Kp _ := ⟨KR.out.below hb' KR.out.lt⟩
    replace KU : Kp _ := ⟨KU.out.below hb' KU.out.lt⟩
    replace S1 : Kp _ := ⟨S1.out.next hb' (Nat.le_refl _)⟩
    replace S2 : Kp _ := ⟨S2.out.next hb' (Nat.le_refl _)⟩
    replace S3 : Kp _ := ⟨S3.out.next hb' (Nat.le_refl _)⟩
    replace HW : Kp _ := ⟨HW.out.trans (hb'.mono HW.out.size)⟩
    rw [same_self]
    clear hb'
    clear cKP0 cKP1 cKU0 cKU1
    go_upto_region 10 with fail
    cases ht2 : okS m with
    | false =>
      have HE2 : Kp (errS m = 11) := ⟨errS_no ht2⟩
      go_wp2_with fail
      refine (HPa.out m _ (by omega)).mono ?_
      rintro e w10 ⟨A5, n5, c5, rfl, _, hb'⟩
      replace KP : Kp _ := ⟨KP.out.below hb' KP.out.lt⟩
      replace KR : Kp _ := ⟨KR.out.below hb' KR.out.lt⟩
      replace KU : Kp _ := ⟨KU.out.below hb' KU.out.lt⟩
      replace S1 : Kp _ := ⟨S1.out.next hb' (Nat.le_refl _)⟩
      replace S2 : Kp _ := ⟨S2.out.next hb' (Nat.le_refl _)⟩
      replace S3 : Kp _ := ⟨S3.out.next hb' (Nat.le_refl _)⟩
      replace HW : Kp _ := ⟨HW.out.trans (hb'.mono HW.out.size)⟩
      rw [HE2.out]
      clear hb'
      go_upto_region 11 with fail
      have hbx : Below w10.heap.size w10 (w10.alloc (.cells #[.bool (absS m), .slice A5 n5 c5] 25)) := (Below.refl _ _).alloc (Nat.le_refl _) _
      replace HW : Kp _ := ⟨HW.out.trans (hbx.mono HW.out.size)⟩
      clear hbx
      go_wp2_with fail
      refine (known15_any _).mono ?_
      rintro e w11 ⟨rfl, hb'⟩
      replace HW : Kp _ := ⟨HW.out.trans (hb'.mono HW.out.size)⟩
      clear hb'
      go_wp2
      go_ret
      exact ⟨rfl, HW.out⟩
    | true =>
      have HE2 : Kp (errS m = 0) := ⟨errS_ok ht2⟩
      obtain ⟨b2, hb2⟩ : ∃ b2, b2 = absS m := ⟨_, rfl⟩
      obtain ⟨ms, hms⟩ : ∃ ms, ms = namS m := ⟨_, rfl⟩
      obtain ⟨t1, t2, t3⟩ := HTw.out ht2 hl90 hm90
      rw [← HBe.out.1] at t3
      rw [← HBe.out.2, ← hms] at t2
      obtain ⟨tw, htw⟩ : ∃ tw, tw = l ++ 47 :: m := ⟨_, rfl⟩
      rw [← htw] at t1 t2 t3
      have htwl : tw.length ≤ 200 := (okS_len t1).2
      have happ2 : (ByteArray.mk l.toArray) ++ ⟨#[47]⟩ ++ ⟨m.toArray⟩ = ⟨tw.toArray⟩ := by
        rw [htw, show (ByteArray.mk #[47]) = ⟨([47] : Nm).toArray⟩ from rfl, bs_app, bs_app]; simp
      have HP5 : Kp (∀ W, Calls Tryd.prog 11 #[.string ⟨m.toArray⟩] W fun e w' => ∃ A n c, e = .returned (.tuple #[.agg #[.bool b2, .slice A n c], .int .i64 0]) ∧ Ss w' w'.heap.size A n c ms ∧ Below W.heap.size W w') := ⟨fun W => by
        have h := HPa.out m W (by omega)
        rw [HE2.out, ← hb2, ← hms] at h; exact h⟩
      have HP6 : Kp (∀ W, Calls Tryd.prog 11 #[.string ⟨tw.toArray⟩] W fun e w' => ∃ A n c, e = .returned (.tuple #[.agg #[.bool b, .slice A n c], .int .i64 0]) ∧ Ss w' w'.heap.size A n c (ns ++ ms) ∧ Below W.heap.size W w') := ⟨fun W => by
        have h := HPa.out tw W (by omega)
        rw [errS_ok t1, t2, t3] at h; exact h⟩
      have HLn : Kp (ns.length ≤ 201 ∧ ms.length ≤ 201) := ⟨by
        have h1 := longN_count ns
        have h2 := HPr.out.2
        have h3 := nam_long ht2
        have h4 := longN_count (namS m)
        rw [hms]
        omega⟩
      clear t1 t2 t3 htw hb2 hms HE2 HTw
      cases b2 with
      | true =>
        go_wp2_with fail
        refine (HP5.out _).mono ?_
        rintro e w10 ⟨A5, n5, c5, rfl, hs5, hb'⟩
        replace KP : Kp _ := ⟨KP.out.below hb' KP.out.lt⟩
        replace KR : Kp _ := ⟨KR.out.below hb' KR.out.lt⟩
        replace KU : Kp _ := ⟨KU.out.below hb' KU.out.lt⟩
        replace S1 : Kp _ := ⟨S1.out.next hb' (Nat.le_refl _)⟩
        replace S2 : Kp _ := ⟨S2.out.next hb' (Nat.le_refl _)⟩
        replace S3 : Kp _ := ⟨S3.out.next hb' (Nat.le_refl _)⟩
        replace HW : Kp _ := ⟨HW.out.trans (hb'.mono HW.out.size)⟩
        have S5 : Kp _ := ⟨hs5⟩
        clear hs5
        clear hb'
        go_upto_region 11 with fail
        have hbx : Below w10.heap.size w10 (w10.alloc (.cells #[.bool true, .slice A5 n5 c5] 25)) := (Below.refl _ _).alloc (Nat.le_refl _) _
        have KQ : Kp _ := ⟨Blk.new w10 25 [.bool true, .slice A5 n5 c5]⟩
        obtain ⟨w11, hw11⟩ : ∃ x, x = w10.alloc (.cells #[.bool true, .slice A5 n5 c5] 25) := ⟨_, rfl⟩
        rw [← hw11] at hbx KQ ⊢
        replace KP : Kp _ := ⟨KP.out.below hbx KP.out.lt⟩
        replace KR : Kp _ := ⟨KR.out.below hbx KR.out.lt⟩
        replace KU : Kp _ := ⟨KU.out.below hbx KU.out.lt⟩
        replace S1 : Kp _ := ⟨S1.out.next hbx (Nat.le_refl _)⟩
        replace S2 : Kp _ := ⟨S2.out.next hbx (Nat.le_refl _)⟩
        replace S3 : Kp _ := ⟨S3.out.next hbx (Nat.le_refl _)⟩
        replace S5 : Kp _ := ⟨S5.out.next hbx (Nat.le_refl _)⟩
        replace HW : Kp _ := ⟨HW.out.trans (hbx.mono HW.out.size)⟩
        obtain ⟨GQ, hG⟩ : ∃ g, g = w10.heap.size := ⟨_, rfl⟩
        rw [← hG] at KQ ⊢
        clear hG hbx hw11
        have cKP0 : w11.cell? ⟨GP, 0, none⟩ = some (.bool b) := KP.out.cell? 0
        have cKP1 : w11.cell? ⟨GP, 1, none⟩ = some (.slice A1 n1 c1) := KP.out.cell? 1
        have cKQ0 : w11.cell? ⟨GQ, 0, none⟩ = some (.bool true) := KQ.out.cell? 0
        have cKQ1 : w11.cell? ⟨GQ, 1, none⟩ = some (.slice A5 n5 c5) := KQ.out.cell? 1
        go_wp2_with fail
        refine (joinPt_any b true A1 A5 n1 c1 n5 c5 ns ms _ _ _ S1.out S5.out (Nat.le_refl _) (Nat.le_refl _) (by have h1 := S1.out.len; have h2 := S5.out.len; have := HLn.out; omega)).mono ?_
        rintro e w12 ⟨A6, n6, c6, rfl, hs6, hb'⟩
        replace KP : Kp _ := ⟨KP.out.below hb' KP.out.lt⟩
        replace KR : Kp _ := ⟨KR.out.below hb' KR.out.lt⟩
        replace KU : Kp _ := ⟨KU.out.below hb' KU.out.lt⟩
        replace KQ : Kp _ := ⟨KQ.out.below hb' KQ.out.lt⟩
        replace S1 : Kp _ := ⟨S1.out.next hb' (Nat.le_refl _)⟩
        replace S2 : Kp _ := ⟨S2.out.next hb' (Nat.le_refl _)⟩
        replace S3 : Kp _ := ⟨S3.out.next hb' (Nat.le_refl _)⟩
        replace S5 : Kp _ := ⟨S5.out.next hb' (Nat.le_refl _)⟩
        replace HW : Kp _ := ⟨HW.out.trans (hb'.mono HW.out.size)⟩
        have S6 : Kp _ := ⟨hs6⟩
        clear hs6
        rw [Bool.true_or]
        clear hb'
        clear cKP0 cKP1 cKQ0 cKQ1
        go_upto_region 14 with fail
        have hbx : Below w12.heap.size w12 (w12.alloc (.cells #[.bool true, .slice A6 n6 c6] 25)) := (Below.refl _ _).alloc (Nat.le_refl _) _
        have KJ : Kp _ := ⟨Blk.new w12 25 [.bool true, .slice A6 n6 c6]⟩
        obtain ⟨w13, hw13⟩ : ∃ x, x = w12.alloc (.cells #[.bool true, .slice A6 n6 c6] 25) := ⟨_, rfl⟩
        rw [← hw13] at hbx KJ ⊢
        replace KP : Kp _ := ⟨KP.out.below hbx KP.out.lt⟩
        replace KR : Kp _ := ⟨KR.out.below hbx KR.out.lt⟩
        replace KU : Kp _ := ⟨KU.out.below hbx KU.out.lt⟩
        replace KQ : Kp _ := ⟨KQ.out.below hbx KQ.out.lt⟩
        replace S1 : Kp _ := ⟨S1.out.next hbx (Nat.le_refl _)⟩
        replace S2 : Kp _ := ⟨S2.out.next hbx (Nat.le_refl _)⟩
        replace S3 : Kp _ := ⟨S3.out.next hbx (Nat.le_refl _)⟩
        replace S5 : Kp _ := ⟨S5.out.next hbx (Nat.le_refl _)⟩
        replace S6 : Kp _ := ⟨S6.out.next hbx (Nat.le_refl _)⟩
        replace HW : Kp _ := ⟨HW.out.trans (hbx.mono HW.out.size)⟩
        obtain ⟨GJ, hG⟩ : ∃ g, g = w12.heap.size := ⟨_, rfl⟩
        rw [← hG] at KJ ⊢
        clear hG hbx hw13
        have cKQ0 : w13.cell? ⟨GQ, 0, none⟩ = some (.bool true) := KQ.out.cell? 0
        have cKQ1 : w13.cell? ⟨GQ, 1, none⟩ = some (.slice A5 n5 c5) := KQ.out.cell? 1
        have cKJ0 : w13.cell? ⟨GJ, 0, none⟩ = some (.bool true) := KJ.out.cell? 0
        have cKJ1 : w13.cell? ⟨GJ, 1, none⟩ = some (.slice A6 n6 c6) := KJ.out.cell? 1
        go_wp2_with fail
        refine (samePt_any true true A6 A5 n6 c6 n5 c5 ms ms _ _ _ S6.out S5.out (Nat.le_refl _) (Nat.le_refl _)).mono ?_
        rintro e w14 ⟨rfl, hb'⟩
        replace KP : Kp _ := ⟨KP.out.below hb' KP.out.lt⟩
        replace KR : Kp _ := ⟨KR.out.below hb' KR.out.lt⟩
        replace KU : Kp _ := ⟨KU.out.below hb' KU.out.lt⟩
        replace KQ : Kp _ := ⟨KQ.out.below hb' KQ.out.lt⟩
        replace KJ : Kp _ := ⟨KJ.out.below hb' KJ.out.lt⟩
        replace S1 : Kp _ := ⟨S1.out.next hb' (Nat.le_refl _)⟩
        replace S2 : Kp _ := ⟨S2.out.next hb' (Nat.le_refl _)⟩
        replace S3 : Kp _ := ⟨S3.out.next hb' (Nat.le_refl _)⟩
        replace S5 : Kp _ := ⟨S5.out.next hb' (Nat.le_refl _)⟩
        replace S6 : Kp _ := ⟨S6.out.next hb' (Nat.le_refl _)⟩
        replace HW : Kp _ := ⟨HW.out.trans (hb'.mono HW.out.size)⟩
        rw [same_self]
        clear hb'
        clear cKQ0 cKQ1 cKJ0 cKJ1
        go_wp2_with fail
        refine (known15_any _).mono ?_
        rintro e w15 ⟨rfl, hb'⟩
        replace KP : Kp _ := ⟨KP.out.below hb' KP.out.lt⟩
        replace KR : Kp _ := ⟨KR.out.below hb' KR.out.lt⟩
        replace KU : Kp _ := ⟨KU.out.below hb' KU.out.lt⟩
        replace KQ : Kp _ := ⟨KQ.out.below hb' KQ.out.lt⟩
        replace KJ : Kp _ := ⟨KJ.out.below hb' KJ.out.lt⟩
        replace S1 : Kp _ := ⟨S1.out.next hb' (Nat.le_refl _)⟩
        replace S2 : Kp _ := ⟨S2.out.next hb' (Nat.le_refl _)⟩
        replace S3 : Kp _ := ⟨S3.out.next hb' (Nat.le_refl _)⟩
        replace S5 : Kp _ := ⟨S5.out.next hb' (Nat.le_refl _)⟩
        replace S6 : Kp _ := ⟨S6.out.next hb' (Nat.le_refl _)⟩
        replace HW : Kp _ := ⟨HW.out.trans (hb'.mono HW.out.size)⟩
        clear hb'
        go_wp2
        go_ret
        exact ⟨rfl, HW.out⟩
      | false =>
        go_wp2_with fail
        refine (HP5.out _).mono ?_
        rintro e w10 ⟨A5, n5, c5, rfl, hs5, hb'⟩
        replace KP : Kp _ := ⟨KP.out.below hb' KP.out.lt⟩
        replace KR : Kp _ := ⟨KR.out.below hb' KR.out.lt⟩
        replace KU : Kp _ := ⟨KU.out.below hb' KU.out.lt⟩
        replace S1 : Kp _ := ⟨S1.out.next hb' (Nat.le_refl _)⟩
        replace S2 : Kp _ := ⟨S2.out.next hb' (Nat.le_refl _)⟩
        replace S3 : Kp _ := ⟨S3.out.next hb' (Nat.le_refl _)⟩
        replace HW : Kp _ := ⟨HW.out.trans (hb'.mono HW.out.size)⟩
        have S5 : Kp _ := ⟨hs5⟩
        clear hs5
        clear hb'
        go_upto_region 11 with fail
        have hbx : Below w10.heap.size w10 (w10.alloc (.cells #[.bool false, .slice A5 n5 c5] 25)) := (Below.refl _ _).alloc (Nat.le_refl _) _
        have KQ : Kp _ := ⟨Blk.new w10 25 [.bool false, .slice A5 n5 c5]⟩
        obtain ⟨w11, hw11⟩ : ∃ x, x = w10.alloc (.cells #[.bool false, .slice A5 n5 c5] 25) := ⟨_, rfl⟩
        rw [← hw11] at hbx KQ ⊢
        replace KP : Kp _ := ⟨KP.out.below hbx KP.out.lt⟩
        replace KR : Kp _ := ⟨KR.out.below hbx KR.out.lt⟩
        replace KU : Kp _ := ⟨KU.out.below hbx KU.out.lt⟩
        replace S1 : Kp _ := ⟨S1.out.next hbx (Nat.le_refl _)⟩
        replace S2 : Kp _ := ⟨S2.out.next hbx (Nat.le_refl _)⟩
        replace S3 : Kp _ := ⟨S3.out.next hbx (Nat.le_refl _)⟩
        replace S5 : Kp _ := ⟨S5.out.next hbx (Nat.le_refl _)⟩
        replace HW : Kp _ := ⟨HW.out.trans (hbx.mono HW.out.size)⟩
        obtain ⟨GQ, hG⟩ : ∃ g, g = w10.heap.size := ⟨_, rfl⟩
        rw [← hG] at KQ ⊢
        clear hG hbx hw11
        have cKP0 : w11.cell? ⟨GP, 0, none⟩ = some (.bool b) := KP.out.cell? 0
        have cKP1 : w11.cell? ⟨GP, 1, none⟩ = some (.slice A1 n1 c1) := KP.out.cell? 1
        have cKQ0 : w11.cell? ⟨GQ, 0, none⟩ = some (.bool false) := KQ.out.cell? 0
        have cKQ1 : w11.cell? ⟨GQ, 1, none⟩ = some (.slice A5 n5 c5) := KQ.out.cell? 1
        go_wp2_with fail
        refine (joinPt_any b false A1 A5 n1 c1 n5 c5 ns ms _ _ _ S1.out S5.out (Nat.le_refl _) (Nat.le_refl _) (by have h1 := S1.out.len; have h2 := S5.out.len; have := HLn.out; omega)).mono ?_
        rintro e w12 ⟨A6, n6, c6, rfl, hs6, hb'⟩
        replace KP : Kp _ := ⟨KP.out.below hb' KP.out.lt⟩
        replace KR : Kp _ := ⟨KR.out.below hb' KR.out.lt⟩
        replace KU : Kp _ := ⟨KU.out.below hb' KU.out.lt⟩
        replace KQ : Kp _ := ⟨KQ.out.below hb' KQ.out.lt⟩
        replace S1 : Kp _ := ⟨S1.out.next hb' (Nat.le_refl _)⟩
        replace S2 : Kp _ := ⟨S2.out.next hb' (Nat.le_refl _)⟩
        replace S3 : Kp _ := ⟨S3.out.next hb' (Nat.le_refl _)⟩
        replace S5 : Kp _ := ⟨S5.out.next hb' (Nat.le_refl _)⟩
        replace HW : Kp _ := ⟨HW.out.trans (hb'.mono HW.out.size)⟩
        have S6 : Kp _ := ⟨hs6⟩
        clear hs6
        rw [Bool.false_or]
        clear hb'
        clear cKP0 cKP1 cKQ0 cKQ1
        go_upto_region 14 with fail
        have hbx : Below w12.heap.size w12 (w12.alloc (.cells #[.bool b, .slice A6 n6 c6] 25)) := (Below.refl _ _).alloc (Nat.le_refl _) _
        have KJ : Kp _ := ⟨Blk.new w12 25 [.bool b, .slice A6 n6 c6]⟩
        obtain ⟨w13, hw13⟩ : ∃ x, x = w12.alloc (.cells #[.bool b, .slice A6 n6 c6] 25) := ⟨_, rfl⟩
        rw [← hw13] at hbx KJ ⊢
        replace KP : Kp _ := ⟨KP.out.below hbx KP.out.lt⟩
        replace KR : Kp _ := ⟨KR.out.below hbx KR.out.lt⟩
        replace KU : Kp _ := ⟨KU.out.below hbx KU.out.lt⟩
        replace KQ : Kp _ := ⟨KQ.out.below hbx KQ.out.lt⟩
        replace S1 : Kp _ := ⟨S1.out.next hbx (Nat.le_refl _)⟩
        replace S2 : Kp _ := ⟨S2.out.next hbx (Nat.le_refl _)⟩
        replace S3 : Kp _ := ⟨S3.out.next hbx (Nat.le_refl _)⟩
        replace S5 : Kp _ := ⟨S5.out.next hbx (Nat.le_refl _)⟩
        replace S6 : Kp _ := ⟨S6.out.next hbx (Nat.le_refl _)⟩
        replace HW : Kp _ := ⟨HW.out.trans (hbx.mono HW.out.size)⟩
        obtain ⟨GJ, hG⟩ : ∃ g, g = w12.heap.size := ⟨_, rfl⟩
        rw [← hG] at KJ ⊢
        clear hG hbx hw13
        have cKQ0 : w13.cell? ⟨GQ, 0, none⟩ = some (.bool false) := KQ.out.cell? 0
        have cKQ1 : w13.cell? ⟨GQ, 1, none⟩ = some (.slice A5 n5 c5) := KQ.out.cell? 1
        go_wp2_with fail
        try rw [happ2]
        refine (HP6.out _).mono ?_
        rintro e w14 ⟨A7, n7, c7, rfl, hs7, hb'⟩
        replace KP : Kp _ := ⟨KP.out.below hb' KP.out.lt⟩
        replace KR : Kp _ := ⟨KR.out.below hb' KR.out.lt⟩
        replace KU : Kp _ := ⟨KU.out.below hb' KU.out.lt⟩
        replace KQ : Kp _ := ⟨KQ.out.below hb' KQ.out.lt⟩
        replace KJ : Kp _ := ⟨KJ.out.below hb' KJ.out.lt⟩
        replace S1 : Kp _ := ⟨S1.out.next hb' (Nat.le_refl _)⟩
        replace S2 : Kp _ := ⟨S2.out.next hb' (Nat.le_refl _)⟩
        replace S3 : Kp _ := ⟨S3.out.next hb' (Nat.le_refl _)⟩
        replace S5 : Kp _ := ⟨S5.out.next hb' (Nat.le_refl _)⟩
        replace S6 : Kp _ := ⟨S6.out.next hb' (Nat.le_refl _)⟩
        replace HW : Kp _ := ⟨HW.out.trans (hb'.mono HW.out.size)⟩
        have S7 : Kp _ := ⟨hs7⟩
        clear hs7
        clear hb'
        clear cKQ0 cKQ1
        go_upto_region 17 with fail
        have hbx : Below w14.heap.size w14 (w14.alloc (.cells #[.bool b, .slice A7 n7 c7] 25)) := (Below.refl _ _).alloc (Nat.le_refl _) _
        have KK : Kp _ := ⟨Blk.new w14 25 [.bool b, .slice A7 n7 c7]⟩
        obtain ⟨w15, hw15⟩ : ∃ x, x = w14.alloc (.cells #[.bool b, .slice A7 n7 c7] 25) := ⟨_, rfl⟩
        rw [← hw15] at hbx KK ⊢
        replace KP : Kp _ := ⟨KP.out.below hbx KP.out.lt⟩
        replace KR : Kp _ := ⟨KR.out.below hbx KR.out.lt⟩
        replace KU : Kp _ := ⟨KU.out.below hbx KU.out.lt⟩
        replace KQ : Kp _ := ⟨KQ.out.below hbx KQ.out.lt⟩
        replace KJ : Kp _ := ⟨KJ.out.below hbx KJ.out.lt⟩
        replace S1 : Kp _ := ⟨S1.out.next hbx (Nat.le_refl _)⟩
        replace S2 : Kp _ := ⟨S2.out.next hbx (Nat.le_refl _)⟩
        replace S3 : Kp _ := ⟨S3.out.next hbx (Nat.le_refl _)⟩
        replace S5 : Kp _ := ⟨S5.out.next hbx (Nat.le_refl _)⟩
        replace S6 : Kp _ := ⟨S6.out.next hbx (Nat.le_refl _)⟩
        replace S7 : Kp _ := ⟨S7.out.next hbx (Nat.le_refl _)⟩
        replace HW : Kp _ := ⟨HW.out.trans (hbx.mono HW.out.size)⟩
        obtain ⟨GK, hG⟩ : ∃ g, g = w14.heap.size := ⟨_, rfl⟩
        rw [← hG] at KK ⊢
        clear hG hbx hw15
        have cKJ0 : w15.cell? ⟨GJ, 0, none⟩ = some (.bool b) := KJ.out.cell? 0
        have cKJ1 : w15.cell? ⟨GJ, 1, none⟩ = some (.slice A6 n6 c6) := KJ.out.cell? 1
        have cKK0 : w15.cell? ⟨GK, 0, none⟩ = some (.bool b) := KK.out.cell? 0
        have cKK1 : w15.cell? ⟨GK, 1, none⟩ = some (.slice A7 n7 c7) := KK.out.cell? 1
        go_wp2_with fail
        refine (samePt_any b b A6 A7 n6 c6 n7 c7 (ns ++ ms) (ns ++ ms) _ _ _ S6.out S7.out (Nat.le_refl _) (Nat.le_refl _)).mono ?_
        rintro e w16 ⟨rfl, hb'⟩
        replace KP : Kp _ := ⟨KP.out.below hb' KP.out.lt⟩
        replace KR : Kp _ := ⟨KR.out.below hb' KR.out.lt⟩
        replace KU : Kp _ := ⟨KU.out.below hb' KU.out.lt⟩
        replace KQ : Kp _ := ⟨KQ.out.below hb' KQ.out.lt⟩
        replace KJ : Kp _ := ⟨KJ.out.below hb' KJ.out.lt⟩
        replace KK : Kp _ := ⟨KK.out.below hb' KK.out.lt⟩
        replace S1 : Kp _ := ⟨S1.out.next hb' (Nat.le_refl _)⟩
        replace S2 : Kp _ := ⟨S2.out.next hb' (Nat.le_refl _)⟩
        replace S3 : Kp _ := ⟨S3.out.next hb' (Nat.le_refl _)⟩
        replace S5 : Kp _ := ⟨S5.out.next hb' (Nat.le_refl _)⟩
        replace S6 : Kp _ := ⟨S6.out.next hb' (Nat.le_refl _)⟩
        replace S7 : Kp _ := ⟨S7.out.next hb' (Nat.le_refl _)⟩
        replace HW : Kp _ := ⟨HW.out.trans (hb'.mono HW.out.size)⟩
        rw [same_self]
        clear hb'
        clear cKJ0 cKJ1 cKK0 cKK1
        go_wp2_with fail
        refine (known15_any _).mono ?_
        rintro e w17 ⟨rfl, hb'⟩
        replace KP : Kp _ := ⟨KP.out.below hb' KP.out.lt⟩
        replace KR : Kp _ := ⟨KR.out.below hb' KR.out.lt⟩
        replace KU : Kp _ := ⟨KU.out.below hb' KU.out.lt⟩
        replace KQ : Kp _ := ⟨KQ.out.below hb' KQ.out.lt⟩
        replace KJ : Kp _ := ⟨KJ.out.below hb' KJ.out.lt⟩
        replace KK : Kp _ := ⟨KK.out.below hb' KK.out.lt⟩
        replace S1 : Kp _ := ⟨S1.out.next hb' (Nat.le_refl _)⟩
        replace S2 : Kp _ := ⟨S2.out.next hb' (Nat.le_refl _)⟩
        replace S3 : Kp _ := ⟨S3.out.next hb' (Nat.le_refl _)⟩
        replace S5 : Kp _ := ⟨S5.out.next hb' (Nat.le_refl _)⟩
        replace S6 : Kp _ := ⟨S6.out.next hb' (Nat.le_refl _)⟩
        replace S7 : Kp _ := ⟨S7.out.next hb' (Nat.le_refl _)⟩
        replace HW : Kp _ := ⟨HW.out.trans (hb'.mono HW.out.size)⟩
        clear hb'
        go_wp2
        go_ret
        exact ⟨rfl, HW.out⟩
end
end Go.Proofs.YtaedlaeflliibaaDoor
