/- The walk of SumItems.
   Rows of things cut in two, turned round, and read one by one: for the law of orders. -/
import Derived.Test.YtjllfaeamjadcaaG12
namespace Go.Proofs.Ytjllfaeamjadcaa
open Go.RowKit

theorem its_one (W : World) (t : TypeId) {z : Int} {A : Option Addr} {n c B : Nat} {l : List UInt8} (hz : (Lit.int .i64 z).wf = true) (hb : Bs W B A n c l) (hB : B ≤ W.heap.size) :
    Its (W.alloc (.cells #[.int .i64 z, .slice A n c] t)) (W.alloc (.cells #[.int .i64 z, .slice A n c] t)).heap.size (some ⟨W.heap.size, 0, none⟩) 1 1 [(z, l)] := by
  refine ⟨rfl, Nat.le_refl _, by simp [maxLen], (fun h => by cases h), (fun x hx => by simp at hx; rw [hx]; exact hz), fun _ => ⟨W.heap.size, 0, rfl, by simp, fun j hj => ?_⟩⟩
  obtain rfl : j = 0 := by simp at hj; omega
  refine ⟨A, n, c, ?_, ?_, (hb.alloc hB _).more (by simp; omega)⟩
  · rw [World.cell?_alloc_at _ _ _ _ rfl]; rfl
  · rw [World.cell?_alloc_at _ _ _ _ rfl]; rfl
theorem its_two (W : World) (t : TypeId) {z : Int} {A : Option Addr} {n c B : Nat} {l : List UInt8} (hz : (Lit.int .i64 z).wf = true) (hb : Bs W B A n c l) (hB : B ≤ W.heap.size) :
    Its (W.alloc (.cells #[.int .i64 z, .slice A n c, .int .i64 z, .slice A n c] t)) (W.alloc (.cells #[.int .i64 z, .slice A n c, .int .i64 z, .slice A n c] t)).heap.size (some ⟨W.heap.size, 0, none⟩) 2 2 [(z, l), (z, l)] := by
  refine ⟨rfl, Nat.le_refl _, by simp [maxLen], (fun h => by cases h), (fun x hx => by simp at hx; rw [hx]; exact hz), fun _ => ⟨W.heap.size, 0, rfl, by simp, fun j hj => ?_⟩⟩
  have hj2 : j = 0 ∨ j = 1 := by simp at hj; omega
  rcases hj2 with rfl | rfl
  · refine ⟨A, n, c, ?_, ?_, (hb.alloc hB _).more (by simp; omega)⟩
    · rw [World.cell?_alloc_at _ _ _ _ rfl]; rfl
    · rw [World.cell?_alloc_at _ _ _ _ rfl]; rfl
  · refine ⟨A, n, c, ?_, ?_, (hb.alloc hB _).more (by simp; omega)⟩
    · rw [World.cell?_alloc_at _ _ _ _ rfl]; rfl
    · rw [World.cell?_alloc_at _ _ _ _ rfl]; rfl
/-- a thing and 32 bytes in memory, and what was there ahead -/
structure KeepI (gI gd : Nat) (tI tD : TypeId) (cI cD : List Value) (wb W : World) : Prop where
  a : Blk W gI tI cI
  d : Blk W gd tD cD
  below : Below wb.heap.size wb W
theorem KeepI.next {gI gd : Nat} {tI tD : TypeId} {cI cD : List Value} {wb W W' : World} (h : KeepI gI gd tI tD cI cD wb W) (hb : Below W.heap.size W W') : KeepI gI gd tI tD cI cD wb W' := ⟨h.a.below hb h.a.lt, h.d.below hb h.d.lt, h.below.trans (hb.mono h.below.size)⟩
theorem KeepI.drew {gI gd : Nat} {tI tD : TypeId} {cI cD : List Value} {wb W : World} (h : KeepI gI gd tI tD cI cD wb W) : KeepI gI gd tI tD cI cD wb W.drew := ⟨h.a.drew, h.d.drew, h.below.drew⟩
theorem allL_two (key : List UInt8) (z : Int) (b : List UInt8) : allL key [(z, b), (z, b)] = addL (ofL key z b) (ofL key z b) := by
  rw [show [(z, b), (z, b)] = [(z, b)] ++ [(z, b)] from rfl, allL_append, allL_one]
set_option maxRecDepth 100000 in
set_option maxHeartbeats 4000000 in
theorem law_sumItems (K : Option Addr) (n c : Nat) (key : List UInt8) (I : Option Addr) (p q : Nat) (its : List (Int × List UInt8)) (z : Int) (B : Option Addr) (m d : Nat) (b : List UInt8) (w : World) (hk : Bs w w.heap.size K n c key ∧ c ≤ 140737488351232) (hi : Its w w.heap.size I p q its ∧ ∀ x ∈ its, x.2.length ≤ 140737488351232) (hz : (Lit.int .i64 z).wf = true) (hb : Bs w w.heap.size B m d b) (_hl : b.length ≤ 140737488351232) :
    Calls Try.prog 7 #[.slice K n c, .slice I p q, .agg #[.int .i64 z, .slice B m d]] w fun e w' => e = .returned (.bool true) ∧ Below w.heap.size w w' := by
  have HK0 : Kp _ := ⟨hk.1⟩
  have HB0 : Kp _ := ⟨hb⟩
  have HI0 : Kp _ := ⟨hi.1⟩
  have HM : Kp _ := ⟨hi.2⟩
  have HZi : Kp _ := ⟨hz⟩
  have hn63 := hk.1.le
  have hm63 := hb.le
  have hp63 := hi.1.le
  clear hk hb hi hz
  obtain ⟨X, hX⟩ : ∃ x, x = ofL key z b := ⟨_, rfl⟩
  have HXl : Kp (X.length = 32) := ⟨by rw [hX]; exact ofL_length _ _ _⟩
  have HLX : Kp ((cells8 X).length = 32) := ⟨by rw [cells8_length]; exact HXl.out⟩
  obtain ⟨Y, hY⟩ : ∃ x, x = allL key its := ⟨_, rfl⟩
  have HYl : Kp (Y.length = 32) := ⟨by rw [hY]; exact allL_length _ _⟩
  have HLY : Kp ((cells8 Y).length = 32) := ⟨by rw [cells8_length]; exact HYl.out⟩
  obtain ⟨O, hO⟩ : ∃ x, x = addL Y X := ⟨_, rfl⟩
  have HOl : Kp (O.length = 32) := ⟨by rw [hO]; exact addL_length _ _⟩
  have HLO : Kp ((cells8 O).length = 32) := ⟨by rw [cells8_length]; exact HOl.out⟩
  obtain ⟨D, hD⟩ : ∃ x, x = addL X X := ⟨_, rfl⟩
  have HDl : Kp (D.length = 32) := ⟨by rw [hD]; exact addL_length _ _⟩
  have HLD : Kp ((cells8 D).length = 32) := ⟨by rw [cells8_length]; exact HDl.out⟩
  obtain ⟨Z, hZ⟩ : ∃ x, x = z32 := ⟨_, rfl⟩
  have HZl : Kp (Z.length = 32) := ⟨by rw [hZ]; exact z32_length⟩
  have HLZ : Kp ((cells8 Z).length = 32) := ⟨by rw [cells8_length]; exact HZl.out⟩
  have S1 : Kp (∀ W, Calls Try.prog 10 #[.agg (cells8 Y).toArray, .agg (cells8 X).toArray] W fun e w' => e = .returned (.agg (cells8 O).toArray) ∧ Below W.heap.size W w') := ⟨fun W => by
    have h := sadd_any Y X W HYl.out HXl.out
    rw [show addL Y X = O by exact hO.symm] at h; exact h⟩
  have S2 : Kp (∀ W, Calls Try.prog 10 #[.agg (cells8 X).toArray, .agg (cells8 X).toArray] W fun e w' => e = .returned (.agg (cells8 D).toArray) ∧ Below W.heap.size W w') := ⟨fun W => by
    have h := sadd_any X X W HXl.out HXl.out
    rw [show addL X X = D by exact hD.symm] at h; exact h⟩
  have HB9 : Kp ((Try.prog).built 23 [] = some (cells8 Z).toArray) := ⟨by rw [hZ]; exact dig_built0⟩
  go_enter Try.func7, Try.ntmps7
  go_wp2_with (with_reducible refine wpList_box (o := ⟨some 5, _, _, _, _, _⟩) (cs := [.int .i64 z, .slice B m d]) rfl (.tmp 2) rfl rfl ?_)
  intro w0 hk0 hb0 hs0
  have HG0 : Kp _ := ⟨hk0⟩
  have HK : Kp _ := ⟨HK0.out.next hb0 (Nat.le_refl _)⟩
  have HB : Kp _ := ⟨HB0.out.next hb0 (Nat.le_refl _)⟩
  have HI : Kp _ := ⟨HI0.out.next hb0 (Nat.le_refl _)⟩
  have hc0 : w0.cell? ⟨w.heap.size, 0, none⟩ = some (.int .i64 z) := by rw [hk0.cell?]; rfl
  have hc1 : w0.cell? ⟨w.heap.size, 1, none⟩ = some (.slice B m d) := by rw [hk0.cell?]; rfl
  clear hk0 hs0 HK0 HB0 HI0
  by_cases h1 : (100 : Int) < n
  · go_wp2_with fail
    refine (known5_any _).mono ?_
    rintro e wz ⟨rfl, hz⟩
    go_wp2
    go_ret
    exact ⟨rfl, hb0.trans (hz.mono hb0.size)⟩
  have dh1 := decide_eq_false h1
  by_cases h3 : (20 : Int) < p
  · go_wp2_with fail
    refine (known5_any _).mono ?_
    rintro e wz ⟨rfl, hz⟩
    go_wp2
    go_ret
    exact ⟨rfl, hb0.trans (hz.mono hb0.size)⟩
  have dh3 := decide_eq_false h3
  obtain ⟨s, hs⟩ : ∃ s, s = longN its := ⟨_, rfl⟩
  have hs63 : s ≤ 3000000000000000 := by
    have h := longN_le its 140737488351232 HM.out its.length (Nat.le_refl _)
    rw [List.take_length, HI.out.len] at h
    rw [hs]
    exact Nat.le_trans h (by omega)
  have CL := reflong_any I p q its w0 w0.heap.size HI.out (by omega) HM.out
  rw [← hs] at CL
  have HCL : Kp _ := ⟨CL⟩
  clear CL
  go_wp2_with fail
  refine HCL.out.mono ?_
  rintro e w0 ⟨rfl, rfl⟩
  by_cases h4 : (500 : Int) < s
  · go_wp2_with fail
    refine (known5_any _).mono ?_
    rintro e wz ⟨rfl, hz⟩
    go_wp2
    go_ret
    exact ⟨rfl, hb0.trans (hz.mono hb0.size)⟩
  have dh4 := decide_eq_false h4
  by_cases h2 : (200 : Int) < m
  · go_wp2_with fail
    refine (known5_any _).mono ?_
    rintro e wz ⟨rfl, hz⟩
    go_wp2
    go_ret
    exact ⟨rfl, hb0.trans (hz.mono hb0.size)⟩
  have dh2 := decide_eq_false h2
  have HMs : Kp (∀ x ∈ its, x.2.length ≤ 523000) := ⟨fun x hx => by have h := longN_mem its x hx; omega⟩
  have HMb : Kp (b.length ≤ 523000) := ⟨by rw [HB.out.len]; omega⟩
  have hn3 : n ≤ 524288 := by omega
  have hm3 : m ≤ 523000 := by omega
  have hp3 : p ≤ 20 := by omega
  have CA : Kp (∀ W A k e its', Below w0.heap.size w0 W → Its W W.heap.size A k e its' → k ≤ 100 → (∀ x ∈ its', x.2.length ≤ 523000) → Calls Try.prog 20 #[.slice K n c, .slice A k e] W fun e w' => e = .returned (.agg (cells8 (allL key its')).toArray) ∧ Below W.heap.size W w') := ⟨fun W A k e its' hW h1 h2 h3 => all_any K n c key A k e its' W (HK.out.next hW (Nat.le_refl _)) h1 (by omega) hn3 h3⟩
  have HE0 : Kp (allL key [] = Z) := ⟨by rw [allL_nil, hZ]⟩
  have HE1 : Kp (allL key (its ++ [(z, b)]) = O) := ⟨by rw [allL_append, allL_one, hO, hY, hX]⟩
  have HE2 : Kp (allL key [(z, b)] = X) := ⟨by rw [allL_one, hX]⟩
  have HE3 : Kp (allL key [(z, b), (z, b)] = D) := ⟨by rw [allL_two, hD, hX]⟩
  have HY : Kp (allL key its = Y) := ⟨hY.symm⟩
  have HO : Kp (∀ W, Below w0.heap.size w0 W → Calls Try.prog 18 #[.slice K n c, .int .i64 z, .slice B m d] W fun e w' => e = .returned (.agg (cells8 X).toArray) ∧ Below W.heap.size W w') := ⟨fun W hW => by
    have h := of_any K n c key z B m d b W (HK.out.next hW (Nat.le_refl _)) (HB.out.next hW (Nat.le_refl _)) hn3 hm3
    rw [← hX] at h; exact h⟩
  have HZz : Kp (zero32.length = 32) := ⟨rfl⟩
  obtain ⟨i, hi, hi0, hi2, hi32⟩ := item_info
  have HMone : Kp (∀ x ∈ [(z, b)], x.2.length ≤ 523000) := ⟨fun x hx => by simp at hx; rw [hx]; exact HMb.out⟩
  have HMtwo : Kp (∀ x ∈ [(z, b), (z, b)], x.2.length ≤ 523000) := ⟨fun x hx => by simp at hx; rw [hx]; exact HMb.out⟩
  clear hX hY hO hD hs hZ
  go_wp2_with fail
  refine (HO.out _ (Below.refl _ _)).mono ?_
  rintro e x1 ⟨rfl, hc⟩
  go_wp2_with (with_reducible refine wpList_alloc (o := ⟨some 7, _, _, _, _, _⟩) tyDig rfl rfl ?_)
  intro x2 hk2 hb2 hs2
  have HG0 : Kp _ := ⟨hk2⟩
  have hbb := hc.trans (hb2.mono hc.size)
  have hsz := hc.size
  obtain ⟨ga, hg0⟩ : ∃ g, g = x1.heap.size := ⟨_, rfl⟩
  have hgega : w0.heap.size ≤ ga := by rw [hg0]; exact hsz
  rw [← hg0] at HG0 ⊢
  clear hk2 hb2 hs2 hc hg0 hsz
  go_wp2_with (refine wpList_storeAll (o := ⟨none, _, _, _, _, _⟩) (vs := cells8 X) rwDig rfl (.tmp 7) (.tmp 34) rfl rfl HG0.out HZz.out HLX.out (cells8_one _) rfl ?_)
  intro x3 hk3 ho3
  have Hga : Kp _ := ⟨hk3⟩
  have hlga : ga < x3.heap.size := hk3.lt
  have hBx : Below w0.heap.size w0 x3 := hbb.trans (ho3.below hgega)
  clear hk3 ho3 HG0 hbb
  have HG3 : Kp _ := ⟨HG0.out.below hBx HG0.out.lt⟩
  have hc0' : x3.cell? ⟨w.heap.size, 0, none⟩ = some (.int .i64 z) := by rw [HG3.out.cell?]; rfl
  have hc1' : x3.cell? ⟨w.heap.size, 1, none⟩ = some (.slice B m d) := by rw [HG3.out.cell?]; rfl
  have hgI0 : w.heap.size < w0.heap.size := HG0.out.lt
  clear hc0 hc1 HG0
  obtain ⟨M, hM, hsrc⟩ := (HI.out.below hBx).heads
  have HM1 : Kp _ := ⟨hM⟩
  have hMl : M.length = p := by rw [hM.len]; exact HI.out.len
  have HS1 : Kp _ := ⟨hsrc⟩
  have hnilI : I = none → p = 0 ∧ q = 0 := fun h => by have h1 := HI.out.nil h; have h2 := HI.out.cap; omega
  have hB0 := hBx.size
  clear hM hsrc
  go_wp2_with (at_builtin; refine wpList_appI Try.underlying28 hi hi0 hi2 hi32 rfl rfl _ _ rfl x3.heap.size _ 0 [] rfl (own2_nil _ _ _) I p q M rfl hMl hnilI HS1.out (by simp only [maxLen]; omega) (by omega) (Nat.le_refl _) ?_)
  intro v4 w4 hown4 hb4 _
  have HOwn4 := Lib.hid hown4
  have Hga4 : Kp _ := ⟨Hga.out.below hb4 hlga⟩
  have HG4 : Kp _ := ⟨HG3.out.below hb4 HG3.out.lt⟩
  have hB4 := hBx.trans (hb4.mono hB0)
  have hs4 := hb4.size
  have HM4 : Kp (Leads w4 w0.heap.size M its) := ⟨HM1.out.below (hb4.mono hB0)⟩
  have hc0 : w4.cell? ⟨w.heap.size, 0, none⟩ = some (.int .i64 z) := by rw [HG4.out.cell?]; rfl
  have hc1 : w4.cell? ⟨w.heap.size, 1, none⟩ = some (.slice B m d) := by rw [HG4.out.cell?]; rfl
  clear hown4 Hga HM1 hb4 HS1 hc0' hc1' HG3
  go_wp2_with (at_builtin; refine wpList_appI Try.underlying28 hi hi0 hi2 hi32 rfl rfl _ _ rfl x3.heap.size v4 p M rfl (own2_below HOwn4.out ((Below.refl _ w4).alloc (Nat.le_refl _) _)) (some ⟨w4.heap.size, 0, none⟩) 1 1 [(z, B, m, d)] rfl rfl (fun h => by cases h) (two_cells w4 _ z B m d) (by simp only [maxLen]; omega) (by omega) (by simp; omega) ?_)
  intro v5 w5 hown5 hb5' _
  have hb5 : Below x3.heap.size w4 w5 := ((Below.refl _ w4).alloc hs4 _).trans hb5'
  have hB5 := hB4.trans (hb5.mono hB0)
  have Hga5 : Kp _ := ⟨Hga4.out.below hb5 hlga⟩
  have HG5 : Kp _ := ⟨HG4.out.below hb5 (by omega)⟩
  have HM5 : Kp (Leads w5 w0.heap.size (M ++ [(z, B, m, d)]) (its ++ [(z, b)])) := ⟨(HM4.out.below (hb5.mono hB0)).append (Leads.one HZi.out (HB.out.below hB5))⟩
  have hs5 : x3.heap.size ≤ w5.heap.size := Nat.le_trans hs4 hb5.size
  obtain ⟨A5, c5, rfl, hI5⟩ := Its.of_own hown5 HM5.out hB5.size
  have HI5 : Kp _ := ⟨hI5⟩
  have HMs5 : Kp (∀ x ∈ its ++ [(z, b)], x.2.length ≤ 523000) := ⟨fun x hx => by
    rcases List.mem_append.1 hx with hx | hx
    · exact HMs.out x hx
    · exact HMone.out x hx⟩
  have hT : KeepI w.heap.size ga 35 23 [.int .i64 z, .slice B m d] (cells8 X) w5 w5 := ⟨HG5.out, Hga5.out, Below.refl _ _⟩
  have hBase : ∀ {W : World}, Below w5.heap.size w5 W → Below w0.heap.size w0 W := fun h => hB5.trans (h.mono hB5.size)
  have HBase : Kp (∀ {W : World}, Below w5.heap.size w5 W → Below w0.heap.size w0 W) := ⟨hBase⟩
  have hB5' : Kp (Below w0.heap.size w0 w5) := ⟨hB5⟩
  have C0 : Kp (∀ W, Below w5.heap.size w5 W → Calls Try.prog 20 #[.slice K n c, .slice none 0 0] W fun e w' => e = .returned (.agg (cells8 Z).toArray) ∧ Below W.heap.size W w') := ⟨fun W hW => by
    have h := CA.out W none 0 0 [] (HBase.out hW) ⟨rfl, Nat.le_refl _, Nat.zero_le _, fun _ => rfl, (fun x hx => by cases hx), fun h => absurd h (by omega)⟩ (by omega) (fun x hx => by cases hx)
    rw [HE0.out] at h; exact h⟩
  have C1 : Kp (∀ W, Below w5.heap.size w5 W → Calls Try.prog 20 #[.slice K n c, .slice A5 (p + 1) c5] W fun e w' => e = .returned (.agg (cells8 O).toArray) ∧ Below W.heap.size W w') := ⟨fun W hW => by
    have h := CA.out W A5 (p + 1) c5 _ (HBase.out hW) (HI5.out.next hW (Nat.le_refl _)) (by omega) HMs5.out
    rw [HE1.out] at h; exact h⟩
  have C2 : Kp (∀ W, Below w5.heap.size w5 W → Calls Try.prog 20 #[.slice K n c, .slice I p q] W fun e w' => e = .returned (.agg (cells8 Y).toArray) ∧ Below W.heap.size W w') := ⟨fun W hW => by
    have h := CA.out W I p q _ (HBase.out hW) (HI.out.next (HBase.out hW) (Nat.le_refl _)) (by omega) HMs.out
    rw [HY.out] at h; exact h⟩
  have C3 : Kp (∀ W, Below w5.heap.size w5 W → Calls Try.prog 20 #[.slice K n c, .slice (some ⟨W.heap.size, 0, none⟩) 1 1] (W.alloc (.cells #[.int .i64 z, .slice B m d] 35)) fun e w' => e = .returned (.agg (cells8 X).toArray) ∧ Below (W.alloc (.cells #[.int .i64 z, .slice B m d] 35)).heap.size (W.alloc (.cells #[.int .i64 z, .slice B m d] 35)) w') := ⟨fun W hW => by
    have hW0 := HBase.out hW
    have h := CA.out (W.alloc (.cells #[.int .i64 z, .slice B m d] 35)) (some ⟨W.heap.size, 0, none⟩) 1 1 [(z, b)] (hW0.trans ((Below.refl _ W).alloc hW0.size _)) (its_one W _ HZi.out (HB.out.below hW0) hW0.size) (by omega) HMone.out
    rw [HE2.out] at h; exact h⟩
  have C4 : Kp (∀ W, Below w5.heap.size w5 W → Calls Try.prog 20 #[.slice K n c, .slice (some ⟨W.heap.size, 0, none⟩) 2 2] (W.alloc (.cells #[.int .i64 z, .slice B m d, .int .i64 z, .slice B m d] 35)) fun e w' => e = .returned (.agg (cells8 D).toArray) ∧ Below (W.alloc (.cells #[.int .i64 z, .slice B m d, .int .i64 z, .slice B m d] 35)).heap.size (W.alloc (.cells #[.int .i64 z, .slice B m d, .int .i64 z, .slice B m d] 35)) w') := ⟨fun W hW => by
    have hW0 := HBase.out hW
    have h := CA.out (W.alloc (.cells #[.int .i64 z, .slice B m d, .int .i64 z, .slice B m d] 35)) (some ⟨W.heap.size, 0, none⟩) 2 2 [(z, b), (z, b)] (hW0.trans ((Below.refl _ W).alloc hW0.size _)) (its_two W _ HZi.out (HB.out.below hW0) hW0.size) (by omega) HMtwo.out
    rw [HE3.out] at h; exact h⟩
  have huI : (Try.prog).underlying 35 = _ := Try.underlying35
  have hiI : ((Try.prog).info? 35).map (·.size) = some 2 := by rw [hi]; simp [hi2]
  clear hown5 hb5' hb5 Hga4 HM4 HOwn4 hB4 hI5 HG4 HG5 Hga5 hc0 hc1 hB5 hBase
  go_wp2_with fail
  refine wp_region_held_drew (S := KeepI w.heap.size ga 35 23 [.int .i64 z, .slice B m d] (cells8 X) w5) (by kernel_rfl) (hT.drew) (fun hHeld => ?_)
  generalize w5.drew = wS at *
  refine wpAnyH_take (i := 0) (oi := ⟨some 42, _, _, _, _, _⟩) (v := ?_) rfl (by kernel_rfl) (by kernel_rfl) (by kernel_rfl) (fun _ _ _ h => h) (Or.inl ⟨by rfl, by intro w hSw; go_simp; try rfl⟩) (by assumption) ?_
  try simp only [Act.put, List.setIfInBounds_toArray, List.set_cons_zero, List.set_cons_succ]
  refine wpAnyH_take (i := 2) (oi := ⟨some 44, _, _, _, _, _⟩) (v := _) rfl (by kernel_rfl) (by kernel_rfl) (by kernel_rfl) (fun _ _ _ h => h) (yieldsIf_build0 (by rfl) rfl HB9.out) (by assumption) ?_
  try simp only [Act.put, List.setIfInBounds_toArray, List.set_cons_zero, List.set_cons_succ]
  refine wpAnyH_ready (rs := [1]) (by kernel_rfl) (by simp) ?_
  refine AllReadyH.cons (o := ⟨some 43, _, _, _, _, _⟩) rfl (fun K hK => ?_) AllReadyH.nil
  go_simp
  refine (C0.out _ hHeld.below).mono ?_
  rintro e w51 ⟨rfl, hb'⟩
  refine hK.out _ _ (hHeld.next hb') (fun hHeld2 => ?_)
  clear hb'
  clear hK K hHeld
  have hHeld := hHeld2
  clear hHeld2
  try simp only [Act.put, List.setIfInBounds_toArray, List.set_cons_zero, List.set_cons_succ]
  refine wpAnyH_take (i := 3) (oi := ⟨some 45, _, _, _, _, _⟩) (v := _) rfl (by kernel_rfl) (by kernel_rfl) (by kernel_rfl) (fun _ _ _ h => h) (yieldsIf_eql (by rfl) eqDig Try.eqGuardType23 (.tmp 43) (.tmp 44) rfl Z Z rfl rfl HZl.out HZl.out (beq_self_eq_true _)) (by assumption) ?_
  try simp only [Act.put, List.setIfInBounds_toArray, List.set_cons_zero, List.set_cons_succ]
  refine wpAnyH_take (i := 4) (oi := ⟨some 46, _, _, _, _, _⟩) (v := ?_) rfl (by kernel_rfl) (by kernel_rfl) (by kernel_rfl) (fun _ _ _ h => h) (Or.inl ⟨by rfl, by intro w hSw; go_simp; try rfl⟩) (by assumption) ?_
  try simp only [Act.put, List.setIfInBounds_toArray, List.set_cons_zero, List.set_cons_succ]
  refine wpAnyH_take (i := 5) (oi := ⟨some 47, _, _, _, _, _⟩) (v := ?_) rfl (by kernel_rfl) (by kernel_rfl) (by kernel_rfl) (fun _ _ _ h => h) (Or.inl ⟨by rfl, by intro w hSw; go_simp; try rfl⟩) (by assumption) ?_
  try simp only [Act.put, List.setIfInBounds_toArray, List.set_cons_zero, List.set_cons_succ]
  refine wpAnyH_take (i := 6) (oi := ⟨some 48, _, _, _, _, _⟩) (v := _) rfl (by kernel_rfl) (by kernel_rfl) (by kernel_rfl) (fun _ _ _ h => h) (yieldsIf_load_mid (by rfl) _ (.tmp 5) rfl _ _ rfl [.int .i64 z, .slice B m d] _ (fun W hW => hW.a.range (n := 2) rfl) huI rfl hiI) (by assumption) ?_
  try simp only [Act.put, List.setIfInBounds_toArray, List.set_cons_zero, List.set_cons_succ]
  refine wpAnyH_take (i := 9) (oi := ⟨some 51, _, _, _, _, _⟩) (v := _) rfl (by kernel_rfl) (by kernel_rfl) (by kernel_rfl) (fun _ _ _ h => h) (yieldsIf_load_mid (by rfl) _ (.tmp 7) rfl _ _ rfl (cells8 X) _ (fun W hW => hW.d.range (take_all32 HLX.out)) huD rfl (hiD X HLX.out)) (by assumption) ?_
  try simp only [Act.put, List.setIfInBounds_toArray, List.set_cons_zero, List.set_cons_succ]
  refine wpAnyH_ready (rs := [7]) (by kernel_rfl) (by simp) ?_
  refine AllReadyH.cons (o := ⟨some 49, _, _, _, _, _⟩) rfl (fun K hK => ?_) AllReadyH.nil
  have H49 : Kp _ := ⟨C3.out _ hHeld.below⟩
  go_simp
  refine hK.out _ _ (hHeld.next ((Below.refl _ _).alloc (Nat.le_refl _) _)) (fun hHeld2 => ?_)
  clear hK K hHeld
  have hHeld := hHeld2
  clear hHeld2
  try simp only [Act.put, List.setIfInBounds_toArray, List.set_cons_zero, List.set_cons_succ]
  refine wpAnyH_ready (rs := [8]) (by kernel_rfl) (by simp) ?_
  refine AllReadyH.cons (o := ⟨some 50, _, _, _, _, _⟩) rfl (fun K hK => ?_) AllReadyH.nil
  go_simp
  refine (H49.out).mono ?_
  rintro e w53 ⟨rfl, hb'⟩
  refine hK.out _ _ (hHeld.next hb') (fun hHeld2 => ?_)
  clear hb'
  clear hK K hHeld
  have hHeld := hHeld2
  clear hHeld2
  try simp only [Act.put, List.setIfInBounds_toArray, List.set_cons_zero, List.set_cons_succ]
  refine wpAnyH_take (i := 10) (oi := ⟨some 52, _, _, _, _, _⟩) (v := _) rfl (by kernel_rfl) (by kernel_rfl) (by kernel_rfl) (fun _ _ _ h => h) (yieldsIf_eql (by rfl) eqDig Try.eqGuardType23 (.tmp 50) (.tmp 51) rfl X X rfl rfl HXl.out HXl.out (beq_self_eq_true _)) (by assumption) ?_
  try simp only [Act.put, List.setIfInBounds_toArray, List.set_cons_zero, List.set_cons_succ]
  refine wpAnyH_take (i := 11) (oi := ⟨some 53, _, _, _, _, _⟩) (v := ?_) rfl (by kernel_rfl) (by kernel_rfl) (by kernel_rfl) (fun _ _ _ h => h) (Or.inl ⟨by rfl, by intro w hSw; go_simp; try rfl⟩) (by assumption) ?_
  try simp only [Act.put, List.setIfInBounds_toArray, List.set_cons_zero, List.set_cons_succ]
  refine wpAnyH_take (i := 12) (oi := ⟨some 54, _, _, _, _, _⟩) (v := ?_) rfl (by kernel_rfl) (by kernel_rfl) (by kernel_rfl) (fun _ _ _ h => h) (Or.inl ⟨by rfl, by intro w hSw; go_simp; try rfl⟩) (by assumption) ?_
  try simp only [Act.put, List.setIfInBounds_toArray, List.set_cons_zero, List.set_cons_succ]
  refine wpAnyH_take (i := 13) (oi := ⟨some 55, _, _, _, _, _⟩) (v := ?_) rfl (by kernel_rfl) (by kernel_rfl) (by kernel_rfl) (fun _ _ _ h => h) (Or.inl ⟨by rfl, by intro w hSw; go_simp; try rfl⟩) (by assumption) ?_
  try simp only [Act.put, List.setIfInBounds_toArray, List.set_cons_zero, List.set_cons_succ]
  refine wpAnyH_take (i := 14) (oi := ⟨some 56, _, _, _, _, _⟩) (v := ?_) rfl (by kernel_rfl) (by kernel_rfl) (by kernel_rfl) (fun _ _ _ h => h) (Or.inl ⟨by rfl, by intro w hSw; go_simp; try rfl⟩) (by assumption) ?_
  try simp only [Act.put, List.setIfInBounds_toArray, List.set_cons_zero, List.set_cons_succ]
  refine wpAnyH_take (i := 16) (oi := ⟨some 58, _, _, _, _, _⟩) (v := ?_) rfl (by kernel_rfl) (by kernel_rfl) (by kernel_rfl) (fun _ _ _ h => h) (Or.inl ⟨by rfl, by intro w hSw; go_simp; try rfl⟩) (by assumption) ?_
  try simp only [Act.put, List.setIfInBounds_toArray, List.set_cons_zero, List.set_cons_succ]
  refine wpAnyH_take (i := 17) (oi := ⟨some 59, _, _, _, _, _⟩) (v := ?_) rfl (by kernel_rfl) (by kernel_rfl) (by kernel_rfl) (fun _ _ _ h => h) (Or.inl ⟨by rfl, by intro w hSw; go_simp; try rfl⟩) (by assumption) ?_
  try simp only [Act.put, List.setIfInBounds_toArray, List.set_cons_zero, List.set_cons_succ]
  refine wpAnyH_take (i := 19) (oi := ⟨some 61, _, _, _, _, _⟩) (v := _) rfl (by kernel_rfl) (by kernel_rfl) (by kernel_rfl) (fun _ _ _ h => h) (yieldsIf_load_mid (by rfl) _ (.tmp 7) rfl _ _ rfl (cells8 X) _ (fun W hW => hW.d.range (take_all32 HLX.out)) huD rfl (hiD X HLX.out)) (by assumption) ?_
  try simp only [Act.put, List.setIfInBounds_toArray, List.set_cons_zero, List.set_cons_succ]
  refine wpAnyH_ready (rs := [15]) (by kernel_rfl) (by simp) ?_
  refine AllReadyH.cons (o := ⟨some 57, _, _, _, _, _⟩) rfl (fun K hK => ?_) AllReadyH.nil
  go_simp
  refine (C1.out _ hHeld.below).mono ?_
  rintro e w54 ⟨rfl, hb'⟩
  refine hK.out _ _ (hHeld.next hb') (fun hHeld2 => ?_)
  clear hb'
  clear hK K hHeld
  have hHeld := hHeld2
  clear hHeld2
  try simp only [Act.put, List.setIfInBounds_toArray, List.set_cons_zero, List.set_cons_succ]
  refine wpAnyH_ready (rs := [18]) (by kernel_rfl) (by simp) ?_
  refine AllReadyH.cons (o := ⟨some 60, _, _, _, _, _⟩) rfl (fun K hK => ?_) AllReadyH.nil
  go_simp
  refine (C2.out _ hHeld.below).mono ?_
  rintro e w55 ⟨rfl, hb'⟩
  refine hK.out _ _ (hHeld.next hb') (fun hHeld2 => ?_)
  clear hb'
  clear hK K hHeld
  have hHeld := hHeld2
  clear hHeld2
  try simp only [Act.put, List.setIfInBounds_toArray, List.set_cons_zero, List.set_cons_succ]
  refine wpAnyH_ready (rs := [20]) (by kernel_rfl) (by simp) ?_
  refine AllReadyH.cons (o := ⟨some 62, _, _, _, _, _⟩) rfl (fun K hK => ?_) AllReadyH.nil
  go_simp
  refine (S1.out _).mono ?_
  rintro e w56 ⟨rfl, hb'⟩
  refine hK.out _ _ (hHeld.next hb') (fun hHeld2 => ?_)
  clear hb'
  clear hK K hHeld
  have hHeld := hHeld2
  clear hHeld2
  try simp only [Act.put, List.setIfInBounds_toArray, List.set_cons_zero, List.set_cons_succ]
  refine wpAnyH_take (i := 21) (oi := ⟨some 63, _, _, _, _, _⟩) (v := _) rfl (by kernel_rfl) (by kernel_rfl) (by kernel_rfl) (fun _ _ _ h => h) (yieldsIf_eql (by rfl) eqDig Try.eqGuardType23 (.tmp 57) (.tmp 62) rfl O O rfl rfl HOl.out HOl.out (beq_self_eq_true _)) (by assumption) ?_
  try simp only [Act.put, List.setIfInBounds_toArray, List.set_cons_zero, List.set_cons_succ]
  refine wpAnyH_take (i := 22) (oi := ⟨some 64, _, _, _, _, _⟩) (v := ?_) rfl (by kernel_rfl) (by kernel_rfl) (by kernel_rfl) (fun _ _ _ h => h) (Or.inl ⟨by rfl, by intro w hSw; go_simp; try rfl⟩) (by assumption) ?_
  try simp only [Act.put, List.setIfInBounds_toArray, List.set_cons_zero, List.set_cons_succ]
  refine wpAnyH_take (i := 23) (oi := ⟨some 65, _, _, _, _, _⟩) (v := ?_) rfl (by kernel_rfl) (by kernel_rfl) (by kernel_rfl) (fun _ _ _ h => h) (Or.inl ⟨by rfl, by intro w hSw; go_simp; try rfl⟩) (by assumption) ?_
  try simp only [Act.put, List.setIfInBounds_toArray, List.set_cons_zero, List.set_cons_succ]
  refine wpAnyH_take (i := 24) (oi := ⟨some 66, _, _, _, _, _⟩) (v := ?_) rfl (by kernel_rfl) (by kernel_rfl) (by kernel_rfl) (fun _ _ _ h => h) (Or.inl ⟨by rfl, by intro w hSw; go_simp; try rfl⟩) (by assumption) ?_
  try simp only [Act.put, List.setIfInBounds_toArray, List.set_cons_zero, List.set_cons_succ]
  refine wpAnyH_take (i := 25) (oi := ⟨some 67, _, _, _, _, _⟩) (v := _) rfl (by kernel_rfl) (by kernel_rfl) (by kernel_rfl) (fun _ _ _ h => h) (yieldsIf_load_mid (by rfl) _ (.tmp 5) rfl _ _ rfl [.int .i64 z, .slice B m d] _ (fun W hW => hW.a.range (n := 2) rfl) huI rfl hiI) (by assumption) ?_
  try simp only [Act.put, List.setIfInBounds_toArray, List.set_cons_zero, List.set_cons_succ]
  refine wpAnyH_take (i := 26) (oi := ⟨some 68, _, _, _, _, _⟩) (v := _) rfl (by kernel_rfl) (by kernel_rfl) (by kernel_rfl) (fun _ _ _ h => h) (yieldsIf_load_mid (by rfl) _ (.tmp 5) rfl _ _ rfl [.int .i64 z, .slice B m d] _ (fun W hW => hW.a.range (n := 2) rfl) huI rfl hiI) (by assumption) ?_
  try simp only [Act.put, List.setIfInBounds_toArray, List.set_cons_zero, List.set_cons_succ]
  refine wpAnyH_take (i := 29) (oi := ⟨some 71, _, _, _, _, _⟩) (v := _) rfl (by kernel_rfl) (by kernel_rfl) (by kernel_rfl) (fun _ _ _ h => h) (yieldsIf_load_mid (by rfl) _ (.tmp 7) rfl _ _ rfl (cells8 X) _ (fun W hW => hW.d.range (take_all32 HLX.out)) huD rfl (hiD X HLX.out)) (by assumption) ?_
  try simp only [Act.put, List.setIfInBounds_toArray, List.set_cons_zero, List.set_cons_succ]
  refine wpAnyH_take (i := 30) (oi := ⟨some 72, _, _, _, _, _⟩) (v := _) rfl (by kernel_rfl) (by kernel_rfl) (by kernel_rfl) (fun _ _ _ h => h) (yieldsIf_load_mid (by rfl) _ (.tmp 7) rfl _ _ rfl (cells8 X) _ (fun W hW => hW.d.range (take_all32 HLX.out)) huD rfl (hiD X HLX.out)) (by assumption) ?_
  try simp only [Act.put, List.setIfInBounds_toArray, List.set_cons_zero, List.set_cons_succ]
  refine wpAnyH_ready (rs := [27]) (by kernel_rfl) (by simp) ?_
  refine AllReadyH.cons (o := ⟨some 69, _, _, _, _, _⟩) rfl (fun K hK => ?_) AllReadyH.nil
  have H69 : Kp _ := ⟨C4.out _ hHeld.below⟩
  go_simp
  refine hK.out _ _ (hHeld.next ((Below.refl _ _).alloc (Nat.le_refl _) _)) (fun hHeld2 => ?_)
  clear hK K hHeld
  have hHeld := hHeld2
  clear hHeld2
  try simp only [Act.put, List.setIfInBounds_toArray, List.set_cons_zero, List.set_cons_succ]
  refine wpAnyH_ready (rs := [28]) (by kernel_rfl) (by simp) ?_
  refine AllReadyH.cons (o := ⟨some 70, _, _, _, _, _⟩) rfl (fun K hK => ?_) AllReadyH.nil
  go_simp
  refine (H69.out).mono ?_
  rintro e w58 ⟨rfl, hb'⟩
  refine hK.out _ _ (hHeld.next hb') (fun hHeld2 => ?_)
  clear hb'
  clear hK K hHeld
  have hHeld := hHeld2
  clear hHeld2
  try simp only [Act.put, List.setIfInBounds_toArray, List.set_cons_zero, List.set_cons_succ]
  refine wpAnyH_ready (rs := [31]) (by kernel_rfl) (by simp) ?_
  refine AllReadyH.cons (o := ⟨some 73, _, _, _, _, _⟩) rfl (fun K hK => ?_) AllReadyH.nil
  go_simp
  refine (S2.out _).mono ?_
  rintro e w59 ⟨rfl, hb'⟩
  refine hK.out _ _ (hHeld.next hb') (fun hHeld2 => ?_)
  clear hb'
  clear hK K hHeld
  have hHeld := hHeld2
  clear hHeld2
  try simp only [Act.put, List.setIfInBounds_toArray, List.set_cons_zero, List.set_cons_succ]
  refine wpAnyH_take (i := 32) (oi := ⟨some 74, _, _, _, _, _⟩) (v := _) rfl (by kernel_rfl) (by kernel_rfl) (by kernel_rfl) (fun _ _ _ h => h) (yieldsIf_eql (by rfl) eqDig Try.eqGuardType23 (.tmp 70) (.tmp 73) rfl D D rfl rfl HDl.out HDl.out (beq_self_eq_true _)) (by assumption) ?_
  try simp only [Act.put, List.setIfInBounds_toArray, List.set_cons_zero, List.set_cons_succ]
  refine wpAnyH_take (i := 33) (oi := ⟨some 75, _, _, _, _, _⟩) (v := ?_) rfl (by kernel_rfl) (by kernel_rfl) (by kernel_rfl) (fun _ _ _ h => h) (Or.inl ⟨by rfl, by intro w hSw; go_simp; try rfl⟩) (by assumption) ?_
  try simp only [Act.put, List.setIfInBounds_toArray, List.set_cons_zero, List.set_cons_succ]
  refine wpAnyH_take (i := 34) (oi := ⟨some 76, _, _, _, _, _⟩) (v := ?_) rfl (by kernel_rfl) (by kernel_rfl) (by kernel_rfl) (fun _ _ _ h => h) (Or.inl ⟨by rfl, by intro w hSw; go_simp; try rfl⟩) (by assumption) ?_
  try simp only [Act.put, List.setIfInBounds_toArray, List.set_cons_zero, List.set_cons_succ]
  refine wpAnyH_ready (rs := [35]) (by kernel_rfl) (by simp) ?_
  refine AllReadyH.cons (o := ⟨some 77, _, _, _, _, _⟩) rfl (fun K hK => ?_) AllReadyH.nil
  go_simp
  refine (known5_any _).mono ?_
  rintro e w60 ⟨rfl, hb'⟩
  refine hK.out _ _ (hHeld.next hb') (fun hHeld2 => ?_)
  clear hb'
  clear hK K hHeld
  have hHeld := hHeld2
  clear hHeld2
  try simp only [Act.put, List.setIfInBounds_toArray, List.set_cons_zero, List.set_cons_succ]
  refine wpAnyH_take (i := 36) (oi := ⟨some 78, _, _, _, _, _⟩) (v := ?_) rfl (by kernel_rfl) (by kernel_rfl) (by kernel_rfl) (fun _ _ _ h => h) (Or.inl ⟨by rfl, by intro w hSw; go_simp; try rfl⟩) (by assumption) ?_
  try simp only [Act.put, List.setIfInBounds_toArray, List.set_cons_zero, List.set_cons_succ]
  refine wpAnyH_take (i := 37) (oi := ⟨some 6, _, _, _, _, _⟩) (v := ?_) rfl (by kernel_rfl) (by kernel_rfl) (by kernel_rfl) (fun _ _ _ h => h) (Or.inl ⟨by rfl, by intro w hSw; go_simp; try rfl⟩) (by assumption) ?_
  try simp only [Act.put, List.setIfInBounds_toArray, List.set_cons_zero, List.set_cons_succ]
  refine wpAnyH_done (by kernel_rfl) ?_ _
  go_wp2
  go_ret
  exact ⟨by rfl, hb0.trans ((hB5'.out.trans (hHeld.below.mono hB5'.out.size)).mono hb0.size)⟩
end Go.Proofs.Ytjllfaeamjadcaa

namespace Go.Proofs.Ytjllfaeamjadcaa
open Go.RowKit

section
variable {w : World} {B : Nat} {A : Option Addr} {n c : Nat} {its : List (Int × List UInt8)}
theorem Its.upto (h : Its w B A n c its) {r : Nat} (hr : r ≤ n) : Its w B A r c (its.take r) := by
  have hl := h.len
  refine ⟨by rw [List.length_take]; omega, Nat.le_trans hr h.cap, h.max, h.nil, fun x hx => h.wf x (List.mem_of_mem_take hx), fun h0 => ?_⟩
  obtain ⟨b, o, hA, hb, hc⟩ := h.cells (by omega)
  refine ⟨b, o, hA, hb, fun j hj => ?_⟩
  simp only [List.getElem_take]
  exact hc j (by rw [List.length_take] at hj; omega)
theorem Its.from (h : Its w B A n c its) {r : Nat} (hr : r ≤ n) : Its w B (if c = r then A else A.map (·.add (r * 2))) (n - r) (c - r) (its.drop r) := by
  have hl := h.len
  have hcap := h.cap
  refine ⟨by rw [List.length_drop]; omega, by omega, by have := h.max; omega, fun hn => ?_, fun x hx => h.wf x (List.mem_of_mem_drop hx), fun h0 => ?_⟩
  · by_cases hc : c = r
    · omega
    · rw [if_neg hc] at hn
      have := h.nil (by simpa using hn)
      omega
  · obtain ⟨b, o, hA, hb, hc⟩ := h.cells (by omega)
    refine ⟨b, o + r * 2, ?_, hb, fun j hj => ?_⟩
    · rw [if_neg (by omega), hA]
      simp only [Option.map_some, Addr.add_lit]
    · obtain ⟨A', n', c', h1, h2, h3⟩ := hc (r + j) (by rw [List.length_drop] at hj; omega)
      simp only [List.getElem_drop]
      rw [show o + r * 2 + j * 2 = o + (r + j) * 2 by omega]
      exact ⟨A', n', c', h1, h2, h3⟩
theorem Leads.two_at (h : Its w B A n c its) {i : Nat} (hi : i < n) : ∃ b o A' n' c', A = some ⟨b, o, none⟩ ∧ b < B ∧ w.rangeAt b (o + i * 2) [.int .i64 (its[i]'(by have := h.len; omega)).1, .slice A' n' c'] ∧ Bs w B A' n' c' (its[i]'(by have := h.len; omega)).2 := by
  obtain ⟨b, o, A', n', c', hA, hb, h1, h2, h3⟩ := h.at hi
  refine ⟨b, o, A', n', c', hA, hb, fun j v hv => ?_, h3⟩
  match j, hv with
  | 0, hv => obtain rfl := Option.some.inj hv; exact h1
  | 1, hv => obtain rfl := Option.some.inj hv; exact h2
end
section
variable {P : Program} {w : World} {ops : Array Oper} {rest : List Oper} {o : Oper} {a : Act} {Q : Exit → Act → World → Prop}
theorem wpList_loadMid (hgd : o.guard = none) (ty : TypeId) (x : Operand) (ho : o.op = .load ty x) {b off : Nat} (hx : a.eval x = .pointer (some ⟨b, off, none⟩)) {cs : List Value} {d : TypeDesc} (hS : w.rangeAt b off cs)
    (hu : P.underlying ty = some d) (hd : d.isRow = true) (hi : (P.info? ty).map (·.size) = some cs.length) (h : wpList P ops Q rest (a.put o.dst (.agg cs.toArray)) w) : wpList P ops Q (o :: rest) a w := by
  refine wpList_plain hgd fun K hK => ?_
  unfold Oper.wp execOp
  simp only [ho, hx, Instr.loadAt, Instr.sureAddr, Sem.run_bind, Sem.run_pure, Result.andThen_ok, run_loadVar_mid w b off ty cs d hS hu hd hi]
  exact hK _ _ h
variable {S : World → Prop} {op : Oper} {t e : TypeId} {i : TypeInfo}
theorem elem_of (hty : P.underlying t = some (.slice e)) : P.elem t = e := by
  unfold Program.elem
  simp [hty]
theorem size_two (hi : P.info? e = some i) (hs : i.size = 2) (u : World) : (sizeOf e).run P u = .ok 2 u := by
  simp [Go.sizeOf, typeInfo, hi, hs]
/-- x[lo:] of things of two cells -/
theorem yieldsIf_cut2_l (hw : Region.wanted op (yielded ops a.tmps) = true) (hty : P.underlying t = some (.slice e)) (hi : P.info? e = some i) (hs : i.size = 2) (x lo : Operand) (ho : op.op = .slice t x (some lo) none none)
    {A : Option Addr} {n c : Nat} (hx : a.eval x = .slice A n c) {k : IntKind} {I : Int} (hlo : a.eval lo = .int k I) (r : Nat) (hI : I = r) (hr : r ≤ n) {A' : Option Addr} {n' c' : Nat} (hA' : (if c = r then A else A.map (·.add (r * 2))) = A') (hn' : n - r = n') (hc' : c - r = c') : YieldsIf P ops S op (.slice A' n' c') a := by
  subst hI hA' hn' hc'
  refine .inl ⟨hw, fun w _ => ?_⟩
  have ht' : P.underlying t = some (.slice (P.elem t)) := by rw [elem_of hty]; exact hty
  have hrun := run_slice_l (P := P) (w := w) t A n c ht' k (r : Int) (by omega) (by omega)
  rw [elem_of hty, size_two hi hs] at hrun
  unfold execOp
  simp [ho, hx, hlo, run_sliceAt_slice (P := P) (w := w) t _ _ _ _ ht', hrun, Result.andThen, sliced]
/-- x[:hi] of things of two cells -/
theorem yieldsIf_cut2_h (hw : Region.wanted op (yielded ops a.tmps) = true) (hty : P.underlying t = some (.slice e)) (hi : P.info? e = some i) (hs : i.size = 2) (x hh : Operand) (ho : op.op = .slice t x none (some hh) none)
    {A : Option Addr} {n c : Nat} (hx : a.eval x = .slice A n c) {k : IntKind} {I : Int} (hhi : a.eval hh = .int k I) (r : Nat) (hI : I = r) (hr : r ≤ c) : YieldsIf P ops S op (.slice A r c) a := by
  subst hI
  refine .inl ⟨hw, fun w _ => ?_⟩
  have ht' : P.underlying t = some (.slice (P.elem t)) := by rw [elem_of hty]; exact hty
  have hrun := run_slice_h (P := P) (w := w) t A n c ht' k (r : Int) (by omega) (by omega)
  rw [elem_of hty, size_two hi hs] at hrun
  unfold execOp
  simp [ho, hx, hhi, run_sliceAt_slice (P := P) (w := w) t _ _ _ _ ht', hrun, Result.andThen, sliced]
  try (cases A <;> simp [Addr.add])
end
theorem allL_back (key : List UInt8) : ∀ its : List (Int × List UInt8), allL key its.reverse = allL key its
  | [] => rfl
  | x :: l => by
    rw [List.reverse_cons, allL_append, allL_back key l, addL_comm, ← allL_append]
    rfl
theorem allL_cut (key : List UInt8) (its : List (Int × List UInt8)) (r : Nat) : addL (allL key (its.take r)) (allL key (its.drop r)) = allL key its := by
  rw [← allL_append, List.take_append_drop]
theorem allL_less (key : List UInt8) (its : List (Int × List UInt8)) (r : Nat) : subL (allL key its) (allL key (its.drop r)) = allL key (its.take r) :=
  sub_of_add (allL_length _ _) (allL_length _ _) (allL_cut key its r).symm
theorem drop_back {α : Type} (l : List α) (g : Nat) (h : g < l.length) : (l.drop g).reverse = (l.drop (g + 1)).reverse ++ [l[g]] := by
  rw [List.drop_eq_getElem_cons h, List.reverse_cons]
theorem rem_le (z p : Nat) : ∃ r : Nat, ((z : Nat) : Int).tmod ((p : Int) + 1) = (r : Nat) ∧ r ≤ p := by
  refine ⟨z % (p + 1), ?_, ?_⟩
  · rw [show ((p : Int) + 1) = ((p + 1 : Nat) : Int) by simp]
    exact (Int.ofNat_tmod z (p + 1)).symm
  · have := Nat.mod_lt z (show 0 < p + 1 by omega)
    omega
/-- 32 bytes in memory, and what was there ahead -/
structure Keep1 (wb : World) (g : Nat) (t : TypeId) (cs : List Value) (W : World) : Prop where
  d : Blk W g t cs
  below : Below wb.heap.size wb W
theorem Keep1.next {wb W W' : World} {g : Nat} {t : TypeId} {cs : List Value} (h : Keep1 wb g t cs W) (hb : Below W.heap.size W W') : Keep1 wb g t cs W' := ⟨h.d.below hb h.d.lt, h.below.trans (hb.mono h.below.size)⟩
theorem Keep1.drew {wb W : World} {g : Nat} {t : TypeId} {cs : List Value} (h : Keep1 wb g t cs W) : Keep1 wb g t cs W.drew := ⟨h.d.drew, h.below.drew⟩
end Go.Proofs.Ytjllfaeamjadcaa
