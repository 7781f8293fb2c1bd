/- The contract of audit's Collision; how much there is of up to 64 things.
   The walk of AuditSame. -/
import Derived.Test.YthpfiieaanioeaaG15
import Derived.Test.YthpfiieaanioeaaG16
namespace Go.Proofs.Ythpfiieaanioeaa
open Go.RowKit

def collL (key : List UInt8) (its bs : List Th) : Bool := !sameL its bs && (allL key its == allL key bs)
set_option maxRecDepth 100000 in
set_option maxHeartbeats 2000000 in
theorem coll_any (K : Option Addr) (kn kc : Nat) (key : List UInt8) (A : Option Addr) (m c : Nat) (its : List Th) (B : Option Addr) (p d : Nat) (bs : List Th) (w : World) (hK : Bs w w.heap.size K kn kc key) (hI : Its w w.heap.size A m c its) (hJ : Its w w.heap.size B p d bs)
    (hkn : kn ≤ 524288) (hm : m ≤ 4294967296) (hp : p ≤ 4294967296) (hb : ∀ x ∈ its, x.2.length ≤ 523000) (hb2 : ∀ x ∈ bs, x.2.length ≤ 523000) :
    Calls Try.prog 14 #[.slice K kn kc, .slice A m c, .slice B p d] w fun e w' => e = .returned (.bool (collL key its bs)) ∧ Below w.heap.size w w' := by
  have HK : Kp _ := ⟨hK⟩
  have HI : Kp _ := ⟨hI⟩
  have HJ : Kp _ := ⟨hJ⟩
  have HB : Kp _ := ⟨hb⟩
  have HB2 : Kp _ := ⟨hb2⟩
  clear hK hI hJ hb hb2
  obtain ⟨X, hX⟩ : ∃ x, x = allL key its := ⟨_, rfl⟩
  obtain ⟨Y, hY⟩ : ∃ x, x = allL key bs := ⟨_, rfl⟩
  have HXl : Kp (X.length = 32) := ⟨by rw [hX]; exact allL_length _ _⟩
  have HYl : Kp (Y.length = 32) := ⟨by rw [hY]; exact allL_length _ _⟩
  have CX : Kp (∀ W, Below w.heap.size w W → Calls Try.prog 24 #[.slice K kn kc, .slice A m c] W fun e w' => e = .returned (.agg (cells8 X).toArray) ∧ Below W.heap.size W w') := ⟨fun W hW => by
    rw [hX]; exact all_any K kn kc key A m c its W (HK.out.next hW (Nat.le_refl _)) (HI.out.next hW (Nat.le_refl _)) hm hkn HB.out⟩
  have CY : Kp (∀ W, Below w.heap.size w W → Calls Try.prog 24 #[.slice K kn kc, .slice B p d] W fun e w' => e = .returned (.agg (cells8 Y).toArray) ∧ Below W.heap.size W w') := ⟨fun W hW => by
    rw [hY]; exact all_any K kn kc key B p d bs W (HK.out.next hW (Nat.le_refl _)) (HJ.out.next hW (Nat.le_refl _)) hp hkn HB2.out⟩
  obtain ⟨q, hq⟩ : ∃ q, q = (X == Y) := ⟨_, rfl⟩
  have HQ : Kp ((X == Y) = q) := ⟨hq.symm⟩
  obtain ⟨s, hs⟩ : ∃ s, s = sameL its bs := ⟨_, rfl⟩
  have HE : Kp (collL key its bs = (!s && q)) := ⟨by unfold collL; rw [hs, hq, hX, hY]⟩
  have CS := same_any A m c its B p d bs w HI.out HJ.out hm hp (fun x hx => by have := HB.out x hx; omega)
  rw [← hs] at CS
  have HCS : Kp _ := ⟨CS⟩
  clear CS hX hY hq hs HB HB2 HK HI HJ
  rw [HE.out]
  go_enter Try.func14, Try.ntmps14
  go_wp2_with fail
  refine HCS.out.mono ?_
  rintro e w1 ⟨rfl, hb1⟩
  cases s with
  | true =>
    clear HQ HE
    go_wp2
    go_ret
    exact ⟨by simp, hb1⟩
  | false =>
    clear HE
    go_wp2_with fail
    refine (CX.out w1 hb1).mono ?_
    rintro e w2 ⟨rfl, hb2⟩
    have hB2 := hb1.trans (hb2.mono hb1.size)
    clear hb1 hb2
    go_wp2_with fail
    refine (CY.out w2 hB2).mono ?_
    rintro e w3 ⟨rfl, hb3⟩
    have hB3 := hB2.trans (hb3.mono hB2.size)
    clear hb3 hB2
    go_wp2_with (refine wpList_eql_g (o := ⟨some 18, _, _, _, _, _⟩) rfl eqDig Try.eqGuardType43 (.tmp 14) (.tmp 17) rfl X Y rfl rfl HXl.out HYl.out HQ.out ?_)
    go_wp2
    go_ret
    exact ⟨by simp, hB3⟩
set_option maxHeartbeats 1000000 in
theorem reflong64_any (A : Option Addr) (m c : Nat) (its : List Th) (w : World) (B : Nat) (hI : Its w B A m c its) (hm : m ≤ 64) (hb : ∀ x ∈ its, x.2.length ≤ 140737488351232) :
    Calls Try.prog 7 #[.slice A m c] w fun e w' => e = .returned (.int .i64 ((longN its : Nat) : Int)) ∧ w' = w := by
  have HL : Kp _ := ⟨hI.len⟩
  have HB : Kp _ := ⟨hb⟩
  have HI : Kp _ := ⟨hI⟩
  have hm63 := hI.le
  clear hI hb
  go_enter Try.func7, Try.ntmps7
  go_wp2
  go_loop [3, 4] (fun s i => ∃ k : Nat, k ≤ m ∧ i = .int .i64 k ∧ s = .int .i64 ((longN (its.take k) : Nat) : Int)) (fun _ i => m - (intOf i).toNat)
  case atStart => exact ⟨0, Nat.zero_le _, rfl, rfl⟩
  case round =>
    obtain ⟨k, hk, rfl, rfl⟩ := hrel
    by_cases hlt : k < m
    · obtain ⟨b, o, A', n', c', rfl, _, hc1, hc2, hbs⟩ := HI.out.at hlt
      have hki : k < its.length := by rw [HL.out]; exact hlt
      have HNx : Kp _ := ⟨longN_next its k hki⟩
      have h1 := longN_le its 140737488351232 HB.out k (by omega)
      have h2 := HB.out _ (List.getElem_mem hki)
      have h3 : (its[k]'hki).2.length = n' := hbs.len
      rw [h3] at h2 HNx
      have h4 : longN (its.take k) ≤ 9007199254740992 := Nat.le_trans h1 (by omega)
      have hn63 := hbs.le
      generalize longN (its.take k) = s at *
      clear h1 h3 hbs
      go_wp2
      go_round
      case rel => exact ⟨k + 1, by omega, by go_num, by rw [HNx.out]; go_num⟩
      case measure => simp [intOf]; omega
    · obtain rfl : k = m := by omega
      have HE : Kp (its.take k = its) := ⟨List.take_of_length_le (by rw [HL.out]; exact Nat.le_refl _)⟩
      rw [HE.out]
      go_wp2
      go_ret
      exact ⟨rfl, rfl⟩
theorem longN_bound (its : List Th) (m : Nat) (hm : m ≤ 64) (hl : its.length = m) (hb : ∀ x ∈ its, x.2.length ≤ 140737488351232) : longN its ≤ 9007199254740992 := by
  have h := longN_le its 140737488351232 hb its.length (Nat.le_refl _)
  rw [List.take_length, hl] at h
  exact Nat.le_trans h (by omega)
end Go.Proofs.Ythpfiieaanioeaa

namespace Go.Proofs.Ythpfiieaanioeaa
open Go.RowKit

set_option maxRecDepth 100000 in
set_option maxHeartbeats 4000000 in
theorem law_auditSame (K : Option Addr) (n c : Nat) (key : List UInt8) (I : Option Addr) (p q : Nat) (its : List Th) (B : Option Addr) (m d : Nat) (bs : List Th) (z : Int) (X : Option Addr) (xn xc : Nat) (l : List UInt8) (W : World)
    (hk : Bs W W.heap.size K n c key ∧ c ≤ 140737488351232) (hi : Its W W.heap.size I p q its ∧ ∀ x ∈ its, x.2.length ≤ 140737488351232) (hj : Its W W.heap.size B m d bs ∧ ∀ x ∈ bs, x.2.length ≤ 140737488351232) (hwz : (Lit.int .i64 z).wf = true) (hbx : Bs W W.heap.size X xn xc l) (hlx : l.length ≤ 140737488351232)
    (r1 : q * 32 ≤ 140737488351232) (r2 : d * 32 ≤ 140737488351232) :
    Calls Try.prog 4 #[.slice K n c, .slice I p q, .slice B m d, .agg #[.int .i64 z, .slice X xn xc]] W fun e w' => e = .returned (.bool true) ∧ Below W.heap.size W w' := by
  have hp0 : p ≤ 4398046510976 := by have := hi.1.cap; omega
  have hm0 : m ≤ 4398046510976 := by have := hj.1.cap; omega
  have hn0 : n ≤ 140737488351232 := by have := hk.1.cap; omega
  have hx0 : xn ≤ 140737488351232 := by rw [hbx.len] at hlx; exact hlx
  have HK0 : Kp _ := ⟨hk.1⟩
  have HI0 : Kp _ := ⟨hi.1⟩
  have HJ0 : Kp _ := ⟨hj.1⟩
  have HX0 : Kp _ := ⟨hbx⟩
  have HIb : Kp _ := ⟨hi.2⟩
  have HJb : Kp _ := ⟨hj.2⟩
  have HZi : Kp _ := ⟨hwz⟩
  have HIl : Kp (its.length = p) := ⟨hi.1.len⟩
  have HJl : Kp (bs.length = m) := ⟨hj.1.len⟩
  have hIN : I = none → p = 0 ∧ q = 0 := fun h => by have h1 := hi.1.nil h; have h2 := hi.1.cap; omega
  have HIN : Kp _ := ⟨hIN⟩
  clear hk hi hj hbx hlx hwz r1 r2 hIN
  go_enter Try.func4, Try.ntmps4
  go_upto_region 1 with fail
  have hg0 : Blk (W.alloc (.cells #[.int .i64 z, .slice X xn xc] 30)) W.heap.size 30 [.int .i64 z, .slice X xn xc] := Blk.new _ _ _
  have hb0 : Below W.heap.size W (W.alloc (.cells #[.int .i64 z, .slice X xn xc] 30)) := (Below.refl _ _).alloc (Nat.le_refl _) _
  generalize W.alloc (.cells #[.int .i64 z, .slice X xn xc] 30) = w0 at *
  have HG0 : Kp _ := ⟨hg0⟩
  have hc0 : w0.cell? ⟨W.heap.size, 0, none⟩ = some (.int .i64 z) := hg0.cell? 0
  have hc1 : w0.cell? ⟨W.heap.size, 1, none⟩ = some (.slice X xn xc) := hg0.cell? 1
  have HK : Kp (Bs w0 w0.heap.size K n c key) := ⟨(HK0.out.below hb0).more hb0.size⟩
  have HI : Kp (Its w0 w0.heap.size I p q its) := ⟨(HI0.out.below hb0).more hb0.size⟩
  have HJ : Kp (Its w0 w0.heap.size B m d bs) := ⟨(HJ0.out.below hb0).more hb0.size⟩
  have HX : Kp (Bs w0 w0.heap.size X xn xc l) := ⟨(HX0.out.below hb0).more hb0.size⟩
  clear HK0 HI0 HJ0 HX0 hg0
  by_cases h1 : (100 : Int) < n
  · go_wp2_with fail
    refine (known_any _).mono ?_
    rintro e wz ⟨rfl, hz⟩
    go_wp2
    go_ret
    exact ⟨rfl, hb0.trans (hz.mono hb0.size)⟩
  have dh1 := decide_eq_false h1
  by_cases h2 : (30 : Int) < (p : Int) + (m : Int)
  · go_wp2_with fail
    refine (known_any _).mono ?_
    rintro e wz ⟨rfl, hz⟩
    go_wp2
    go_ret
    exact ⟨rfl, hb0.trans (hz.mono hb0.size)⟩
  have dh2 := decide_eq_false h2
  have hp30 : p ≤ 30 := by omega
  have hm30 : m ≤ 30 := by omega
  obtain ⟨s0, hs0⟩ : ∃ s, s = longN its := ⟨_, rfl⟩
  obtain ⟨s1, hs1⟩ : ∃ s, s = longN bs := ⟨_, rfl⟩
  have b0 : s0 ≤ 9007199254740992 := by rw [hs0]; exact longN_bound its p (by omega) HIl.out HIb.out
  have b1 : s1 ≤ 9007199254740992 := by rw [hs1]; exact longN_bound bs m (by omega) HJl.out HJb.out
  have S0 : Kp (∀ w, w = w0 → Calls Try.prog 7 #[.slice I p q] w fun e w' => e = .returned (.int .i64 ((s0 : Nat) : Int)) ∧ w' = w) := ⟨fun w hw => by rw [hs0, hw]; exact reflong64_any I p q its w0 w0.heap.size HI.out (by omega) HIb.out⟩
  have S1 : Kp (∀ w, w = w0 → Calls Try.prog 7 #[.slice B m d] w fun e w' => e = .returned (.int .i64 ((s1 : Nat) : Int)) ∧ w' = w) := ⟨fun w hw => by rw [hs1, hw]; exact reflong64_any B m d bs w0 w0.heap.size HJ.out (by omega) HJb.out⟩
  have HMi : Kp (∀ x ∈ its, x.2.length < s0) := ⟨by rw [hs0]; exact longN_mem its⟩
  have HMj : Kp (∀ x ∈ bs, x.2.length < s1) := ⟨by rw [hs1]; exact longN_mem bs⟩
  clear hs0 hs1 HIb HJb
  go_wp2_with fail
  refine (S0.out w0 rfl).mono ?_
  rintro e w1 ⟨rfl, rfl⟩
  go_wp2_with fail
  refine (S1.out w1 rfl).mono ?_
  rintro e w0 ⟨rfl, rfl⟩
  clear S0 S1
  by_cases h3 : (900 : Int) < (s0 : Int) + (s1 : Int)
  · go_wp2_with fail
    refine (known_any _).mono ?_
    rintro e wz ⟨rfl, hz⟩
    go_wp2
    go_ret
    exact ⟨rfl, hb0.trans (hz.mono hb0.size)⟩
  have dh3 := decide_eq_false h3
  by_cases h4 : (100 : Int) < xn
  · go_wp2_with fail
    refine (known_any _).mono ?_
    rintro e wz ⟨rfl, hz⟩
    go_wp2
    go_ret
    exact ⟨rfl, hb0.trans (hz.mono hb0.size)⟩
  have dh4 := decide_eq_false h4
  have HI4 : Kp (∀ x ∈ its, x.2.length ≤ 523000) := ⟨fun x hx => by have := HMi.out x hx; omega⟩
  have HJ4 : Kp (∀ x ∈ bs, x.2.length ≤ 523000) := ⟨fun x hx => by have := HMj.out x hx; omega⟩
  have HX4 : Kp (l.length ≤ 523000) := ⟨by rw [HX.out.len]; omega⟩
  obtain ⟨i, hi, hi0, hi2, hi32⟩ := item_info
  have HR0 : Kp (its.drop p = []) := ⟨List.drop_of_length_le (by rw [HIl.out]; exact Nat.le_refl _)⟩
  clear HMi HMj b0 b1
  go_wp2_with fail
  go_loopg [9, 10] p (fun gk vb vi wr => ∃ k : Nat, k + gk = p ∧ vi = .int .i64 ((gk : Int) - 1) ∧ Kp (∃ L, wr.ownsRow w0.heap.size 30 2 vb k (hdCells L) ∧ Leads wr w0.heap.size L (its.drop gk).reverse) ∧ Below w0.heap.size w0 wr)
  case atStart => exact ⟨0, by omega, rfl, ⟨[], own2_nil _ _ _, by rw [HR0.out]; exact Leads.nil _ _⟩, Below.refl _ _⟩
  case round =>
    obtain ⟨k, hk, rfl, HO, hB⟩ := hrel
    cases gk with
    | zero =>
      have hkp : k = p := by omega
      subst hkp
      obtain ⟨L, hown, hL⟩ := HO.out
      rw [List.drop_zero] at hL
      obtain ⟨A5, c5, rfl, hI5⟩ := Its.of_own hown hL hB.size
      have HI5b : Kp _ := ⟨hI5⟩
      have HG1 : Kp _ := ⟨HG0.out.below hB HG0.out.lt⟩
      have c0 : wr.cell? ⟨W.heap.size, 0, none⟩ = some (.int .i64 z) := HG1.out.cell? 0
      have c1 : wr.cell? ⟨W.heap.size, 1, none⟩ = some (.slice X xn xc) := HG1.out.cell? 1
      obtain ⟨M, hM, hsrc⟩ := (HI.out.below hB).heads
      have HM : Kp _ := ⟨hM⟩
      have HMl : Kp (M.length = k) := ⟨by rw [hM.len]; exact HIl.out⟩
      have HSr : Kp _ := ⟨hsrc⟩
      have HBr : Kp _ := ⟨hB⟩
      have hwr : w0.heap.size ≤ wr.heap.size := hB.size
      clear hown hL HO hI5 hM hsrc hB hc0 hc1 HR0
      go_wp2_with (at_builtin; refine wpList_appI (o := ⟨some 55, _, _, _, _, _⟩) Try.underlying23 hi hi0 hi2 hi32 rfl rfl (.tmp 53) (.tmp 54) rfl wr.heap.size (.slice none 0 0) 0 [] rfl (own2_nil _ _ _) I k q M rfl HMl.out HIN.out HSr.out (by simp only [maxLen]; omega) (by omega) (Nat.le_refl _) ?_)
      intro v4 w4 hown4 hb4 _
      have HO4 : Kp _ := ⟨hown4⟩
      have HG4 : Kp _ := ⟨HG1.out.below hb4 HG1.out.lt⟩
      have d0 : w4.cell? ⟨W.heap.size, 0, none⟩ = some (.int .i64 z) := HG4.out.cell? 0
      have d1 : w4.cell? ⟨W.heap.size, 1, none⟩ = some (.slice X xn xc) := HG4.out.cell? 1
      have HM4 : Kp (Leads w4 w0.heap.size M its) := ⟨HM.out.below (hb4.mono hwr)⟩
      have HB4 : Kp (Below w0.heap.size w0 w4) := ⟨HBr.out.trans (hb4.mono hwr)⟩
      have hs4 : wr.heap.size ≤ w4.heap.size := hb4.size
      have HI54 : Kp (Its w4 wr.heap.size A5 k c5 its.reverse) := ⟨HI5b.out.below hb4⟩
      clear hown4 c0 c1 HG1 HM hb4 HI5b HBr HSr
      go_wp2_with (at_builtin; refine wpList_appI (o := ⟨some 59, _, _, _, _, _⟩) Try.underlying23 hi hi0 hi2 hi32 rfl rfl (.tmp 56) (.tmp 58) rfl wr.heap.size v4 k M rfl (own2_below HO4.out ((Below.refl _ w4).alloc (Nat.le_refl _) _)) (some ⟨w4.heap.size, 0, none⟩) 1 1 [(z, X, xn, xc)] rfl rfl (fun h => by cases h) (two_cells w4 _ z X xn xc) (by simp only [maxLen]; omega) (by omega) (by simp; omega) ?_)
      intro v5 w5 hown5 hb5' hgr5
      have hb5 : Below wr.heap.size w4 w5 := ((Below.refl _ w4).alloc hs4 _).trans hb5'
      have HB5 : Kp (Below w0.heap.size w0 w5) := ⟨HB4.out.trans (hb5.mono hwr)⟩
      have HM5 : Kp (Leads w5 w0.heap.size (M ++ [(z, X, xn, xc)]) (its ++ [(z, l)])) := ⟨(HM4.out.below (hb5.mono hwr)).append (Leads.one HZi.out (HX.out.below HB5.out))⟩
      obtain ⟨A6, c6, rfl, hI6⟩ := Its.of_own hown5 HM5.out HB5.out.size
      have HI6 : Kp _ := ⟨hI6⟩
      have HIx : ∀ w, Below w5.heap.size w5 w → Its w w.heap.size I k q its := fun w hw => (HI.out.below (HB5.out.trans (hw.mono HB5.out.size))).more (Nat.le_trans HB5.out.size hw.size)
      have HJx : ∀ w, Below w5.heap.size w5 w → Its w w.heap.size B m d bs := fun w hw => (HJ.out.below (HB5.out.trans (hw.mono HB5.out.size))).more (Nat.le_trans HB5.out.size hw.size)
      have HKx : ∀ w, Below w5.heap.size w5 w → Bs w w.heap.size K n c key := fun w hw => (HK.out.below (HB5.out.trans (hw.mono HB5.out.size))).more (Nat.le_trans HB5.out.size hw.size)
      have hw5 : wr.heap.size ≤ w5.heap.size := by have := hb5.size; omega
      have HAx : ∀ w, Below w5.heap.size w5 w → Its w w.heap.size A5 k c5 its.reverse := fun w hw => ((HI54.out.below hb5).below (hw.mono hw5)).more (Nat.le_trans hw5 hw.size)
      have HMx : ∀ w, Below w5.heap.size w5 w → Its w w.heap.size A6 (k + 1) c6 (its ++ [(z, l)]) := fun w hw => hI6.next hw (Nat.le_refl _)
      have HIx : Kp _ := ⟨HIx⟩
      have HJx : Kp _ := ⟨HJx⟩
      have HKx : Kp _ := ⟨HKx⟩
      have HAx : Kp _ := ⟨HAx⟩
      have HMx : Kp _ := ⟨HMx⟩
      have HB7 : Kp (Below W.heap.size W w5) := ⟨hb0.trans (HB5.out.mono hb0.size)⟩
      have HIq : Kp (∀ x ∈ its, x.2.length ≤ 4294967296) := ⟨fun x hx => by have := HI4.out x hx; omega⟩
      have HJq : Kp (∀ x ∈ bs, x.2.length ≤ 4294967296) := ⟨fun x hx => by have := HJ4.out x hx; omega⟩
      have HMq : Kp (∀ x ∈ its ++ [(z, l)], x.2.length ≤ 4294967296) := ⟨fun x hx => by
        rcases List.mem_append.1 hx with hx | hx
        · exact HIq.out x hx
        · simp at hx; rw [hx]; have := HX4.out; show l.length ≤ _; omega⟩
      have HAq : Kp (∀ x ∈ its.reverse, x.2.length ≤ 523000) := ⟨fun x hx => HI4.out x (List.mem_reverse.1 hx)⟩
      have HC : Kp (collL key its its.reverse = false) := ⟨by unfold collL; rw [same_back]; rfl⟩
      have HM1 : Kp ((minusL (its ++ [(z, l)]) its).length = 1) := ⟨minus_more _ _⟩
      obtain ⟨p1, hp1⟩ : ∃ p, p = (minusL its bs).length := ⟨_, rfl⟩
      obtain ⟨p2, hp2⟩ : ∃ p, p = (minusL bs its).length := ⟨_, rfl⟩
      have HP1 : Kp (p1 = (minusL its bs).length) := ⟨hp1⟩
      have HP2 : Kp (p2 = (minusL bs its).length) := ⟨hp2⟩
      have hp1k : p1 ≤ 30 := by
        have h := (minus_lengths its bs).1
        rw [← hp1, HIl.out] at h
        omega
      have hp2k : p2 ≤ 30 := by
        have h := (minus_lengths its bs).2
        rw [← hp2, HJl.out] at h
        omega
      clear hp1 hp2 hown5 hb5' hb5 HO4 HG4 d0 d1 HM4 HB4 HM5 hs4 HI54 hI6 hgr5 hw5 HB5 HI HJ HK HX hwr hb0
      go_wp2_with fail
      refine (same_any I k q its A5 k c5 its.reverse w5 (HIx.out w5 (Below.refl _ _)) (HAx.out w5 (Below.refl _ _)) (by omega) (by omega) HIq.out).mono ?_
      rw [same_back]
      rintro e x1 ⟨rfl, hx1⟩
      go_wp2_with fail
      refine (coll_any K n c key I k q its A5 k c5 its.reverse x1 (HKx.out x1 hx1) (HIx.out x1 hx1) (HAx.out x1 hx1) (by omega) (by omega) (by omega) HI4.out HAq.out).mono ?_
      rw [HC.out]
      rintro e x2 ⟨rfl, hx2'⟩
      have hx2 := hx1.trans (hx2'.mono hx1.size)
      clear hx2' hx1
      go_wp2_with fail
      refine (same_any I k q its A6 (k + 1) c6 (its ++ [(z, l)]) x2 (HIx.out x2 hx2) (HMx.out x2 hx2) (by omega) (by omega) HIq.out).mono ?_
      rw [same_more]
      rintro e x3 ⟨rfl, hx3'⟩
      have hx3 := hx2.trans (hx3'.mono hx2.size)
      clear hx3' hx2
      go_wp2_with fail
      refine (same_any A6 (k + 1) c6 (its ++ [(z, l)]) I k q its x3 (HMx.out x3 hx3) (HIx.out x3 hx3) (by omega) (by omega) HMq.out).mono ?_
      rw [sameL_comm, same_more]
      rintro e x4 ⟨rfl, hx4'⟩
      have hx4 := hx3.trans (hx4'.mono hx3.size)
      clear hx4' hx3
      go_wp2_with fail
      refine (minus_any A6 (k + 1) c6 (its ++ [(z, l)]) I k q its x4 (HMx.out x4 hx4) (HIx.out x4 hx4) (by omega) (by omega) HMq.out).mono ?_
      rw [HM1.out]
      rintro e w7 ⟨A7, c7, rfl, _, hx7'⟩
      have hx7 := hx4.trans (hx7'.mono hx4.size)
      clear hx7' hx4 HMx HAx HC HM1 HMq HAq
      by_cases e1 : p1 = 0
      · subst e1
        by_cases e2 : p2 = 0
        · subst e2
          have HSm : Kp (sameL its bs = true) := ⟨by rw [← same_none, ← HP1.out, ← HP2.out]; simp⟩
          go_wp2_with fail
          refine (minus_any I k q its B m d bs w7 (HIx.out w7 hx7) (HJx.out w7 hx7) (by omega) (by omega) HIq.out).mono ?_
          rw [← HP1.out]
          rintro e w8 ⟨A8, c8, rfl, _, hb8'⟩
          have hb8 := hx7.trans (hb8'.mono hx7.size)
          clear hb8' hx7
          go_wp2_with fail
          refine (minus_any B m d bs I k q its w8 (HJx.out w8 hb8) (HIx.out w8 hb8) (by omega) (by omega) HJq.out).mono ?_
          rw [← HP2.out]
          rintro e w9 ⟨A9, c9, rfl, _, hb9'⟩
          have hb9 := hb8.trans (hb9'.mono hb8.size)
          clear hb9' hb8
          go_wp2_with fail
          refine (same_any I k q its B m d bs w9 (HIx.out w9 hb9) (HJx.out w9 hb9) (by omega) (by omega) HIq.out).mono ?_
          rw [HSm.out]
          rintro e wa ⟨rfl, hba'⟩
          have hba := hb9.trans (hba'.mono hb9.size)
          clear hba' hb9
          go_wp2_with fail
          refine (same_any B m d bs I k q its wa (HJx.out wa hba) (HIx.out wa hba) (by omega) (by omega) HJq.out).mono ?_
          rw [sameL_comm, HSm.out]
          rintro e wb ⟨rfl, hbb'⟩
          have hbb := hba.trans (hbb'.mono hba.size)
          clear hbb' hba
          go_wp2_with fail
          refine (known_any _).mono ?_
          rintro e wz ⟨rfl, hz⟩
          have hbz := hbb.trans (hz.mono hbb.size)
          have hBz := HB7.out.trans (hbz.mono HB7.out.size)
          clear hz hbb hbz
          go_wp2
          go_ret
          exact ⟨rfl, hBz⟩
        · have e2' : 0 < p2 := by omega
          have e2i : ((p2 : Int) == 0) = false := by simp [e2]
          have HSm : Kp (sameL its bs = false) := ⟨by rw [← same_none, ← HP1.out, ← HP2.out]; simp [e2]⟩
          go_wp2_with fail
          refine (minus_any I k q its B m d bs w7 (HIx.out w7 hx7) (HJx.out w7 hx7) (by omega) (by omega) HIq.out).mono ?_
          rw [← HP1.out]
          rintro e w8 ⟨A8, c8, rfl, _, hb8'⟩
          have hb8 := hx7.trans (hb8'.mono hx7.size)
          clear hb8' hx7
          go_wp2_with fail
          refine (minus_any B m d bs I k q its w8 (HJx.out w8 hb8) (HIx.out w8 hb8) (by omega) (by omega) HJq.out).mono ?_
          rw [← HP2.out]
          rintro e w9 ⟨A9, c9, rfl, _, hb9'⟩
          have hb9 := hb8.trans (hb9'.mono hb8.size)
          clear hb9' hb8
          go_wp2_with fail
          refine (same_any I k q its B m d bs w9 (HIx.out w9 hb9) (HJx.out w9 hb9) (by omega) (by omega) HIq.out).mono ?_
          rw [HSm.out]
          rintro e wa ⟨rfl, hba'⟩
          have hba := hb9.trans (hba'.mono hb9.size)
          clear hba' hb9
          go_wp2_with fail
          refine (same_any B m d bs I k q its wa (HJx.out wa hba) (HIx.out wa hba) (by omega) (by omega) HJq.out).mono ?_
          rw [sameL_comm, HSm.out]
          rintro e wb ⟨rfl, hbb'⟩
          have hbb := hba.trans (hbb'.mono hba.size)
          clear hbb' hba
          go_wp2_with fail
          refine (known_any _).mono ?_
          rintro e wz ⟨rfl, hz⟩
          have hbz := hbb.trans (hz.mono hbb.size)
          have hBz := HB7.out.trans (hbz.mono HB7.out.size)
          clear hz hbb hbz
          go_wp2
          go_ret
          exact ⟨rfl, hBz⟩
      · have e1' : 0 < p1 := by omega
        have e1i : ((p1 : Int) == 0) = false := by simp [e1]
        have HSm : Kp (sameL its bs = false) := ⟨by rw [← same_none, ← HP1.out, ← HP2.out]; simp [e1]⟩
        go_wp2_with fail
        refine (minus_any I k q its B m d bs w7 (HIx.out w7 hx7) (HJx.out w7 hx7) (by omega) (by omega) HIq.out).mono ?_
        rw [← HP1.out]
        rintro e w8 ⟨A8, c8, rfl, _, hb8'⟩
        have hb8 := hx7.trans (hb8'.mono hx7.size)
        clear hb8' hx7
        go_wp2_with fail
        refine (same_any I k q its B m d bs w8 (HIx.out w8 hb8) (HJx.out w8 hb8) (by omega) (by omega) HIq.out).mono ?_
        rw [HSm.out]
        rintro e wa ⟨rfl, hba'⟩
        have hba := hb8.trans (hba'.mono hb8.size)
        clear hba' hb8
        go_wp2_with fail
        refine (same_any B m d bs I k q its wa (HJx.out wa hba) (HIx.out wa hba) (by omega) (by omega) HJq.out).mono ?_
        rw [sameL_comm, HSm.out]
        rintro e wb ⟨rfl, hbb'⟩
        have hbb := hba.trans (hbb'.mono hba.size)
        clear hbb' hba
        go_wp2_with fail
        refine (known_any _).mono ?_
        rintro e wz ⟨rfl, hz⟩
        have hbz := hbb.trans (hz.mono hbb.size)
        have hBz := HB7.out.trans (hbz.mono HB7.out.size)
        clear hz hbb hbz
        go_wp2
        go_ret
        exact ⟨rfl, hBz⟩
    | succ g2 =>
      have hlt : g2 < p := by omega
      have hgi : g2 < its.length := by rw [HIl.out]; exact hlt
      obtain ⟨b, o, A', n', c', rfl, hbl, hc1', hc2', hbs⟩ := (HI.out.below hB).at hlt
      obtain ⟨L, hown, hL⟩ := HO.out
      have hLl : L.length = k := by have := hown.1; rw [hdCells_length] at this; omega
      have HZi' : Kp (∀ x ∈ its, (Lit.int .i64 x.1).wf = true) := ⟨HI.out.wf⟩
      have HDb : Kp _ := ⟨drop_back its g2 hgi⟩
      obtain ⟨zz, hzz⟩ : ∃ z, z = (its[g2]'hgi).1 := ⟨_, rfl⟩
      rw [← hzz] at hc1'
      have HZZ : Kp (zz = (its[g2]'hgi).1) := ⟨hzz⟩
      have HBs : Kp _ := ⟨hbs⟩
      have HOw : Kp _ := ⟨hown⟩
      have HLd : Kp _ := ⟨hL⟩
      have he : (((g2 + 1 : Nat) : Int) - 1) = (g2 : Int) := by omega
      have hwr := hB.size
      rw [he]
      clear he hzz hbs hown hL HO hc0 hc1
      go_wp2_with (at_builtin; refine wpList_appI Try.underlying23 hi hi0 hi2 hi32 rfl rfl _ _ rfl w0.heap.size _ k L rfl (own2_below HOw.out ((Below.refl _ wr).alloc (Nat.le_refl _) _)) (some ⟨wr.heap.size, 0, none⟩) 1 1 [(zz, A', n', c')] rfl rfl (fun h => by cases h) (two_cells wr _ zz A' n' c') (by simp only [maxLen]; omega) (by omega) (by simp; omega) ?_)
      intro v9 w9 hown9 hb9' _
      have hb9 : Below w0.heap.size wr w9 := ((Below.refl _ wr).alloc hwr _).trans hb9'
      have HN : Kp (∃ L, w9.ownsRow w0.heap.size 30 2 v9 (k + 1) (hdCells L) ∧ Leads w9 w0.heap.size L (its.drop g2).reverse) := ⟨_, hown9, by
        rw [HDb.out]
        refine (HLd.out.below hb9).append ?_
        have h1 := Leads.one (HZi'.out _ (List.getElem_mem hgi)) (HBs.out.below hb9)
        rw [← HZZ.out] at h1
        rw [show its[g2]'hgi = (zz, (its[g2]'hgi).2) by rw [HZZ.out]]
        exact h1⟩
      have hB9 := hB.trans hb9
      clear hown9 hb9' hb9 hc1' hc2' HOw HLd HDb HBs HZZ hB
      go_wp2
      go_roundg g2
      case rel => exact ⟨k + 1, by omega, by go_num, HN, hB9⟩
      case measure => omega
end Go.Proofs.Ythpfiieaanioeaa
