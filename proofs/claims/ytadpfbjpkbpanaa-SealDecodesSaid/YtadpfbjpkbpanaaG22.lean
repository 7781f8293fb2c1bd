/- The walk of SealDecodes. -/
import Derived.Test.YtadpfbjpkbpanaaG19
import Derived.Test.YtadpfbjpkbpanaaG21
namespace Go.Proofs.Ytadpfbjpkbpanaa
open Go.RowKit

theorem flat_succ (ls : List (List UInt8)) (k : Nat) (h : k < ls.length) : (ls.take (k + 1)).flatten.length = (ls.take k).flatten.length + ls[k].length := by
  rw [List.take_succ_eq_append_getElem h, List.flatten_append, List.length_append]; simp
theorem flat_le {ls : List (List UInt8)} {x : List UInt8} (h : x ∈ ls) : x.length ≤ ls.flatten.length := (List.sublist_flatten_of_mem h).length_le
theorem flat_cap (ls : List (List UInt8)) (h : ∀ x ∈ ls, x.length ≤ 140737488351232) : ls.flatten.length ≤ ls.length * 140737488351232 := by
  induction ls with
  | nil => simp
  | cons a t ih =>
    have h1 := h a (by simp)
    have h2 := ih fun x hx => h x (by simp [hx])
    simp only [List.flatten_cons, List.length_append, List.length_cons]
    omega

set_option maxRecDepth 100000 in
set_option maxHeartbeats 8000000 in
theorem law_sealDecodes (KA : Option Addr) (kn kc : Nat) (key : List UInt8) (z : Int) (B : Option Addr) (m d : Nat) (ls : List (List UInt8)) (a : Int) (w : World) (hK0 : Bs w w.heap.size KA kn kc key ∧ kc ≤ 140737488351232)
    (hz : (Lit.int .u64 z).wf = true) (hL0 : Ls w w.heap.size B m d ls ∧ d * 24 ≤ 140737488351232 ∧ ∀ x ∈ ls, x.length ≤ 140737488351232) (ha : (Lit.int .i64 a).wf = true) :
    Calls Try.prog 4 #[.slice KA kn kc, .int .u64 z, .slice B m d, .int .i64 a] w fun x w' => x = .returned (.bool true) ∧ Below w.heap.size w w' := by
  obtain ⟨ctr, rfl, hctr⟩ := u64_nat hz
  have hab := bounds_i64 ha
  have hK := hK0.1
  have hL := hL0.1
  have hk63 := hK.le
  have hm63 := hL.le
  have HCt : Kp _ := ⟨hctr⟩
  have HKo : Kp (∀ W, Below w.heap.size w W → Bs W W.heap.size KA kn kc key) := ⟨fun W h => hK.next h (Nat.le_refl _)⟩
  have HLo : Kp (∀ W, Below w.heap.size w W → Ls W W.heap.size B m d ls) := ⟨fun W h => hL.next h (Nat.le_refl _)⟩
  have HLm : Kp (ls.length = m) := ⟨hL.len⟩
  have HBig : Kp (∀ x ∈ ls, x.length ≤ 140737488351232) := ⟨hL0.2.2⟩
  have HAb : Kp _ := ⟨hab⟩
  clear hK hK0 hL hL0 hz hctr ha hab
  go_enter Try.func4, Try.ntmps4
  first | go_step3 | skip
  go_wp2
  go_loopw [9, 10] (fun t i wr => ∃ (k : Nat) (S : Int), k ≤ m ∧ t = .int .i64 S ∧ i = .int .i64 k ∧ Kp (m ≤ 10 → S = ((ls.take k).flatten.length : Nat)) ∧ Kp (Below w.heap.size w wr)) (fun _ i _ => m - (intOf i).toNat)
  case atStart => exact ⟨0, 0, Nat.zero_le _, rfl, rfl, ⟨fun _ => by simp⟩, ⟨Below.refl _ _⟩⟩
  case round =>
    obtain ⟨k, S, hk, rfl, rfl, HS, HW⟩ := hrel
    by_cases hlt : k < m
    · have hkl : k < ls.length := by rw [HLm.out]; exact hlt
      obtain ⟨b1, o1, A1, n1, c1, rfl, _, hcell, hbs⟩ := (HLo.out wr HW.out).at hlt
      have HN1 : Kp (ls[k].length = n1) := ⟨hbs.len⟩
      have HS2 : Kp (m ≤ 10 → IntKind.i64.wrap (S + (n1 : Int)) = ((ls.take (k + 1)).flatten.length : Nat)) := ⟨fun h => by
        have h1 := HS.out h
        have h2 := flat_succ ls k hkl
        have h3 := flat_cap (ls.take (k + 1)) (fun x hx => HBig.out x (List.mem_of_mem_take hx))
        have h4 : (ls.take (k + 1)).length ≤ 10 := by have := HLm.out; simp; omega
        have h5 := HN1.out
        have h6 : (ls.take (k + 1)).length * 140737488351232 ≤ 10 * 140737488351232 := Nat.mul_le_mul_right _ h4
        rw [IntKind.wrap_i64]
        omega⟩
      obtain ⟨S2, hS2⟩ : ∃ x, IntKind.i64.wrap (S + (n1 : Int)) = x := ⟨_, rfl⟩
      rw [hS2] at HS2
      clear hbs HS HN1
      clear hkl
      go_wp2
      go_roundw
      case rel => exact ⟨k + 1, S2, by omega, by first | rfl | (rw [← hS2]), by go_num, HS2, HW⟩
      case measure => simp [intOf]; omega
    · obtain rfl : k = m := by omega
      have HSk : Kp (k ≤ 10 → S = (ls.flatten.length : Nat)) := ⟨fun h => by rw [HS.out h, List.take_of_length_le (by rw [HLm.out]; exact Nat.le_refl _)]⟩
      clear HS hlt hk
      by_cases h1 : 100 < kn
      · have d1 : decide ((100 : Int) < (kn : Int)) = true := decide_eq_true (by omega)
        clear h1
        go_wp2_with fail
        refine (known8_any wr).mono ?_
        rintro xk wk ⟨rfl, hbk⟩
        have HBk : Kp (Below w.heap.size w wk) := ⟨HW.out.trans (hbk.mono HW.out.size)⟩
        clear hbk
        go_wp2
        go_ret
        exact ⟨rfl, HBk.out⟩
      · have d1 : decide ((100 : Int) < (kn : Int)) = false := decide_eq_false (by omega)
        by_cases h2 : 10 < k
        · have d2 : decide ((10 : Int) < (k : Int)) = true := decide_eq_true (by omega)
          clear h1 h2
          go_wp2_with fail
          refine (known8_any wr).mono ?_
          rintro xk wk ⟨rfl, hbk⟩
          have HBk : Kp (Below w.heap.size w wk) := ⟨HW.out.trans (hbk.mono HW.out.size)⟩
          clear hbk
          go_wp2
          go_ret
          exact ⟨rfl, HBk.out⟩
        · have d2 : decide ((10 : Int) < (k : Int)) = false := decide_eq_false (by omega)
          by_cases h3 : 2000 < S
          · have d3 : decide (2000 < S) = true := decide_eq_true h3
            clear h1 h2 h3
            go_wp2_with fail
            refine (known8_any wr).mono ?_
            rintro xk wk ⟨rfl, hbk⟩
            have HBk : Kp (Below w.heap.size w wk) := ⟨HW.out.trans (hbk.mono HW.out.size)⟩
            clear hbk
            go_wp2
            go_ret
            exact ⟨rfl, HBk.out⟩
          · have d3 : decide (2000 < S) = false := decide_eq_false h3
            by_cases h4 : 100000 < a
            · have d4 : decide (100000 < a) = true := decide_eq_true h4
              clear h1 h2 h3 h4
              go_wp2_with fail
              refine (known8_any wr).mono ?_
              rintro xk wk ⟨rfl, hbk⟩
              have HBk : Kp (Below w.heap.size w wk) := ⟨HW.out.trans (hbk.mono HW.out.size)⟩
              clear hbk
              go_wp2
              go_ret
              exact ⟨rfl, HBk.out⟩
            · have d4 : decide (100000 < a) = false := decide_eq_false h4
              have HK100 : Kp (kn ≤ 524288) := ⟨by omega⟩
              have HSm : Kp (∀ x ∈ ls, x.length ≤ 1000000) := ⟨fun x hx => by have e1 := HSk.out (by omega); have e2 := flat_le hx; omega⟩
              have HAa : Kp (-9223372036854775808 ≤ a ∧ a ≤ 1000000) := ⟨by have := HAb.out; omega⟩
              clear h1 h2 h3 h4 HSk
              go_wp2
              go_loopw [11] (fun i wq => ∃ j : Nat, j ≤ k ∧ i = .int .i64 j ∧ Kp (Below w.heap.size w wq)) (fun i _ => k - (intOf i).toNat)
              case atStart => exact ⟨0, Nat.zero_le _, rfl, HW⟩
              case round =>
                clear HW d1 d2 d3 d4
                obtain ⟨j, hj, rfl, HW⟩ := hrel
                by_cases hlt : j < k
                · have hkl : j < ls.length := by rw [HLm.out]; exact hlt
                  obtain ⟨b1, o1, A1, n1, c1, rfl, _, hcell, hbs⟩ := (HLo.out wr HW.out).at hlt
                  have HBs : Kp _ := ⟨hbs⟩
                  have HN1 : Kp (n1 ≤ 1000000) := ⟨by have e1 := hbs.len; have e2 := HSm.out _ (List.getElem_mem hkl); omega⟩
                  have HKw : Kp _ := ⟨HKo.out wr HW.out⟩
                  have HXl : Kp (ls[j].length ≤ 1000000) := ⟨HSm.out _ (List.getElem_mem hkl)⟩
                  generalize hx : ls[j] = x at *
                  have HXx : Kp _ := ⟨hx⟩
                  clear hbs hx
                  go_wp2_with fail
                  refine (decode_any key KA kn kc A1 n1 c1 x wr HKw.out HBs.out HK100.out HN1.out).mono ?_
                  rintro xx w3 ⟨A3, n3, c3, D3, m3, e3, rfl, hr3, _, _, hb3⟩
                  have HR3 : Kp _ := ⟨hr3⟩
                  have HW3 : Kp (Below w.heap.size w w3) := ⟨HW.out.trans (hb3.mono HW.out.size)⟩
                  clear hr3 hb3 HW HKw HBs hcell
                  go_wp2_with (with_reducible refine wpList_alloc (o := ⟨some 12, _, _, _, _, _⟩) tySeal rfl rfl ?_)
                  intro w4 hk4 hb4 hs4
                  have HK4 : Kp _ := ⟨hk4⟩
                  have HB4 : Kp _ := ⟨hb4⟩
                  clear hk4 hb4 hs4
                  go_wp2_with (with_reducible refine wpList_storeAll (o := ⟨none, _, _, _, _, _⟩) (vs := rcL (decR (decO key x)).num (decR (decO key x)).blk A3 n3 c3 D3 m3 e3) rwSeal rfl (.tmp 12) (.tmp 63) rfl rfl HK4.out rfl rfl (rcL_one _ _ _ _ _ _ _ _) rfl ?_)
                  intro w5 hk5 ho5
                  have hb35 : Below w3.heap.size w3 w5 := HB4.out.trans (ho5.below (Nat.le_refl _))
                  obtain ⟨g12, hg12⟩ : ∃ x, x = w3.heap.size := ⟨_, rfl⟩
                  have HX5 : Kp (Blk w5 w3.heap.size 26 (rcL (decR (decO key x)).num (decR (decO key x)).blk A3 n3 c3 D3 m3 e3)) := ⟨hk5⟩
                  have HR5 : Kp _ := ⟨HR3.out.next hb35 (Nat.le_refl _)⟩
                  have HW5 : Kp (Below w.heap.size w w5) := ⟨HW3.out.trans (hb35.mono HW3.out.size)⟩
                  have HKw5 : Kp _ := ⟨HKo.out w5 HW5.out⟩
                  obtain ⟨b5, o5, A5, n5, c5, e5, _, hcell5, hbs5⟩ := (HLo.out w5 HW5.out).at hlt
                  cases e5
                  rw [HXx.out] at hbs5
                  have HN5 : Kp (n5 ≤ 1000000) := ⟨by have e1 := hbs5.len; have e2 := HXl.out; omega⟩
                  have HBs5 : Kp _ := ⟨hbs5⟩
                  rw [← hg12] at HX5 ⊢
                  clear hk5 ho5 hb35 HK4 HB4 HR3 HW3 hg12 hbs5
                  go_wp2_with fail
                  refine (refdecode_any key KA kn kc A5 n5 c5 x w5 HKw5.out HBs5.out HK100.out HN5.out).mono ?_
                  rintro xx w6 ⟨A6, n6, c6, D6, m6, e6, rfl, hr6, _, _, hb6⟩
                  have HR6 : Kp _ := ⟨HR5.out.next hb6 (Nat.le_refl _)⟩
                  have HQ6 : Kp _ := ⟨hr6⟩
                  have HX6 : Kp _ := ⟨HX5.out.below hb6 HX5.out.lt⟩
                  have HW6 : Kp (Below w.heap.size w w6) := ⟨HW5.out.trans (hb6.mono HW5.out.size)⟩
                  clear hr6 hb6 HX5 HR5 HBs5 HW5 HKw5 hcell5
                  go_wp2_with (with_reducible refine wpList_alloc (o := ⟨some 14, _, _, _, _, _⟩) tySeal rfl rfl ?_)
                  intro w7 hk7 hb7 hs7
                  have HK7 : Kp _ := ⟨hk7⟩
                  have HB7 : Kp _ := ⟨hb7⟩
                  clear hk7 hb7 hs7
                  go_wp2_with (with_reducible refine wpList_storeAll (o := ⟨none, _, _, _, _, _⟩) (vs := rcL (decR (decO key x)).num (decR (decO key x)).blk A6 n6 c6 D6 m6 e6) rwSeal rfl (.tmp 14) (.tmp 72) rfl rfl HK7.out rfl rfl (rcL_one _ _ _ _ _ _ _ _) rfl ?_)
                  intro w8 hk8 ho8
                  have hb68 : Below w6.heap.size w6 w8 := HB7.out.trans (ho8.below (Nat.le_refl _))
                  have HY8 : Kp _ := ⟨hk8⟩
                  have HX8 : Kp _ := ⟨HX6.out.below hb68 HX6.out.lt⟩
                  have HR8 : Kp _ := ⟨HR6.out.next hb68 (Nat.le_refl _)⟩
                  have HQ8 : Kp _ := ⟨HQ6.out.next hb68 (Nat.le_refl _)⟩
                  have HW8 : Kp (Below w.heap.size w w8) := ⟨HW6.out.trans (hb68.mono HW6.out.size)⟩
                  clear hk8 ho8 hb68 HK7 HB7 HX6 HR6 HQ6 HW6
                  generalize decO key x = q at *
                  have hff : (decF q != decF q) = false := by simp
                  generalize decF q = F at *
                  go_wp2_with (first
                    | (with_reducible refine wpList_loadAll (o := ⟨some 74, _, _, _, _, _⟩) rwSeal rfl (.tmp 12) rfl rfl HX8.out rfl ?_)
                    | (with_reducible refine wpList_loadAll (o := ⟨some 75, _, _, _, _, _⟩) rwSeal rfl (.tmp 14) rfl rfl HY8.out rfl ?_))
                  refine (refsame_as true (decR q) (decR q) A3 n3 c3 D3 m3 e3 A6 n6 c6 D6 m6 e6 w8 HR8.out HQ8.out (sameB_rfl _)).mono ?_
                  rintro xx w9 ⟨rfl, hb9⟩
                  have HW9 : Kp (Below w.heap.size w w9) := ⟨HW8.out.trans (hb9.mono HW8.out.size)⟩
                  clear hb9 HX8 HY8 HR8 HQ8 HW8
                  go_wp2
                  go_roundw
                  case rel => exact ⟨j + 1, by omega, by go_num, HW9⟩
                  case measure => simp [intOf]; omega
                · obtain rfl : j = k := by omega
                  have HKw : Kp _ := ⟨HKo.out wr HW.out⟩
                  have HLw : Kp _ := ⟨HLo.out wr HW.out⟩
                  clear hlt hj
                  go_wp2_with fail
                  refine (pick8_any key KA kn kc ctr B j d ls wr HKw.out HLw.out HK100.out HCt.out HSm.out).mono ?_
                  rintro xx w3 ⟨A3, n3, c3, D3, m3, e3, rfl, hr3, hb3⟩
                  have HR3 : Kp _ := ⟨hr3⟩
                  have HW3 : Kp (Below w.heap.size w w3) := ⟨HW.out.trans (hb3.mono HW.out.size)⟩
                  clear hr3 hb3 HW HKw HLw
                  go_wp2_with (with_reducible refine wpList_alloc (o := ⟨some 16, _, _, _, _, _⟩) tySeal rfl rfl ?_)
                  intro w4 hk4 hb4 hs4
                  have HK4 : Kp _ := ⟨hk4⟩
                  have HB4 : Kp _ := ⟨hb4⟩
                  clear hk4 hb4 hs4
                  go_wp2_with (with_reducible refine wpList_storeAll (o := ⟨none, _, _, _, _, _⟩) (vs := rcL (decR (chooseO key ctr ls)).num (decR (chooseO key ctr ls)).blk A3 n3 c3 D3 m3 e3) rwSeal rfl (.tmp 16) (.tmp 88) rfl rfl HK4.out rfl rfl (rcL_one _ _ _ _ _ _ _ _) rfl ?_)
                  intro w5 hk5 ho5
                  have hb35 : Below w3.heap.size w3 w5 := HB4.out.trans (ho5.below (Nat.le_refl _))
                  obtain ⟨g16, hg16⟩ : ∃ x, x = w3.heap.size := ⟨_, rfl⟩
                  have HX5 : Kp (Blk w5 w3.heap.size 26 (rcL (decR (chooseO key ctr ls)).num (decR (chooseO key ctr ls)).blk A3 n3 c3 D3 m3 e3)) := ⟨hk5⟩
                  have HR5 : Kp _ := ⟨HR3.out.next hb35 (Nat.le_refl _)⟩
                  have HW5 : Kp (Below w.heap.size w w5) := ⟨HW3.out.trans (hb35.mono HW3.out.size)⟩
                  have HKw5 : Kp _ := ⟨HKo.out w5 HW5.out⟩
                  have HLw5 : Kp _ := ⟨HLo.out w5 HW5.out⟩
                  rw [← hg16] at HX5 ⊢
                  clear hk5 ho5 hb35 HK4 HB4 HR3 HW3 hg16
                  go_wp2_with fail
                  refine (refpick_any key KA kn kc ctr B j d ls w5 HKw5.out HLw5.out HK100.out HCt.out HSm.out).mono ?_
                  rintro xx w6 ⟨A6, n6, c6, D6, m6, e6, rfl, hr6, hb6⟩
                  have HR6 : Kp _ := ⟨HR5.out.next hb6 (Nat.le_refl _)⟩
                  have HQ6 : Kp _ := ⟨hr6⟩
                  have HX6 : Kp _ := ⟨HX5.out.below hb6 HX5.out.lt⟩
                  have HW6 : Kp (Below w.heap.size w w6) := ⟨HW5.out.trans (hb6.mono HW5.out.size)⟩
                  clear hr6 hb6 HX5 HR5 HW5 HKw5 HLw5
                  go_wp2_with (with_reducible refine wpList_alloc (o := ⟨some 18, _, _, _, _, _⟩) tySeal rfl rfl ?_)
                  intro w7 hk7 hb7 hs7
                  have HK7 : Kp _ := ⟨hk7⟩
                  have HB7 : Kp _ := ⟨hb7⟩
                  clear hk7 hb7 hs7
                  go_wp2_with (with_reducible refine wpList_storeAll (o := ⟨none, _, _, _, _, _⟩) (vs := rcL (decR (chooseO key ctr ls)).num (decR (chooseO key ctr ls)).blk A6 n6 c6 D6 m6 e6) rwSeal rfl (.tmp 18) (.tmp 95) rfl rfl HK7.out rfl rfl (rcL_one _ _ _ _ _ _ _ _) rfl ?_)
                  intro w8 hk8 ho8
                  have hb68 : Below w6.heap.size w6 w8 := HB7.out.trans (ho8.below (Nat.le_refl _))
                  have HY8 : Kp _ := ⟨hk8⟩
                  have HX8 : Kp _ := ⟨HX6.out.below hb68 HX6.out.lt⟩
                  have HR8 : Kp _ := ⟨HR6.out.next hb68 (Nat.le_refl _)⟩
                  have HQ8 : Kp _ := ⟨HQ6.out.next hb68 (Nat.le_refl _)⟩
                  have HW8 : Kp (Below w.heap.size w w8) := ⟨HW6.out.trans (hb68.mono HW6.out.size)⟩
                  clear hk8 ho8 hb68 HK7 HB7 HX6 HR6 HQ6 HW6
                  generalize chooseO key ctr ls = q at *
                  have hff : (decF q == decF q) = true := by simp
                  have hpp : (partsI a == partsI a) = true := by simp
                  generalize decF q = F at *
                  go_wp2_with (first
                    | (with_reducible refine wpList_loadAll (o := ⟨some 97, _, _, _, _, _⟩) rwSeal rfl (.tmp 16) rfl rfl HX8.out rfl ?_)
                    | (with_reducible refine wpList_loadAll (o := ⟨some 98, _, _, _, _, _⟩) rwSeal rfl (.tmp 18) rfl rfl HY8.out rfl ?_))
                  refine (refsame_as true (decR q) (decR q) A3 n3 c3 D3 m3 e3 A6 n6 c6 D6 m6 e6 w8 HR8.out HQ8.out (sameB_rfl _)).mono ?_
                  rintro xx w9 ⟨rfl, hb9⟩
                  have HW9 : Kp (Below w.heap.size w w9) := ⟨HW8.out.trans (hb9.mono HW8.out.size)⟩
                  clear hb9 HX8 HY8 HR8 HQ8 HW8
                  go_wp2_with fail
                  refine (parts_any a w9 (by have := HAa.out; omega)).mono ?_
                  rintro xx w10 ⟨rfl, hw10⟩
                  subst hw10
                  go_wp2_with fail
                  refine (refparts_any a _ HAa.out).mono ?_
                  rintro xx w11 ⟨rfl, hw11⟩
                  subst hw11
                  go_wp2_with fail
                  refine (known8_any _).mono ?_
                  rintro xk wk ⟨rfl, hbk⟩
                  have HBk : Kp (Below w.heap.size w wk) := ⟨HW9.out.trans (hbk.mono HW9.out.size)⟩
                  clear hbk
                  go_wp2
                  go_ret
                  exact ⟨rfl, HBk.out⟩
end Go.Proofs.Ytadpfbjpkbpanaa
