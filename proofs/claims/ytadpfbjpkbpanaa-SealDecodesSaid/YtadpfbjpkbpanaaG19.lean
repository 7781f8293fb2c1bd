/- The contract of Choose.
   The walk of SealChooses.
   Two rows of byte slices that grow beside one another. No program is named here but for its types. -/
import Derived.Test.YtadpfbjpkbpanaaG13
import Derived.Test.YtadpfbjpkbpanaaG04
import Derived.Test.YtadpfbjpkbpanaaG16
import Derived.Test.YtadpfbjpkbpanaaG01
import Derived.Test.YtadpfbjpkbpanaaG11
namespace Go.Proofs.Ytadpfbjpkbpanaa
open Go.RowKit

theorem pickO_succ (key : List UInt8) (n : Nat) (ls : List (List UInt8)) (k : Nat) (h : k < ls.length) :
    pickO key n (ls.take (k + 1)) = (pickO key n (ls.take k)).or (match decO key ls[k] with | some r => if r.num = n then some r else none | none => none) := by
  unfold pickO
  rw [List.take_succ_eq_append_getElem h, List.filterMap_append, List.find?_append]
  congr 1
  cases hd : decO key ls[k] with
  | none => simp [List.filterMap, hd]
  | some r =>
    simp only [List.filterMap_cons, List.filterMap_nil, hd, List.find?_cons, List.find?_nil]
    by_cases hn : r.num = n
    · simp [hn]
    · simp [hn]
theorem pickO_all {key : List UInt8} {n : Nat} {ls : List (List UInt8)} {k : Nat} {r : Rc} (h : pickO key n (ls.take k) = some r) : pickO key n ls = some r := by
  unfold pickO at *
  rw [← List.take_append_drop k ls, List.filterMap_append, List.find?_append, h]
  rfl
/-- what is known of the next number, of the first k -/
noncomputable def nextO (key : List UInt8) (n : Nat) (l : List (List UInt8)) : Option Rc := if n + 1 < 18446744073709551616 then pickO key (n + 1) l else none
theorem chooseO_next {key : List UInt8} {n : Nat} {ls : List (List UInt8)} {k : Nat} {r : Rc} (h : nextO key n (ls.take k) = some r) : chooseO key n ls = some r := by
  unfold nextO at h
  unfold chooseO
  split at h
  · rename_i hn
    rw [if_pos hn, pickO_all h]; rfl
  · cases h
theorem chooseO_end {key : List UInt8} {n : Nat} {ls : List (List UInt8)} {k : Nat} (hk : ls.length ≤ k) (h : nextO key n (ls.take k) = none) : chooseO key n ls = pickO key n (ls.take k) := by
  rw [List.take_of_length_le hk] at *
  unfold nextO at h
  unfold chooseO
  rw [h]; rfl
theorem nextO_succ (key : List UInt8) (n : Nat) (ls : List (List UInt8)) (k : Nat) (h : k < ls.length) (h0 : nextO key n (ls.take k) = none) :
    nextO key n (ls.take (k + 1)) = (match decO key ls[k] with | some r => if n + 1 < 18446744073709551616 ∧ r.num = n + 1 then some r else none | none => none) := by
  unfold nextO at *
  split at h0
  · rename_i hn
    rw [if_pos hn, pickO_succ key (n + 1) ls k h, h0]
    cases decO key ls[k] with
    | none => rfl
    | some r => simp [hn]
  · rename_i hn
    rw [if_neg hn]
    cases decO key ls[k] with
    | none => rfl
    | some r => simp [hn]
theorem nextO_zero (key : List UInt8) (n : Nat) (ls : List (List UInt8)) : nextO key n (ls.take 0) = none := by
  unfold nextO pickO; simp
theorem pickO_zero (key : List UInt8) (n : Nat) (ls : List (List UInt8)) : pickO key n (ls.take 0) = none := by
  unfold pickO; simp

set_option maxRecDepth 100000 in
set_option maxHeartbeats 8000000 in
theorem pick8_any (key : List UInt8) (KA : Option Addr) (kn kc : Nat) (ctr : Nat) (B : Option Addr) (m d : Nat) (ls : List (List UInt8)) (w : World) (hK : Bs w w.heap.size KA kn kc key) (hB : Ls w w.heap.size B m d ls) (hkn : kn ≤ 524288) (hc : ctr < 18446744073709551616) (hl : ∀ x ∈ ls, x.length ≤ 1000000) :
    Calls Try.prog 25 #[.slice KA kn kc, .int .u64 ctr, .slice B m d] w fun x w' => ∃ A' n' c' D m' e', x = .returned (.tuple #[rcV (decR (chooseO key ctr ls)) A' n' c' D m' e', .int .i64 (decF (chooseO key ctr ls))]) ∧ Rs w' w'.heap.size A' n' c' D m' e' (decR (chooseO key ctr ls)) ∧ Below w.heap.size w w' := by
  have HK : Kp _ := ⟨hK⟩
  have HB : Kp _ := ⟨hB⟩
  have HKn : Kp _ := ⟨hkn⟩
  have HLl : Kp _ := ⟨hl⟩
  have HLm : Kp (ls.length = m) := ⟨hB.len⟩
  have hm63 := hB.le
  have HCt : Kp _ := ⟨hc⟩
  clear hK hB hkn hl hc
  go_enter Try.func25, Try.ntmps25
  first | go_step3 | skip
  go_wp2_with (with_reducible refine wpList_alloc (o := ⟨some 6, _, _, _, _, _⟩) tySeal rfl rfl ?_)
  intro w1 hk1 hb1 hs1
  have HKr : Kp _ := ⟨hk1⟩
  have HB1 : Kp (Below w.heap.size w w1) := ⟨hb1⟩
  clear hk1 hb1 hs1
  go_wp2_with fail
  first | go_step3 | skip
  go_wp2_with (with_reducible refine wpList_alloc (o := ⟨some 8, _, _, _, _, _⟩) tySeal rfl rfl ?_)
  intro w2 hk2 hb2 hs2
  have HC2 : Kp _ := ⟨hk2⟩
  have HW2 : Kp (Below w1.heap.size w1 w2) := ⟨hb2⟩
  obtain ⟨g, hg⟩ : ∃ g, g = w1.heap.size := ⟨_, rfl⟩
  rw [← hg] at HC2 HW2 ⊢
  have HG : Kp (w.heap.size < g) := ⟨by rw [hg]; exact HKr.out.lt⟩
  have HKo : Kp (∀ W, Below g w1 W → Bs W W.heap.size KA kn kc key) := ⟨fun W h => HK.out.next (HB1.out.trans (h.mono (Nat.le_of_lt HG.out))) (Nat.le_refl _)⟩
  have HLo : Kp (∀ W, Below g w1 W → Ls W W.heap.size B m d ls) := ⟨fun W h => HB.out.next (HB1.out.trans (h.mono (Nat.le_of_lt HG.out))) (Nat.le_refl _)⟩
  clear hk2 hb2 hs2 hg HK HB
  go_wp2
  try go_step3
  go_wp2
  go_loopg [9, 11, 12, 13, 16, 26, 29, 40] m (fun gk v9 v11 v12 v13 v16 v26 v29 v40 wr => ∃ (k : Nat) (f : Int) (p : Option Rc) (A' : Option Addr) (n' c' : Nat) (D : Option Addr) (m' e' : Nat), k + gk = m ∧ v9 = .int .i64 f ∧ v16 = .int .i64 k ∧ Kp (nextO key ctr (ls.take k) = none) ∧ Kp (pickO key ctr (ls.take k) = p) ∧ Kp (f = decF p) ∧
    Kp (Blk wr g 26 (rcL (decR p).num (decR p).blk A' n' c' D m' e')) ∧ Kp (Rs wr wr.heap.size A' n' c' D m' e' (decR p)) ∧ Kp (Below g w1 wr))
  case atStart => exact ⟨0, 5, none, none, 0, 0, none, 0, 0, by omega, rfl, rfl, ⟨nextO_zero _ _ _⟩, ⟨pickO_zero _ _ _⟩, ⟨rfl⟩, HC2, ⟨Rs.zero _ _⟩, HW2⟩
  case round =>
    clear HC2 HW2
    obtain ⟨k, f, p, A', n', c', D, m', e', hkg, rfl, rfl, HNx, HPk, HF, HC, HR, HW⟩ := hrel
    cases gk with
    | zero =>
      obtain rfl : k = m := by omega
      have HRes : Kp (chooseO key ctr ls = p) := ⟨by rw [chooseO_end (by rw [HLm.out]; exact Nat.le_refl _) HNx.out]; exact HPk.out⟩
      have HKr4 : Kp _ := ⟨HKr.out.below HW.out HG.out⟩
      go_wp2_with (first
        | (with_reducible refine wpList_loadAll (o := ⟨some 51, _, _, _, _, _⟩) rwSeal rfl (.tmp 8) rfl rfl HC.out rfl ?_)
        | (with_reducible refine wpList_storeAll (o := ⟨none, _, _, _, _, _⟩) (vs := rcL (decR p).num (decR p).blk A' n' c' D m' e') rwSeal rfl (.tmp 6) (.tmp 51) rfl rfl HKr4.out rfl rfl (rcL_one _ _ _ _ _ _ _ _) rfl ?_))
      intro w9 hk9 ho9
      have HK9 : Kp _ := ⟨hk9⟩
      have HB9 : Kp (Below w.heap.size w w9) := ⟨(HB1.out.trans (HW.out.mono (Nat.le_of_lt HG.out))).trans (ho9.below (Nat.le_refl _))⟩
      have HR9 : Kp _ := ⟨HR.out.over ho9 HKr4.out⟩
      clear hk9 ho9
      go_wp2
      simp only [Exit.noGoto]
      refine ret_two rfl rwSeal rfl rfl HK9.out rfl rfl ?_
      rw [HRes.out]
      exact ⟨A', n', c', D, m', e', by rw [HF.out]; rfl, HR9.out, HB9.out⟩
    | succ g2 =>
      have hlt : k < m := by omega
      have hkl : k < ls.length := by rw [HLm.out]; exact hlt
      obtain ⟨b1, o1, A1, n1, c1, rfl, _, hcell, hbs⟩ := (HLo.out wr HW.out).at hlt
      have HBs : Kp _ := ⟨hbs⟩
      have HN1 : Kp (n1 ≤ 1000000) := ⟨by have h1 := hbs.len; have h2 := HLl.out _ (List.getElem_mem hkl); omega⟩
      have HKw : Kp _ := ⟨HKo.out wr HW.out⟩
      have HNs : Kp _ := ⟨nextO_succ key ctr ls k hkl HNx.out⟩
      have HPs : Kp _ := ⟨pickO_succ key ctr ls k hkl⟩
      generalize ls[k] = x at *
      clear hbs
      go_wp2_with fail
      refine (decode_any key KA kn kc A1 n1 c1 x wr HKw.out HBs.out HKn.out HN1.out).mono ?_
      rintro xx w3 ⟨A3, n3, c3, D3, m3, e3, rfl, hr3, _, _, hb3⟩
      have HR3 : Kp _ := ⟨hr3⟩
      have HC3 : Kp _ := ⟨HC.out.below hb3 HC.out.lt⟩
      have HRp3 : Kp _ := ⟨HR.out.next hb3 (Nat.le_refl _)⟩
      have HW3 : Kp (Below g w1 w3) := ⟨HW.out.trans (hb3.mono (Nat.le_of_lt HC.out.lt))⟩
      clear hr3 hb3 HC HR HW HKw HBs hcell
      go_wp2_with (with_reducible refine wpList_alloc (o := ⟨some 12, _, _, _, _, _⟩) tySeal rfl rfl ?_)
      intro w4 hk4 hb4 hs4
      have HK4 : Kp _ := ⟨hk4⟩
      have HB4 : Kp _ := ⟨hb4⟩
      clear hk4 hb4 hs4
      go_wp2_with (with_reducible refine wpList_storeAll (o := ⟨none, _, _, _, _, _⟩) (vs := rcL (decR (decO key x)).num (decR (decO key x)).blk A3 n3 c3 D3 m3 e3) rwSeal rfl (.tmp 12) (.tmp 24) rfl rfl HK4.out rfl rfl (rcL_one _ _ _ _ _ _ _ _) rfl ?_)
      intro w5 hk5 ho5
      have hb35 : Below w3.heap.size w3 w5 := HB4.out.trans (ho5.below (Nat.le_refl _))
      have HX5 : Kp _ := ⟨hk5⟩
      have HR5 : Kp _ := ⟨HR3.out.next hb35 (Nat.le_refl _)⟩
      have HC5 : Kp _ := ⟨HC3.out.below hb35 HC3.out.lt⟩
      have HRp5 : Kp _ := ⟨HRp3.out.next hb35 (Nat.le_refl _)⟩
      have HW5 : Kp (Below g w1 w5) := ⟨HW3.out.trans (hb35.mono (Nat.le_of_lt HC3.out.lt))⟩
      clear hk5 ho5 hb35 HK4 HB4 HR3 HC3 HRp3 HW3
      cases hd : decO key x with
      | none =>
        rw [hd] at HNs HPs HX5 HR5
        have HN2 : Kp (nextO key ctr (ls.take (k + 1)) = none) := ⟨HNs.out⟩
        have HP2 : Kp (pickO key ctr (ls.take (k + 1)) = p) := ⟨by rw [HPs.out, HPk.out]; simp⟩
        have hf5 : (decF none : Int) = 5 := rfl
        rw [hf5]
        clear hd hf5 HNs HPs
        go_wp2
        go_roundg g2
        case measure => omega
        case rel => exact ⟨k + 1, f, p, A', n', c', D, m', e', by omega, rfl, by go_num, HN2, HP2, HF, HC5, HRp5, HW5⟩
      | some r =>
        rw [hd] at HNs HPs HX5 HR5
        have hf0 : (decF (some r) : Int) = 0 := rfl
        rw [hf0]
        have HX : Kp (Blk w5 w3.heap.size 26 (rcL r.num r.blk A3 n3 c3 D3 m3 e3)) := ⟨HX5.out⟩
        have HRr : Kp (Rs w5 w5.heap.size A3 n3 c3 D3 m3 e3 r) := ⟨HR5.out⟩
        have x0 : w5.cell? ⟨w3.heap.size, 0, none⟩ = some (.int .u64 r.num) := HX.out.cell? 0
        have HCt2 : Kp _ := ⟨HCt.out⟩
        have hct : ctr < 18446744073709551616 := HCt.out
        clear hd hf0 HX5 HR5
        by_cases hnx : ctr + 1 < 18446744073709551616 ∧ r.num = ctr + 1
        · have HRes : Kp (chooseO key ctr ls = some r) := ⟨chooseO_next (k := k + 1) (by rw [HNs.out]; exact if_pos hnx)⟩
          have d1 : decide ((ctr : Int) < 18446744073709551615) = true := decide_eq_true (by omega)
          have wc1 : IntKind.u64.wrap ((ctr : Int) + 1) = (r.num : Int) := by rw [IntKind.wrap_u64]; omega
          have d2 : ((r.num : Int) == (r.num : Int)) = true := by simp
          clear hnx HNs HPs hct
          go_wp2_with (first
            | (with_reducible refine wpList_loadAll (o := ⟨some 39, _, _, _, _, _⟩) rwSeal rfl (.tmp 12) rfl rfl HX.out rfl ?_)
            | (with_reducible refine wpList_storeAll (o := ⟨none, _, _, _, _, _⟩) (vs := rcL r.num r.blk A3 n3 c3 D3 m3 e3) rwSeal rfl (.tmp 8) (.tmp 39) rfl rfl HC5.out rfl rfl (rcL_one _ _ _ _ _ _ _ _) rfl ?_))
          intro w6 hk6 ho6
          have HC6 : Kp _ := ⟨hk6⟩
          have HR6 : Kp (Rs w6 w6.heap.size A3 n3 c3 D3 m3 e3 r) := ⟨HRr.out.over ho6 HC5.out⟩
          have HW6 : Kp (Below g w1 w6) := ⟨HW5.out.trans (ho6.below (Nat.le_refl _))⟩
          clear hk6 ho6 x0 d1 d2 wc1
          have HKr4 : Kp _ := ⟨HKr.out.below HW6.out HG.out⟩
          go_wp2_with (first
            | (with_reducible refine wpList_loadAll (o := ⟨some 51, _, _, _, _, _⟩) rwSeal rfl (.tmp 8) rfl rfl HC6.out rfl ?_)
            | (with_reducible refine wpList_storeAll (o := ⟨none, _, _, _, _, _⟩) (vs := rcL r.num r.blk A3 n3 c3 D3 m3 e3) rwSeal rfl (.tmp 6) (.tmp 51) rfl rfl HKr4.out rfl rfl (rcL_one _ _ _ _ _ _ _ _) rfl ?_))
          intro w9 hk9 ho9
          have HK9 : Kp _ := ⟨hk9⟩
          have HB9 : Kp (Below w.heap.size w w9) := ⟨(HB1.out.trans (HW6.out.mono (Nat.le_of_lt HG.out))).trans (ho9.below (Nat.le_refl _))⟩
          have HR9 : Kp _ := ⟨HR6.out.over ho9 HKr4.out⟩
          clear hk9 ho9
          go_wp2
          simp only [Exit.noGoto]
          refine ret_two rfl rwSeal rfl rfl HK9.out rfl rfl ?_
          rw [HRes.out]
          exact ⟨A3, n3, c3, D3, m3, e3, rfl, HR9.out, HB9.out⟩
        · have HN2 : Kp (nextO key ctr (ls.take (k + 1)) = none) := ⟨by rw [HNs.out]; exact if_neg hnx⟩
          by_cases hq : r.num = ctr
          · cases hp : p with
            | none =>
              have HP2 : Kp (pickO key ctr (ls.take (k + 1)) = some r) := ⟨by rw [HPs.out, HPk.out, hp]; simp [hq]⟩
              have HF5 : Kp (f = 5) := ⟨by rw [HF.out, hp]; rfl⟩
              obtain rfl : f = 5 := HF5.out
              rw [hp] at HC5
              by_cases hmx : ctr + 1 < 18446744073709551616
              · have d1 : decide ((ctr : Int) < 18446744073709551615) = true := decide_eq_true (by omega)
                have wc1 : IntKind.u64.wrap ((ctr : Int) + 1) = ((ctr + 1 : Nat) : Int) := by rw [IntKind.wrap_u64]; omega
                have d2 : ((r.num : Int) == ((ctr + 1 : Nat) : Int)) = false := by simp; omega
                have d2' : ((r.num : Int) == (ctr : Int) + 1) = false := by simp; omega
                have q1 : ((r.num : Int) == (ctr : Int)) = true := by simp; omega
                clear hnx HNs HPs hct hmx hq
                go_wp2_with (first
                  | (with_reducible refine wpList_loadAll (o := ⟨some 49, _, _, _, _, _⟩) rwSeal rfl (.tmp 12) rfl rfl HX.out rfl ?_)
                  | (with_reducible refine wpList_storeAll (o := ⟨none, _, _, _, _, _⟩) (vs := rcL r.num r.blk A3 n3 c3 D3 m3 e3) rwSeal rfl (.tmp 8) (.tmp 49) rfl rfl HC5.out rfl rfl (rcL_one _ _ _ _ _ _ _ _) rfl ?_))
                intro w6 hk6 ho6
                have HC6 : Kp _ := ⟨hk6⟩
                have HR6 : Kp (Rs w6 w6.heap.size A3 n3 c3 D3 m3 e3 r) := ⟨HRr.out.over ho6 HC5.out⟩
                have HW6 : Kp (Below g w1 w6) := ⟨HW5.out.trans (ho6.below (Nat.le_refl _))⟩
                clear hk6 ho6 x0
                go_wp2
                go_roundg g2
                case measure => omega
                case rel => exact ⟨k + 1, 0, some r, A3, n3, c3, D3, m3, e3, by omega, rfl, by go_num, HN2, HP2, ⟨rfl⟩, HC6, HR6, HW6⟩
              · have d1 : decide ((ctr : Int) < 18446744073709551615) = false := decide_eq_false (by omega)
                have q1 : ((r.num : Int) == (ctr : Int)) = true := by simp; omega
                clear hnx HNs HPs hct hmx hq
                go_wp2_with (first
                  | (with_reducible refine wpList_loadAll (o := ⟨some 49, _, _, _, _, _⟩) rwSeal rfl (.tmp 12) rfl rfl HX.out rfl ?_)
                  | (with_reducible refine wpList_storeAll (o := ⟨none, _, _, _, _, _⟩) (vs := rcL r.num r.blk A3 n3 c3 D3 m3 e3) rwSeal rfl (.tmp 8) (.tmp 49) rfl rfl HC5.out rfl rfl (rcL_one _ _ _ _ _ _ _ _) rfl ?_))
                intro w6 hk6 ho6
                have HC6 : Kp _ := ⟨hk6⟩
                have HR6 : Kp (Rs w6 w6.heap.size A3 n3 c3 D3 m3 e3 r) := ⟨HRr.out.over ho6 HC5.out⟩
                have HW6 : Kp (Below g w1 w6) := ⟨HW5.out.trans (ho6.below (Nat.le_refl _))⟩
                clear hk6 ho6 x0
                go_wp2
                go_roundg g2
                case measure => omega
                case rel => exact ⟨k + 1, 0, some r, A3, n3, c3, D3, m3, e3, by omega, rfl, by go_num, HN2, HP2, ⟨rfl⟩, HC6, HR6, HW6⟩
            | some p2 =>
              have HP2 : Kp (pickO key ctr (ls.take (k + 1)) = p) := ⟨by rw [HPs.out, HPk.out, hp]; simp⟩
              have HF0 : f = 0 := by rw [HF.out, hp]; rfl
              subst HF0
              by_cases hmx : ctr + 1 < 18446744073709551616
              · have d1 : decide ((ctr : Int) < 18446744073709551615) = true := decide_eq_true (by omega)
                have wc1 : IntKind.u64.wrap ((ctr : Int) + 1) = ((ctr + 1 : Nat) : Int) := by rw [IntKind.wrap_u64]; omega
                have d2 : ((r.num : Int) == ((ctr + 1 : Nat) : Int)) = false := by simp; omega
                have d2' : ((r.num : Int) == (ctr : Int) + 1) = false := by simp; omega
                have q1 : ((r.num : Int) == (ctr : Int)) = true := by simp; omega
                clear hnx HNs HPs hct hmx hq
                go_wp2
                go_roundg g2
                case measure => omega
                case rel => exact ⟨k + 1, 0, p, A', n', c', D, m', e', by omega, rfl, by go_num, HN2, HP2, HF, HC5, HRp5, HW5⟩
              · have d1 : decide ((ctr : Int) < 18446744073709551615) = false := decide_eq_false (by omega)
                have q1 : ((r.num : Int) == (ctr : Int)) = true := by simp; omega
                clear hnx HNs HPs hct hmx hq
                go_wp2
                go_roundg g2
                case measure => omega
                case rel => exact ⟨k + 1, 0, p, A', n', c', D, m', e', by omega, rfl, by go_num, HN2, HP2, HF, HC5, HRp5, HW5⟩
          · have HP2 : Kp (pickO key ctr (ls.take (k + 1)) = p) := ⟨by rw [HPs.out, HPk.out]; simp [hq]⟩
            by_cases hmx : ctr + 1 < 18446744073709551616
            · have d1 : decide ((ctr : Int) < 18446744073709551615) = true := decide_eq_true (by omega)
              have wc1 : IntKind.u64.wrap ((ctr : Int) + 1) = ((ctr + 1 : Nat) : Int) := by rw [IntKind.wrap_u64]; omega
              have d2 : ((r.num : Int) == ((ctr + 1 : Nat) : Int)) = false := by simp; omega
              have d2' : ((r.num : Int) == (ctr : Int) + 1) = false := by simp; omega
              have q1 : ((r.num : Int) == (ctr : Int)) = false := by simp; omega
              clear hnx HNs HPs hct hmx hq
              go_wp2
              go_roundg g2
              case measure => omega
              case rel => exact ⟨k + 1, f, p, A', n', c', D, m', e', by omega, rfl, by go_num, HN2, HP2, HF, HC5, HRp5, HW5⟩
            · have d1 : decide ((ctr : Int) < 18446744073709551615) = false := decide_eq_false (by omega)
              have q1 : ((r.num : Int) == (ctr : Int)) = false := by simp; omega
              clear hnx HNs HPs hct hmx hq
              go_wp2
              go_roundg g2
              case measure => omega
              case rel => exact ⟨k + 1, f, p, A', n', c', D, m', e', by omega, rfl, by go_num, HN2, HP2, HF, HC5, HRp5, HW5⟩
end Go.Proofs.Ytadpfbjpkbpanaa

namespace Go.Proofs.Ytadpfbjpkbpanaa
open Go.RowKit

/-- the record of another number -/
def reN (r : Rc) (a : Nat) : Rc := ⟨a, r.blk, r.sl, r.su⟩
theorem reN_rt {r : Rc} (h : Rt r) (a : Nat) : Rt (reN r a) := ⟨h.lo, h.hi, h.sl, h.su, h.zero⟩
theorem reN_rs {w : World} {B : Nat} {A D : Option Addr} {n c m e : Nat} {r : Rc} (h : Rs w B A n c D m e r) {a : Nat} (ha : a < 18446744073709551616) : Rs w B A n c D m e (reN r a) := ⟨ha, h.blk, h.sl, h.su⟩
theorem reN_dec {key : List UInt8} {r : Rc} (hg : Rg r) (ht : Rt r) {a : Nat} (ha : a < 18446744073709551616) : decO key (encL key (reN r a)) = some (reN r a) := decO_of _ _ _ ⟨⟨ha, hg.wide⟩, reN_rt ht a, rfl⟩
theorem decO_nil (key : List UInt8) : decO key [] = none := decO_none _ _ fun ⟨r, h⟩ => by
  have := encL_len key r h.1
  rw [h.2.2] at this
  simp at this
  omega
theorem pick_two {key x y : List UInt8} {p q : Rc} (hx : decO key x = some p) (hy : decO key y = some q) (n : Nat) : pickO key n [x, y] = if p.num = n then some p else if q.num = n then some q else none := by
  unfold pickO
  simp only [List.filterMap_cons, List.filterMap_nil, hx, hy, List.find?_cons, List.find?_nil]
  by_cases h1 : p.num = n <;> by_cases h2 : q.num = n <;> simp [h1, h2]
theorem pick_three {key x y : List UInt8} {p q : Rc} (hx : decO key x = some p) (hy : decO key y = some q) (n : Nat) : pickO key n [x, [], y] = pickO key n [x, y] := by
  unfold pickO
  simp only [List.filterMap_cons, List.filterMap_nil, hx, hy, decO_nil]
theorem pick_swap {key x y : List UInt8} {p q : Rc} (hx : decO key x = some p) (hy : decO key y = some q) (hne : p.num ≠ q.num) (n : Nat) : pickO key n [y, x] = pickO key n [x, y] := by
  rw [pick_two hx hy, pick_two hy hx]
  by_cases h1 : p.num = n <;> by_cases h2 : q.num = n <;> simp [h1, h2]
  omega
theorem choose_swap {key x y : List UInt8} {p q : Rc} (hx : decO key x = some p) (hy : decO key y = some q) (hne : p.num ≠ q.num) (ctr : Nat) : chooseO key ctr [y, [], x] = chooseO key ctr [x, y] := by
  unfold chooseO
  rw [pick_three hy hx, pick_three hy hx, pick_swap hx hy hne, pick_swap hx hy hne]
/-- which one is chosen, of two -/
theorem choose_up {key x y : List UInt8} {p q : Rc} (hx : decO key x = some p) (hy : decO key y = some q) {ctr : Nat} (hc : ctr + 1 < 18446744073709551616) (h : p.num = ctr + 1 ∨ q.num = ctr + 1) : decF (chooseO key ctr [x, y]) = 0 ∧ (decR (chooseO key ctr [x, y])).num = ctr + 1 := by
  unfold chooseO
  rw [if_pos hc, pick_two hx hy, pick_two hx hy]
  by_cases h1 : p.num = ctr + 1
  · rw [if_pos h1]; exact ⟨rfl, h1⟩
  · have h2 : q.num = ctr + 1 := by omega
    rw [if_neg h1, if_pos h2]; exact ⟨rfl, h2⟩
theorem choose_now {key x y : List UInt8} {p q : Rc} (hx : decO key x = some p) (hy : decO key y = some q) {ctr : Nat} (hc : ¬ (ctr + 1 < 18446744073709551616 ∧ (p.num = ctr + 1 ∨ q.num = ctr + 1))) (h : p.num = ctr ∨ q.num = ctr) : decF (chooseO key ctr [x, y]) = 0 ∧ (decR (chooseO key ctr [x, y])).num = ctr := by
  have e1 : (if ctr + 1 < 18446744073709551616 then pickO key (ctr + 1) [x, y] else none) = none := by
    split
    · rename_i hh
      rw [pick_two hx hy, if_neg (fun h => hc ⟨hh, .inl h⟩), if_neg (fun h => hc ⟨hh, .inr h⟩)]
    · rfl
  unfold chooseO
  rw [e1, pick_two hx hy]
  by_cases h1 : p.num = ctr
  · rw [if_pos h1]; exact ⟨rfl, h1⟩
  · have h2 : q.num = ctr := by omega
    rw [if_neg h1, if_pos h2]; exact ⟨rfl, h2⟩
theorem choose_none {key x y : List UInt8} {p q : Rc} (hx : decO key x = some p) (hy : decO key y = some q) {ctr : Nat} (hc : ¬ (ctr + 1 < 18446744073709551616 ∧ (p.num = ctr + 1 ∨ q.num = ctr + 1))) (h : ¬ (p.num = ctr ∨ q.num = ctr)) : decF (chooseO key ctr [x, y]) = 5 := by
  have e1 : (if ctr + 1 < 18446744073709551616 then pickO key (ctr + 1) [x, y] else none) = none := by
    split
    · rename_i hh
      rw [pick_two hx hy, if_neg (fun h => hc ⟨hh, .inl h⟩), if_neg (fun h => hc ⟨hh, .inr h⟩)]
    · rfl
  unfold chooseO
  rw [e1, pick_two hx hy, if_neg (fun h1 => h (.inl h1)), if_neg (fun h1 => h (.inr h1))]
  rfl
theorem ls_three8 (W : World) (t : TypeId) {A C : Option Addr} {n c k f : Nat} {la lc : List UInt8} (ha : Bs W W.heap.size A n c la) (hc : Bs W W.heap.size C k f lc) :
    Ls (W.alloc (.cells #[.slice A n c, .slice none 0 0, .slice C k f] t)) (W.alloc (.cells #[.slice A n c, .slice none 0 0, .slice C k f] t)).heap.size (some ⟨W.heap.size, 0, none⟩) 3 3 [la, [], lc] := by
  refine ⟨rfl, Nat.le_refl _, by decide, (fun h => by cases h), fun _ => ⟨W.heap.size, 0, rfl, by simp, fun j hj => ?_⟩⟩
  rcases (by simp at hj; omega : j = 0 ∨ j = 1 ∨ j = 2) with rfl | rfl | rfl
  · refine ⟨A, n, c, ?_, (ha.alloc (Nat.le_refl _) _).more (by simp)⟩
    rw [World.cell?_alloc_at _ _ _ _ rfl]; rfl
  · refine ⟨none, 0, 0, ?_, Bs.zero _ _⟩
    rw [World.cell?_alloc_at _ _ _ _ rfl]; rfl
  · refine ⟨C, k, f, ?_, (hc.alloc (Nat.le_refl _) _).more (by simp)⟩
    rw [World.cell?_alloc_at _ _ _ _ rfl]; rfl
theorem u64_nat {z : Int} (h : (Lit.int .u64 z).wf = true) : ∃ k : Nat, z = (k : Int) ∧ k < 18446744073709551616 := by
  have := bounds_u64 h
  exact ⟨z.toNat, by omega, by omega⟩

set_option maxRecDepth 100000 in
set_option maxHeartbeats 8000000 in
theorem law_sealChooses (KA : Option Addr) (kn kc : Nat) (key : List UInt8) (r : Rc) (A : Option Addr) (n c : Nat) (D : Option Addr) (m e : Nat) (z1 z2 z3 : Int) (w : World) (hK0 : Bs w w.heap.size KA kn kc key ∧ kc ≤ 140737488351232)
    (hR : Rs w w.heap.size A n c D m e r) (hn : n ≤ 140737488351232) (hm : m * 32 ≤ 140737488351232) (hz1 : (Lit.int .u64 z1).wf = true) (hz2 : (Lit.int .u64 z2).wf = true) (hz3 : (Lit.int .u64 z3).wf = true) :
    Calls Try.prog 6 #[.slice KA kn kc, rcV r A n c D m e, .int .u64 z1, .int .u64 z2, .int .u64 z3] w fun x w' => x = .returned (.bool true) ∧ Below w.heap.size w w' := by
  have hK := hK0.1
  obtain ⟨a, rfl, ha⟩ := u64_nat hz1
  obtain ⟨b, rfl, hb⟩ := u64_nat hz2
  obtain ⟨ctr, rfl, hctr⟩ := u64_nat hz3
  obtain ⟨S1, hS1⟩ : ∃ S, n + 32 * m = S := ⟨_, rfl⟩
  have HK : Kp _ := ⟨hK⟩
  have hk63 := hK.le
  have HS1 : Kp _ := ⟨hS1⟩
  have HA : Kp _ := ⟨ha⟩
  have HB : Kp _ := ⟨hb⟩
  have HCt : Kp _ := ⟨hctr⟩
  have HN : Kp (n ≤ 140737488351232 ∧ m * 32 ≤ 140737488351232) := ⟨⟨hn, hm⟩⟩
  have HRo : Kp (∀ W, Below w.heap.size w W → Rs W W.heap.size A n c D m e r) := ⟨fun W h => hR.next h (Nat.le_refl _)⟩
  have HKo : Kp (∀ W, Below w.heap.size w W → Bs W W.heap.size KA kn kc key) := ⟨fun W h => hK.next h (Nat.le_refl _)⟩
  have HG : Kp _ := ⟨rg_of hR⟩
  clear hR hn hm hK hK0 hS1 hz1 hz2 hz3 ha hb hctr
  go_enter Try.func6, Try.ntmps6
  go_wp2_with (with_reducible refine wpList_box (o := ⟨some 6, _, _, _, _, _⟩) (cs := rcL r.num r.blk A n c D m e) rfl (.tmp 1) rfl rfl ?_)
  intro w1 hk1 hb1 hs1
  have HX1 : Kp _ := ⟨hk1⟩
  have HB1 : Kp _ := ⟨hb1⟩
  clear hk1 hb1 hs1
  by_cases hk : 100 < kn
  · have dk : decide ((100 : Int) < (kn : Int)) = true := decide_eq_true (by omega)
    clear hk
    go_wp2_with fail
    refine (known8_any w1).mono ?_
    rintro xk wk ⟨rfl, hbk⟩
    have HBk : Kp (Below w.heap.size w wk) := ⟨HB1.out.trans (hbk.mono HB1.out.size)⟩
    clear hbk
    go_wp2
    go_ret
    exact ⟨rfl, HBk.out⟩
  · have dk : decide ((100 : Int) < (kn : Int)) = false := decide_eq_false (by omega)
    have HK100 : Kp (kn ≤ 100) := ⟨by omega⟩
    clear hk
    go_wp2_with (with_reducible refine wpList_loadAll_g (o := ⟨some 27, _, _, _, _, _⟩) rwSeal (by kernel_rfl) (.tmp 6) rfl rfl HX1.out rfl ?_)
    refine (reflong_as S1 r A n c D m e w1 HN.out.1 HN.out.2 HS1.out).mono ?_
    rintro x w2 ⟨rfl, hb2⟩
    have HX2 : Kp _ := ⟨HX1.out.below hb2 HX1.out.lt⟩
    have HB2 : Kp (Below w.heap.size w w2) := ⟨HB1.out.trans (hb2.mono HB1.out.size)⟩
    clear hb2 HX1 HB1
    by_cases hs : 1000 < S1
    · have ds : decide ((1000 : Int) < (S1 : Int)) = true := decide_eq_true (by omega)
      clear hs
      go_wp2_with fail
      refine (known8_any w2).mono ?_
      rintro xk wk ⟨rfl, hbk⟩
      have HBk : Kp (Below w.heap.size w wk) := ⟨HB2.out.trans (hbk.mono HB2.out.size)⟩
      clear hbk
      go_wp2
      go_ret
      exact ⟨rfl, HBk.out⟩
    · have ds : decide ((1000 : Int) < (S1 : Int)) = false := decide_eq_false (by omega)
      have HSm : Kp (n ≤ 1000 ∧ m ≤ 31) := ⟨by have := HS1.out; omega⟩
      clear hs
      have HR2 : Kp _ := ⟨HRo.out w2 HB2.out⟩
      go_wp2_with (with_reducible refine wpList_loadAll_g (o := ⟨some 32, _, _, _, _, _⟩) rwSeal (by kernel_rfl) (.tmp 6) rfl rfl HX2.out rfl ?_)
      refine (refright_any r A n c D m e w2 HR2.out (by have := HSm.out; omega)).mono ?_
      rintro x w3 ⟨rfl, hb3⟩
      have HX3 : Kp _ := ⟨HX2.out.below hb3 HX2.out.lt⟩
      have HB3 : Kp (Below w.heap.size w w3) := ⟨HB2.out.trans (hb3.mono HB2.out.size)⟩
      clear hb3 HX2 HB2 HR2
      by_cases ht : Rt r
      · have hd : decide (Rt r) = true := decide_eq_true ht
        rw [hd]
        have HT : Kp _ := ⟨ht⟩
        clear ht hd
        by_cases hab : a = b
        · have eab : ((a : Int) == (b : Int)) = true := by simp; omega
          clear hab
          go_wp2_with fail
          refine (known8_any w3).mono ?_
          rintro xk wk ⟨rfl, hbk⟩
          have HBk : Kp (Below w.heap.size w wk) := ⟨HB3.out.trans (hbk.mono HB3.out.size)⟩
          clear hbk
          go_wp2
          go_ret
          exact ⟨rfl, HBk.out⟩
        · have eab : ((a : Int) == (b : Int)) = false := by simp; omega
          have HAB : Kp _ := ⟨hab⟩
          have c0 : w3.cell? ⟨w.heap.size, 0, none⟩ = some (.int .u64 r.num) := HX3.out.cell? 0
          have f0 : w3.frozen? ⟨w.heap.size, 0, none⟩ = false := HX3.out.frozen 0
          have HX4 : Kp (Blk (w3.setCell ⟨w.heap.size, 0, none⟩ (.int .u64 a)) w.heap.size 26 (rcL a r.blk A n c D m e)) := ⟨HX3.out.set 0 _⟩
          have HB4 : Kp (Below w.heap.size w (w3.setCell ⟨w.heap.size, 0, none⟩ (.int .u64 a))) := ⟨HB3.out.setCell (p := ⟨w.heap.size, 0, none⟩) (Nat.le_refl _) _⟩
          clear hab
          go_wp2_with (with_reducible refine wpList_loadAll (o := ⟨some 46, _, _, _, _, _⟩) rwSeal rfl (.tmp 6) rfl rfl HX4.out rfl ?_)
          clear dk ds eab c0 f0 HX3 HB3 hk63
          generalize w3.setCell ⟨w.heap.size, 0, none⟩ (.int .u64 (a : Int)) = w4 at *
          have HRa : Kp (Rs w4 w4.heap.size A n c D m e (reN r a)) := ⟨reN_rs (HRo.out w4 HB4.out) HA.out⟩
          have HK4 : Kp _ := ⟨HKo.out w4 HB4.out⟩
          obtain ⟨N1, hN1⟩ : ∃ N, (encL key (reN r a)).length = N := ⟨_, rfl⟩
          obtain ⟨N2, hN2⟩ : ∃ N, (encL key (reN r b)).length = N := ⟨_, rfl⟩
          have HN1 : Kp _ := ⟨hN1⟩
          have HN2 : Kp _ := ⟨hN2⟩
          have HNl : Kp (N1 ≤ 1000000 ∧ N2 ≤ 1000000) := ⟨by
            have h1 := (HRo.out w4 HB4.out).sl.len
            have h2 := (HRo.out w4 HB4.out).su.len
            have h3 := HSm.out
            rw [← hN1, ← hN2, encL_len key (reN r a) ⟨HA.out, HG.out.wide⟩, encL_len key (reN r b) ⟨HB.out, HG.out.wide⟩]
            show 48 + r.sl.length + 32 * r.su.length ≤ _ ∧ 48 + r.sl.length + 32 * r.su.length ≤ _
            omega⟩
          have HDa : Kp _ := ⟨reN_dec (key := key) HG.out HT.out HA.out⟩
          have HDb : Kp _ := ⟨reN_dec (key := key) HG.out HT.out HB.out⟩
          clear hN1 hN2
          refine (encode_yes key KA kn kc (reN r a) A n c D m e w4 HK4.out HRa.out (by have := HK100.out; omega) (reN_rt HT.out a) N1 HN1.out : Calls _ _ #[_, _] _ _).mono ?_
          rintro x w5 ⟨A5, c5, rfl, hbs5, hb5⟩
          have HE5 : Kp _ := ⟨hbs5⟩
          have HX5 : Kp _ := ⟨HX4.out.below hb5 HX4.out.lt⟩
          have HB5 : Kp (Below w.heap.size w w5) := ⟨HB4.out.trans (hb5.mono HB4.out.size)⟩
          have c5' : w5.cell? ⟨w.heap.size, 0, none⟩ = some (.int .u64 a) := HX5.out.cell? 0
          have f5' : w5.frozen? ⟨w.heap.size, 0, none⟩ = false := HX5.out.frozen 0
          have HX6 : Kp (Blk (w5.setCell ⟨w.heap.size, 0, none⟩ (.int .u64 b)) w.heap.size 26 (rcL b r.blk A n c D m e)) := ⟨HX5.out.set 0 _⟩
          have HB6 : Kp (Below w.heap.size w (w5.setCell ⟨w.heap.size, 0, none⟩ (.int .u64 b))) := ⟨HB5.out.setCell (p := ⟨w.heap.size, 0, none⟩) (Nat.le_refl _) _⟩
          have HE6 : Kp (Bs (w5.setCell ⟨w.heap.size, 0, none⟩ (.int .u64 b)) (w5.setCell ⟨w.heap.size, 0, none⟩ (.int .u64 b)).heap.size A5 N1 c5 (encL key (reN r a))) := ⟨(HE5.out.setrc (i := 0) HX5.out _).more (by simp)⟩
          clear hbs5 hb5 HRa HK4 HX4 HB4 HE5
          go_wp2_with (with_reducible refine wpList_loadAll (o := ⟨some 54, _, _, _, _, _⟩) rwSeal rfl (.tmp 6) rfl rfl HX6.out rfl ?_)
          clear c5' f5' HX5 HB5
          generalize w5.setCell ⟨w.heap.size, 0, none⟩ (.int .u64 (b : Int)) = w6 at *
          have HRb : Kp (Rs w6 w6.heap.size A n c D m e (reN r b)) := ⟨reN_rs (HRo.out w6 HB6.out) HB.out⟩
          have HK6 : Kp _ := ⟨HKo.out w6 HB6.out⟩
          refine (encode_yes key KA kn kc (reN r b) A n c D m e w6 HK6.out HRb.out (by have := HK100.out; omega) (reN_rt HT.out b) N2 HN2.out : Calls _ _ #[_, _] _ _).mono ?_
          rintro x w7 ⟨A7, c7, rfl, hbs7, hb7⟩
          have HE7 : Kp _ := ⟨HE6.out.next hb7 (Nat.le_refl _)⟩
          have HF7 : Kp _ := ⟨hbs7⟩
          have HB7 : Kp (Below w.heap.size w w7) := ⟨HB6.out.trans (hb7.mono HB6.out.size)⟩
          have HB8 : Kp (Below w.heap.size w (w7.alloc (.cells #[.slice A5 N1 c5, .slice A7 N2 c7] 22))) := ⟨HB7.out.alloc HB7.out.size _⟩
          have HL8 : Kp _ := ⟨ls_two w7 22 HE7.out HF7.out⟩
          have HK8 : Kp _ := ⟨HKo.out _ HB8.out⟩
          have HE8 : Kp _ := ⟨HE7.out.next ((Below.refl _ _).alloc (Nat.le_refl _) (.cells #[.slice A5 N1 c5, .slice A7 N2 c7] 22)) (Nat.le_refl _)⟩
          have HF8 : Kp _ := ⟨HF7.out.next ((Below.refl _ _).alloc (Nat.le_refl _) (.cells #[.slice A5 N1 c5, .slice A7 N2 c7] 22)) (Nat.le_refl _)⟩
          obtain ⟨p, hp⟩ : ∃ p, chooseO key ctr [encL key (reN r a), encL key (reN r b)] = p := ⟨_, rfl⟩
          have HP : Kp _ := ⟨hp⟩
          have HP2 : Kp (chooseO key ctr [encL key (reN r b), [], encL key (reN r a)] = p) := ⟨by rw [choose_swap HDa.out HDb.out HAB.out]; exact hp⟩
          have HUp : Kp (ctr + 1 < 18446744073709551616 → (a = ctr + 1 ∨ b = ctr + 1) → decF p = 0 ∧ (decR p).num = ctr + 1) := ⟨fun h1 h2 => by rw [← hp]; exact choose_up HDa.out HDb.out h1 h2⟩
          have HNow : Kp (¬ (ctr + 1 < 18446744073709551616 ∧ (a = ctr + 1 ∨ b = ctr + 1)) → (a = ctr ∨ b = ctr) → decF p = 0 ∧ (decR p).num = ctr) := ⟨fun h1 h2 => by rw [← hp]; exact choose_now HDa.out HDb.out h1 h2⟩
          have HNone : Kp (¬ (ctr + 1 < 18446744073709551616 ∧ (a = ctr + 1 ∨ b = ctr + 1)) → ¬ (a = ctr ∨ b = ctr) → decF p = 5) := ⟨fun h1 h2 => by rw [← hp]; exact choose_none HDa.out HDb.out h1 h2⟩
          have HLen2 : Kp (∀ x ∈ [encL key (reN r a), encL key (reN r b)], x.length ≤ 1000000) := ⟨fun x hx => by simp at hx; rcases hx with rfl | rfl; (rw [HN1.out]; exact HNl.out.1); (rw [HN2.out]; exact HNl.out.2)⟩
          have HLen3 : Kp (∀ x ∈ [encL key (reN r b), [], encL key (reN r a)], x.length ≤ 1000000) := ⟨fun x hx => by simp at hx; rcases hx with rfl | rfl | rfl; (rw [HN2.out]; exact HNl.out.2); simp; (rw [HN1.out]; exact HNl.out.1)⟩
          clear hbs7 hb7 HRb HK6 HX6 HB6 HE6 HE7 HF7 hp
          go_wp2_with fail
          refine (pick8_any key KA kn kc ctr _ 2 2 _ _ HK8.out HL8.out (by have := HK100.out; omega) HCt.out HLen2.out).mono ?_
          rintro x w9 ⟨A9, n9, c9, D9, m9, e9, rfl, hr9, hb9⟩
          rw [HP.out] at hr9 ⊢
          have HY9 : Kp _ := ⟨hr9⟩
          have HB9 : Kp (Below w.heap.size w w9) := ⟨HB8.out.trans (hb9.mono HB8.out.size)⟩
          have HE9 : Kp _ := ⟨HE8.out.next hb9 (Nat.le_refl _)⟩
          have HF9 : Kp _ := ⟨HF8.out.next hb9 (Nat.le_refl _)⟩
          clear hr9 hb9 HB7 HB8 HL8 HK8 HE8 HF8 HLen2
          go_wp2_with (with_reducible refine wpList_alloc (o := ⟨some 15, _, _, _, _, _⟩) tySeal rfl rfl ?_)
          intro w10 hk10 hb10 hs10
          have HK10 : Kp _ := ⟨hk10⟩
          have HB10 : Kp _ := ⟨hb10⟩
          clear hk10 hb10 hs10
          go_wp2_with (with_reducible refine wpList_storeAll (o := ⟨none, _, _, _, _, _⟩) (vs := rcL (decR p).num (decR p).blk A9 n9 c9 D9 m9 e9) rwSeal rfl (.tmp 15) (.tmp 65) rfl rfl HK10.out rfl rfl (rcL_one _ _ _ _ _ _ _ _) rfl ?_)
          intro w11 hk11 ho11
          have hb911 : Below w9.heap.size w9 w11 := HB10.out.trans (ho11.below (Nat.le_refl _))
          have HYx11 : Kp _ := ⟨hk11⟩
          have HY11 : Kp _ := ⟨HY9.out.next hb911 (Nat.le_refl _)⟩
          have HE11 : Kp _ := ⟨HE9.out.next hb911 (Nat.le_refl _)⟩
          have HF11 : Kp _ := ⟨HF9.out.next hb911 (Nat.le_refl _)⟩
          have HB11 : Kp (Below w.heap.size w w11) := ⟨HB9.out.trans (hb911.mono HB9.out.size)⟩
          have HB12 : Kp (Below w.heap.size w (w11.alloc (.cells #[.slice A7 N2 c7, .slice none 0 0, .slice A5 N1 c5] 22))) := ⟨HB11.out.alloc HB11.out.size _⟩
          have hba : Below w11.heap.size w11 (w11.alloc (.cells #[.slice A7 N2 c7, .slice none 0 0, .slice A5 N1 c5] 22)) := (Below.refl _ _).alloc (Nat.le_refl _) _
          have HL12 : Kp _ := ⟨ls_three8 w11 22 HF11.out HE11.out⟩
          have HK12 : Kp _ := ⟨HKo.out _ HB12.out⟩
          have HY12 : Kp _ := ⟨HY11.out.next hba (Nat.le_refl _)⟩
          have HYx12 : Kp _ := ⟨HYx11.out.below hba HYx11.out.lt⟩
          clear hk11 ho11 hb911 hba HK10 HB10 HY9 HE9 HF9 HB9 HY11 HYx11 HE11 HF11
          go_wp2_with fail
          refine (pick8_any key KA kn kc ctr _ 3 3 _ _ HK12.out HL12.out (by have := HK100.out; omega) HCt.out HLen3.out).mono ?_
          rintro x w13 ⟨A13, n13, c13, D13, m13, e13, rfl, hr13, hb13⟩
          rw [HP2.out] at hr13 ⊢
          have HZ13 : Kp _ := ⟨hr13⟩
          have HB13 : Kp (Below w.heap.size w w13) := ⟨HB12.out.trans (hb13.mono HB12.out.size)⟩
          have HY13 : Kp _ := ⟨HY12.out.next hb13 (Nat.le_refl _)⟩
          have HYx13 : Kp _ := ⟨HYx12.out.below hb13 HYx12.out.lt⟩
          obtain ⟨g15, hg15⟩ : ∃ x, x = w9.heap.size := ⟨_, rfl⟩
          rw [← hg15] at HYx13 ⊢
          clear hr13 hb13 HB11 HB12 HL12 HK12 HY12 HYx12 HLen3 hg15
          go_wp2_with (with_reducible refine wpList_alloc (o := ⟨some 17, _, _, _, _, _⟩) tySeal rfl rfl ?_)
          intro w14 hk14 hb14 hs14
          have HK14 : Kp _ := ⟨hk14⟩
          have HB14 : Kp _ := ⟨hb14⟩
          clear hk14 hb14 hs14
          go_wp2_with (with_reducible refine wpList_storeAll (o := ⟨none, _, _, _, _, _⟩) (vs := rcL (decR p).num (decR p).blk A13 n13 c13 D13 m13 e13) rwSeal rfl (.tmp 17) (.tmp 74) rfl rfl HK14.out rfl rfl (rcL_one _ _ _ _ _ _ _ _) rfl ?_)
          intro w15 hk15 ho15
          have hb1315 : Below w13.heap.size w13 w15 := HB14.out.trans (ho15.below (Nat.le_refl _))
          have HYx15 : Kp _ := ⟨HYx13.out.below hb1315 HYx13.out.lt⟩
          have HZx15 : Kp _ := ⟨hk15⟩
          have HY15 : Kp _ := ⟨HY13.out.next hb1315 (Nat.le_refl _)⟩
          have HZ15 : Kp _ := ⟨HZ13.out.next hb1315 (Nat.le_refl _)⟩
          have HB15 : Kp (Below w.heap.size w w15) := ⟨HB13.out.trans (hb1315.mono HB13.out.size)⟩
          have hff : (decF p != decF p) = false := by simp
          clear hk15 ho15 hb1315 HK14 HB14 HYx13 HY13 HZ13 HB13
          generalize hF : decF p = F at *
          have HFp : Kp _ := ⟨hF⟩
          clear hF
          go_wp2_with (first
            | (with_reducible refine wpList_loadAll_g (o := ⟨some 80, _, _, _, _, _⟩) rwSeal (by kernel_rfl) (.tmp 15) rfl rfl HYx15.out rfl ?_)
            | (with_reducible refine wpList_loadAll_g (o := ⟨some 81, _, _, _, _, _⟩) rwSeal (by kernel_rfl) (.tmp 17) rfl rfl HZx15.out rfl ?_))
          refine (refsame_as true (decR p) (decR p) A9 n9 c9 D9 m9 e9 A13 n13 c13 D13 m13 e13 w15 HY15.out HZ15.out (sameB_rfl _)).mono ?_
          rintro x w16 ⟨rfl, hb16⟩
          have HYx16 : Kp _ := ⟨HYx15.out.below hb16 HYx15.out.lt⟩
          have HB16 : Kp (Below w.heap.size w w16) := ⟨HB15.out.trans (hb16.mono HB15.out.size)⟩
          obtain ⟨yn, hyn⟩ : ∃ y, (decR p).num = y := ⟨_, rfl⟩
          have y0 : w16.cell? ⟨g15, 0, none⟩ = some (.int .u64 yn) := by rw [← hyn]; exact HYx16.out.cell? 0
          rw [hyn] at HUp HNow
          have HYn : Kp _ := ⟨hyn⟩
          clear hb16 hff HYx15 HZx15 HY15 HZ15 HB15 hyn
          have hct := HCt.out
          have ha := HA.out
          have hb := HB.out
          by_cases hmx : ctr + 1 < 18446744073709551616
          · by_cases u1 : a = ctr + 1
            · by_cases h1 : a = ctr
              · exact absurd h1 (by omega)
              · by_cases h2 : b = ctr
                · obtain ⟨nx, hnx⟩ : ∃ x : Nat, x = ctr + 1 := ⟨_, rfl⟩
                  have wn : IntKind.u64.wrap ((ctr : Int) + 1) = (nx : Int) := by rw [IntKind.wrap_u64]; omega
                  have hn0 : 0 < nx := by omega
                  have dn : decide ((0 : Int) < (nx : Int)) = true := decide_eq_true (by omega)
                  have ean : ((a : Int) == (nx : Int)) = true := by simp; omega
                  have eac : ((a : Int) == (ctr : Int)) = false := by simp; omega
                  have ebc : ((b : Int) == (ctr : Int)) = true := by simp; omega
                  have hr := HUp.out (by omega) (by omega)
                  obtain ⟨rfl, hyy⟩ : F = 0 ∧ yn = nx := ⟨hr.1, by omega⟩
                  have ey : ((yn : Int) == (nx : Int)) = true := by simp; omega
                  clear hct ha hb hnx hr hyy hmx u1 h1 h2
                  go_wp2_with fail
                  refine (known8_any w16).mono ?_
                  rintro xk wk ⟨rfl, hbk⟩
                  have HBk : Kp (Below w.heap.size w wk) := ⟨HB16.out.trans (hbk.mono HB16.out.size)⟩
                  clear hbk
                  go_wp2
                  go_ret
                  exact ⟨rfl, HBk.out⟩
                · obtain ⟨nx, hnx⟩ : ∃ x : Nat, x = ctr + 1 := ⟨_, rfl⟩
                  have wn : IntKind.u64.wrap ((ctr : Int) + 1) = (nx : Int) := by rw [IntKind.wrap_u64]; omega
                  have hn0 : 0 < nx := by omega
                  have dn : decide ((0 : Int) < (nx : Int)) = true := decide_eq_true (by omega)
                  have ean : ((a : Int) == (nx : Int)) = true := by simp; omega
                  have eac : ((a : Int) == (ctr : Int)) = false := by simp; omega
                  have ebc : ((b : Int) == (ctr : Int)) = false := by simp; omega
                  have hr := HUp.out (by omega) (by omega)
                  obtain ⟨rfl, hyy⟩ : F = 0 ∧ yn = nx := ⟨hr.1, by omega⟩
                  have ey : ((yn : Int) == (nx : Int)) = true := by simp; omega
                  clear hct ha hb hnx hr hyy hmx u1 h1 h2
                  go_wp2_with fail
                  refine (known8_any w16).mono ?_
                  rintro xk wk ⟨rfl, hbk⟩
                  have HBk : Kp (Below w.heap.size w wk) := ⟨HB16.out.trans (hbk.mono HB16.out.size)⟩
                  clear hbk
                  go_wp2
                  go_ret
                  exact ⟨rfl, HBk.out⟩
            · by_cases u2 : b = ctr + 1
              · by_cases h1 : a = ctr
                · obtain ⟨nx, hnx⟩ : ∃ x : Nat, x = ctr + 1 := ⟨_, rfl⟩
                  have wn : IntKind.u64.wrap ((ctr : Int) + 1) = (nx : Int) := by rw [IntKind.wrap_u64]; omega
                  have hn0 : 0 < nx := by omega
                  have dn : decide ((0 : Int) < (nx : Int)) = true := decide_eq_true (by omega)
                  have ean : ((a : Int) == (nx : Int)) = false := by simp; omega
                  have ebn : ((b : Int) == (nx : Int)) = true := by simp; omega
                  have eac : ((a : Int) == (ctr : Int)) = true := by simp; omega
                  have hr := HUp.out (by omega) (by omega)
                  obtain ⟨rfl, hyy⟩ : F = 0 ∧ yn = nx := ⟨hr.1, by omega⟩
                  have ey : ((yn : Int) == (nx : Int)) = true := by simp; omega
                  clear hct ha hb hnx hr hyy hmx u1 u2 h1
                  go_wp2_with fail
                  refine (known8_any w16).mono ?_
                  rintro xk wk ⟨rfl, hbk⟩
                  have HBk : Kp (Below w.heap.size w wk) := ⟨HB16.out.trans (hbk.mono HB16.out.size)⟩
                  clear hbk
                  go_wp2
                  go_ret
                  exact ⟨rfl, HBk.out⟩
                · by_cases h2 : b = ctr
                  · exact absurd h2 (by omega)
                  · obtain ⟨nx, hnx⟩ : ∃ x : Nat, x = ctr + 1 := ⟨_, rfl⟩
                    have wn : IntKind.u64.wrap ((ctr : Int) + 1) = (nx : Int) := by rw [IntKind.wrap_u64]; omega
                    have hn0 : 0 < nx := by omega
                    have dn : decide ((0 : Int) < (nx : Int)) = true := decide_eq_true (by omega)
                    have ean : ((a : Int) == (nx : Int)) = false := by simp; omega
                    have ebn : ((b : Int) == (nx : Int)) = true := by simp; omega
                    have eac : ((a : Int) == (ctr : Int)) = false := by simp; omega
                    have ebc : ((b : Int) == (ctr : Int)) = false := by simp; omega
                    have hr := HUp.out (by omega) (by omega)
                    obtain ⟨rfl, hyy⟩ : F = 0 ∧ yn = nx := ⟨hr.1, by omega⟩
                    have ey : ((yn : Int) == (nx : Int)) = true := by simp; omega
                    clear hct ha hb hnx hr hyy hmx u1 u2 h1 h2
                    go_wp2_with fail
                    refine (known8_any w16).mono ?_
                    rintro xk wk ⟨rfl, hbk⟩
                    have HBk : Kp (Below w.heap.size w wk) := ⟨HB16.out.trans (hbk.mono HB16.out.size)⟩
                    clear hbk
                    go_wp2
                    go_ret
                    exact ⟨rfl, HBk.out⟩
              · by_cases h1 : a = ctr
                · obtain ⟨nx, hnx⟩ : ∃ x : Nat, x = ctr + 1 := ⟨_, rfl⟩
                  have wn : IntKind.u64.wrap ((ctr : Int) + 1) = (nx : Int) := by rw [IntKind.wrap_u64]; omega
                  have hn0 : 0 < nx := by omega
                  have dn : decide ((0 : Int) < (nx : Int)) = true := decide_eq_true (by omega)
                  have ean : ((a : Int) == (nx : Int)) = false := by simp; omega
                  have ebn : ((b : Int) == (nx : Int)) = false := by simp; omega
                  have eac : ((a : Int) == (ctr : Int)) = true := by simp; omega
                  have hr := HNow.out (by omega) (by omega)
                  obtain ⟨rfl, hyy⟩ : F = 0 ∧ yn = ctr := ⟨hr.1, by omega⟩
                  have ey : ((yn : Int) == (ctr : Int)) = true := by simp; omega
                  clear hct ha hb hnx hr hyy hmx u1 u2 h1
                  go_wp2_with fail
                  refine (known8_any w16).mono ?_
                  rintro xk wk ⟨rfl, hbk⟩
                  have HBk : Kp (Below w.heap.size w wk) := ⟨HB16.out.trans (hbk.mono HB16.out.size)⟩
                  clear hbk
                  go_wp2
                  go_ret
                  exact ⟨rfl, HBk.out⟩
                · by_cases h2 : b = ctr
                  · obtain ⟨nx, hnx⟩ : ∃ x : Nat, x = ctr + 1 := ⟨_, rfl⟩
                    have wn : IntKind.u64.wrap ((ctr : Int) + 1) = (nx : Int) := by rw [IntKind.wrap_u64]; omega
                    have hn0 : 0 < nx := by omega
                    have dn : decide ((0 : Int) < (nx : Int)) = true := decide_eq_true (by omega)
                    have ean : ((a : Int) == (nx : Int)) = false := by simp; omega
                    have ebn : ((b : Int) == (nx : Int)) = false := by simp; omega
                    have eac : ((a : Int) == (ctr : Int)) = false := by simp; omega
                    have ebc : ((b : Int) == (ctr : Int)) = true := by simp; omega
                    have hr := HNow.out (by omega) (by omega)
                    obtain ⟨rfl, hyy⟩ : F = 0 ∧ yn = ctr := ⟨hr.1, by omega⟩
                    have ey : ((yn : Int) == (ctr : Int)) = true := by simp; omega
                    clear hct ha hb hnx hr hyy hmx u1 u2 h1 h2
                    go_wp2_with fail
                    refine (known8_any w16).mono ?_
                    rintro xk wk ⟨rfl, hbk⟩
                    have HBk : Kp (Below w.heap.size w wk) := ⟨HB16.out.trans (hbk.mono HB16.out.size)⟩
                    clear hbk
                    go_wp2
                    go_ret
                    exact ⟨rfl, HBk.out⟩
                  · obtain ⟨nx, hnx⟩ : ∃ x : Nat, x = ctr + 1 := ⟨_, rfl⟩
                    have wn : IntKind.u64.wrap ((ctr : Int) + 1) = (nx : Int) := by rw [IntKind.wrap_u64]; omega
                    have hn0 : 0 < nx := by omega
                    have dn : decide ((0 : Int) < (nx : Int)) = true := decide_eq_true (by omega)
                    have ean : ((a : Int) == (nx : Int)) = false := by simp; omega
                    have ebn : ((b : Int) == (nx : Int)) = false := by simp; omega
                    have eac : ((a : Int) == (ctr : Int)) = false := by simp; omega
                    have ebc : ((b : Int) == (ctr : Int)) = false := by simp; omega
                    obtain rfl : F = 5 := HNone.out (by omega) (by omega)
                    clear hct ha hb hnx hmx u1 u2 h1 h2
                    go_wp2_with fail
                    refine (known8_any w16).mono ?_
                    rintro xk wk ⟨rfl, hbk⟩
                    have HBk : Kp (Below w.heap.size w wk) := ⟨HB16.out.trans (hbk.mono HB16.out.size)⟩
                    clear hbk
                    go_wp2
                    go_ret
                    exact ⟨rfl, HBk.out⟩
          · by_cases h1 : a = ctr
            · have wn : IntKind.u64.wrap ((ctr : Int) + 1) = 0 := by rw [IntKind.wrap_u64]; omega
              have eac : ((a : Int) == (ctr : Int)) = true := by simp; omega
              have hr := HNow.out (by omega) (by omega)
              obtain ⟨rfl, hyy⟩ : F = 0 ∧ yn = ctr := ⟨hr.1, by omega⟩
              have ey : ((yn : Int) == (ctr : Int)) = true := by simp; omega
              clear hct ha hb hr hyy hmx h1
              go_wp2_with fail
              refine (known8_any w16).mono ?_
              rintro xk wk ⟨rfl, hbk⟩
              have HBk : Kp (Below w.heap.size w wk) := ⟨HB16.out.trans (hbk.mono HB16.out.size)⟩
              clear hbk
              go_wp2
              go_ret
              exact ⟨rfl, HBk.out⟩
            · by_cases h2 : b = ctr
              · have wn : IntKind.u64.wrap ((ctr : Int) + 1) = 0 := by rw [IntKind.wrap_u64]; omega
                have eac : ((a : Int) == (ctr : Int)) = false := by simp; omega
                have ebc : ((b : Int) == (ctr : Int)) = true := by simp; omega
                have hr := HNow.out (by omega) (by omega)
                obtain ⟨rfl, hyy⟩ : F = 0 ∧ yn = ctr := ⟨hr.1, by omega⟩
                have ey : ((yn : Int) == (ctr : Int)) = true := by simp; omega
                clear hct ha hb hr hyy hmx h1 h2
                go_wp2_with fail
                refine (known8_any w16).mono ?_
                rintro xk wk ⟨rfl, hbk⟩
                have HBk : Kp (Below w.heap.size w wk) := ⟨HB16.out.trans (hbk.mono HB16.out.size)⟩
                clear hbk
                go_wp2
                go_ret
                exact ⟨rfl, HBk.out⟩
              · have wn : IntKind.u64.wrap ((ctr : Int) + 1) = 0 := by rw [IntKind.wrap_u64]; omega
                have eac : ((a : Int) == (ctr : Int)) = false := by simp; omega
                have ebc : ((b : Int) == (ctr : Int)) = false := by simp; omega
                obtain rfl : F = 5 := HNone.out (by omega) (by omega)
                clear hct ha hb hmx h1 h2
                go_wp2_with fail
                refine (known8_any w16).mono ?_
                rintro xk wk ⟨rfl, hbk⟩
                have HBk : Kp (Below w.heap.size w wk) := ⟨HB16.out.trans (hbk.mono HB16.out.size)⟩
                clear hbk
                go_wp2
                go_ret
                exact ⟨rfl, HBk.out⟩
      · have hd : decide (Rt r) = false := decide_eq_false ht
        rw [hd]
        clear ht hd
        go_wp2_with fail
        refine (known8_any w3).mono ?_
        rintro xk wk ⟨rfl, hbk⟩
        have HBk : Kp (Below w.heap.size w wk) := ⟨HB3.out.trans (hbk.mono HB3.out.size)⟩
        clear hbk
        go_wp2
        go_ret
        exact ⟨rfl, HBk.out⟩
end Go.Proofs.Ytadpfbjpkbpanaa

namespace Go.Proofs.Ytadpfbjpkbpanaa
open Go.RowKit

section
variable {w w' : World} {B B2 : Nat} {g g2 : Option Nat} {vals : List Value} {fs : List (List UInt8)}
theorem Fs.as (h1 : Fs w' B g vals fs) (h2 : Fs w B2 g2 vals fs) : Fs w' B g2 vals fs :=
  ⟨h1.len, fun j hj1 hj2 => by
    obtain ⟨A, n, c, e, hbs, _⟩ := h1.at' j hj1 hj2
    obtain ⟨A2, n2, c2, e2, _, hg⟩ := h2.at' j hj1 hj2
    rw [e] at e2
    cases e2
    exact ⟨A, n, c, e, hbs, hg⟩⟩
theorem Fs.setrc {b0 num n2 c2 m e i : Nat} {t : TypeId} {A2 D : Option Addr} {blk : Int} (h : Fs w B g vals fs) (hk : Blk w b0 t (rcL num blk A2 n2 c2 D m e)) (u : Value) : Fs (w.setCell ⟨b0, i, none⟩ u) B g vals fs :=
  ⟨h.len, fun j h1 h2 => by
    obtain ⟨A, n, c, e, hbs, hg⟩ := h.at' j h1 h2
    exact ⟨A, n, c, e, hbs.setrc hk u, hg⟩⟩
theorem own_keep {base n size : Nat} {e : TypeId} {v : Value} {xs : List Value} (h : w.ownsRow base e size v n xs) (hk : ∀ b, v.ownBlock = some b → w'.heap[b]? = w.heap[b]?) : w'.ownsRow base e size v n xs := by
  refine ⟨h.1, ?_⟩
  rcases h.2 with ⟨rfl, rfl⟩ | ⟨g', cap, cur, rfl, hg', hh, hr⟩
  · exact .inl ⟨rfl, rfl⟩
  · exact .inr ⟨g', cap, cur, rfl, hg', (hk g' rfl).trans hh, hr⟩
end
structure TwoL (W : World) (base k : Nat) (A : Option Addr) (c : Nat) (va : List Value) (fa : List (List UInt8)) (k2 : Nat) (A2 : Option Addr) (c2 : Nat) (vb : List Value) (fb : List (List UInt8)) : Prop where
  ra : W.ownsRow base 22 1 (.slice A k c) k va
  rb : W.ownsRow base 22 1 (.slice A2 k2 c2) k2 vb
  ne : (Value.slice A k c).ownBlock = none ∨ (Value.slice A k c).ownBlock ≠ (Value.slice A2 k2 c2).ownBlock
  faa : Fs W W.heap.size (Value.slice A k c).ownBlock va fa
  fab : Fs W W.heap.size (Value.slice A2 k2 c2).ownBlock va fa
  fbb : Fs W W.heap.size (Value.slice A2 k2 c2).ownBlock vb fb
  fba : Fs W W.heap.size (Value.slice A k c).ownBlock vb fb
section
variable {W W' : World} {base k k2 c c2 : Nat} {A A2 : Option Addr} {va vb : List Value} {fa fb : List (List UInt8)}
theorem TwoL.swap (h : TwoL W base k A c va fa k2 A2 c2 vb fb) : TwoL W base k2 A2 c2 vb fb k A c va fa :=
  ⟨h.rb, h.ra, by
    rcases h.ne with e | e
    · by_cases h2 : (Value.slice A2 k2 c2).ownBlock = none
      · exact .inl h2
      · exact .inr (fun e2 => h2 (by rw [e2]; exact e))
    · exact .inr (fun e2 => e e2.symm), h.fbb, h.fba, h.faa, h.fab⟩
theorem TwoL.start (W : World) (base : Nat) : TwoL W base 0 none 0 [] [] 0 none 0 [] [] :=
  ⟨own_nil _ _ _, own_nil _ _ _, .inl rfl, Fs.zero _ _ _, Fs.zero _ _ _, Fs.zero _ _ _, Fs.zero _ _ _⟩
theorem TwoL.below (h : TwoL W base k A c va fa k2 A2 c2 vb fb) (hb : Below W.heap.size W W') : TwoL W' base k A c va fa k2 A2 c2 vb fb :=
  ⟨own_below h.ra hb, own_below h.rb hb, h.ne, (h.faa.below hb).more hb.size, (h.fab.below hb).more hb.size, (h.fbb.below hb).more hb.size, (h.fba.below hb).more hb.size⟩
theorem TwoL.setrc {b0 num n2 cc m e i : Nat} {t : TypeId} {AA D : Option Addr} {blk : Int} (h : TwoL W base k A c va fa k2 A2 c2 vb fb) (hk : Blk W b0 t (rcL num blk AA n2 cc D m e)) (hb : b0 < base) (u : Value) : TwoL (W.setCell ⟨b0, i, none⟩ u) base k A c va fa k2 A2 c2 vb fb :=
  ⟨ownsRow_setCell_below h.ra (a := ⟨b0, i, none⟩) hb u, ownsRow_setCell_below h.rb (a := ⟨b0, i, none⟩) hb u, h.ne, by simpa using h.faa.setrc (i := i) hk u, by simpa using h.fab.setrc (i := i) hk u, by simpa using h.fbb.setrc (i := i) hk u, by simpa using h.fba.setrc (i := i) hk u⟩
/-- behind an append to the first row -/
theorem TwoL.app (h : TwoL W base k A c va fa k2 A2 c2 vb fb) {X : Option Addr} {nx cx : Nat} {l : List UInt8} (hB : Bs W W.heap.size X nx cx l)
    (ap : ∀ ad, X = some ad → 0 < nx → (Value.slice A k c).ownBlock ≠ some ad.block ∧ (Value.slice A2 k2 c2).ownBlock ≠ some ad.block)
    {A' : Option Addr} {c' : Nat} (hn : W'.ownsRow base 22 1 (.slice A' (k + 1) c') (k + 1) (va ++ [.slice X nx cx])) (hs : W.heap.size ≤ W'.heap.size)
    (hk : ∀ b, (Value.slice A k c).ownBlock ≠ some b → b < W.heap.size → W'.heap[b]? = W.heap[b]?)
    (hv : (Value.slice A' (k + 1) c').ownBlock = (Value.slice A k c).ownBlock ∨ ∃ b, (Value.slice A' (k + 1) c').ownBlock = some b ∧ W.heap.size ≤ b) :
    TwoL W' base (k + 1) A' c' (va ++ [.slice X nx cx]) (fa ++ [l]) k2 A2 c2 vb fb := by
  have sa := h.faa.snoc hB (fun ad h1 h2 => (ap ad h1 h2).1)
  have sb := h.fab.snoc hB (fun ad h1 h2 => (ap ad h1 h2).2)
  have ga := sa.grown hk
  have gb := h.fba.grown hk
  have hlb := h.rb.lt
  refine ⟨hn, own_keep h.rb (fun b e => ?_), ?_, (ga.move hv).more hs, (ga.as sb).more hs, (gb.as h.fbb).more hs, (gb.move hv).more hs⟩
  · refine hk b (fun e2 => ?_) (hlb b e).2
    rcases h.ne with h1 | h1
    · rw [h1] at e2; cases e2
    · exact h1 (e2.trans e.symm)
  · rcases hv with e | ⟨b, e, hb⟩
    · rw [e]; exact h.ne
    · refine .inr fun e2 => ?_
      have := (hlb b (by rw [← e2, e])).2
      omega
end
end Go.Proofs.Ytadpfbjpkbpanaa
