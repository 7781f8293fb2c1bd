/- The law PathNames. -/
import Derived.Test.YtaedlaeflliibaaDoorLParses15
namespace Go.Proofs.YtaedlaeflliibaaDoor
open Go.RowKit Go.Shelf Go.Deep

theorem all_take_succ {α : Type} (p : α → Bool) (l : List α) (k : Nat) (h : k < l.length) : (l.take (k + 1)).all p = ((l.take k).all p && p l[k]) := by
  rw [List.take_succ_eq_append_getElem h, List.all_append]; simp
section
set_option maxRecDepth 100000
set_option maxHeartbeats 4000000
theorem law_pathNames (A : Option Addr) (n c : Nat) (ls : List Nm) (b : Bool) (od : ByteArray) (w : World) (hA : Ss w w.heap.size A n c ls) (hln : longN ls ≤ 1048576) (hod : od.data.toList.length ≤ 140737488351232) :
    Calls Tryd.prog 8 #[.slice A n c, .bool b, .string od] w fun e w' => e = .returned (.bool true) ∧ Below w.heap.size w w' := by
  obtain ⟨o, rfl, ho⟩ := str_of od
  rw [ho] at hod
  clear ho
  have hoz : (ByteArray.mk o.toArray).size = o.length := by simp [ByteArray.size]
  have SA : Kp _ := ⟨hA⟩
  have HX : Kp (ls.length = n) := ⟨hA.len⟩
  have hn63 : n ≤ 1048576 := by have := longN_count ls; have := hA.len; omega
  have HN : Kp _ := ⟨hln⟩
  have HW : Kp (Below w.heap.size w w) := ⟨Below.refl _ _⟩
  clear hA
  go_enter Tryd.func8, Tryd.ntmps8
  go_wp2
  go_loopg [7, 8] n (fun gk v7 v8 wr => w = wr ∧ ∃ k S : Nat, k + gk = n ∧ v8 = .int .i64 (k : Int) ∧ v7 = .int .i64 (S : Int) ∧ Kp (S = longN (ls.take k)))
  case atStart => exact ⟨rfl, 0, 0, by omega, rfl, rfl, ⟨rfl⟩⟩
  case round =>
    obtain ⟨rfl, k, S, hkn, rfl, rfl, HS⟩ := hrel
    cases gk with
    | succ g2 =>
      have hgo : (k : Int) < (n : Int) := by omega
      have hin : k < n := by omega
      obtain ⟨b1, o1, rfl, hl1, hc1⟩ := SA.out.at hin
      have hx : k < ls.length := by rw [HX.out]; exact hin
      obtain ⟨x, hxe⟩ : ∃ x, x = ls[k] := ⟨_, rfl⟩
      rw [← hxe] at hc1
      have HT : Kp (longN (ls.take (k + 1)) = S + (x.length + 1)) := ⟨by rw [List.take_succ_eq_append_getElem hx, longN_app, ← hxe, HS.out, longN_cons]; rfl⟩
      have hle : S + (x.length + 1) ≤ 1048576 := by
        rw [← HT.out]
        refine Nat.le_trans ?_ HN.out
        conv => rhs; rw [← List.take_append_drop (k + 1) ls, longN_app]
        omega
      have hsz : (ByteArray.mk x.toArray).size = x.length := by simp [ByteArray.size]
      clear hxe hln
      go_wp2
      go_roundg g2
      case measure => omega
      case rel => exact ⟨rfl, k + 1, S + (x.length + 1), by omega, by go_num, by go_num, ⟨by rw [HT.out]⟩⟩
    | zero =>
      obtain rfl : k = n := by omega
      have hend : ¬ ((k : Int) < (k : Int)) := by omega
      have HV : Kp (S = longN ls) := ⟨by rw [HS.out, List.take_of_length_le (by rw [HX.out]; exact Nat.le_refl _)]⟩
      clear HS hkn
      by_cases hbig : 150 < S
      · have hb1 : (150 : Int) < (S : Int) := by omega
        go_wp2_with fail
        refine (known15_any _).mono ?_
        rintro e w1 ⟨rfl, hb'⟩
        replace HW : Kp _ := ⟨HW.out.trans (hb'.mono HW.out.size)⟩
        clear hb'
        go_wp2
        go_ret
        exact ⟨rfl, HW.out⟩
      have hb1 : ¬ (150 : Int) < (S : Int) := by omega
      by_cases hz : k = 0
      · subst hz
        go_wp2_with fail
        refine (known15_any _).mono ?_
        rintro e w1 ⟨rfl, hb'⟩
        replace HW : Kp _ := ⟨HW.out.trans (hb'.mono HW.out.size)⟩
        clear hb'
        go_wp2
        go_ret
        exact ⟨rfl, HW.out⟩
      have hb2 : ((k : Int) == 0) = false := by simp only [beq_eq_false_iff_ne]; omega
      by_cases ho40 : 40 < o.length
      · have hb3 : (40 : Int) < (o.length : Int) := by omega
        go_wp2_with fail
        refine (known15_any _).mono ?_
        rintro e w1 ⟨rfl, hb'⟩
        replace HW : Kp _ := ⟨HW.out.trans (hb'.mono HW.out.size)⟩
        clear hb'
        go_wp2
        go_ret
        exact ⟨rfl, HW.out⟩
      have hb3 : ¬ (40 : Int) < (o.length : Int) := by omega
      have hlen : longN ls ≤ 150 := by rw [← HV.out]; omega
      have HS150 : Kp (longN ls ≤ 150) := ⟨hlen⟩
      have ho40' : o.length ≤ 40 := by omega
      obtain ⟨pre, hpre⟩ : ∃ pre : Nm, pre = if b then [47] else [] := ⟨_, rfl⟩
      have HPre : Kp _ := ⟨hpre⟩
      have hprel : pre.length ≤ 1 := by rw [hpre]; split <;> simp
      have hln2 : ls ≠ [] := by intro e; rw [e] at HX; exact hz HX.out.symm
      have HNe : Kp (ls ≠ []) := ⟨hln2⟩
      clear hpre hbig hz ho40 hln hlen hln2 HV
      have h0 : (.string ⟨pre.toArray⟩ : Value) = (if b then .string ⟨#[47]⟩ else .string ⟨#[]⟩) := by rw [HPre.out]; cases b <;> rfl
      cases b with
      | true =>
        simp only [if_true] at h0
        have HP0 : Kp _ := ⟨h0⟩
        clear h0
        go_wp2
        go_loopg [9, 10, 11] k (fun gk v9 v10 v11 wr => w = wr ∧ ∃ (i : Nat) (j : Nm) (f : Bool), i + gk = k ∧ v11 = .int .i64 (i : Int) ∧ v9 = .string ⟨j.toArray⟩ ∧ v10 = .bool f ∧ Kp (j = pre ++ joinP (ls.take i)) ∧ Kp (f = (ls.take i).all okNm))
        case atStart => exact ⟨rfl, 0, pre, true, by omega, rfl, HP0.out.symm, rfl, ⟨by rw [List.take_zero, joinP_nil, List.append_nil]⟩, ⟨rfl⟩⟩
        case round =>
          obtain ⟨rfl, i, j, f, hik, rfl, rfl, rfl, HJ, HF⟩ := hrel
          have hjs : (ByteArray.mk j.toArray).size = j.length := by simp [ByteArray.size]
          cases gk with
          | succ g2 =>
            have hgo : (i : Int) < (k : Int) := by omega
            have hin : i < k := by omega
            obtain ⟨b1, o1, rfl, hl1, hc1⟩ := SA.out.at hin
            have hx : i < ls.length := by rw [HX.out]; exact hin
            obtain ⟨x, hxe⟩ : ∃ x, x = ls[i] := ⟨_, rfl⟩
            rw [← hxe] at hc1
            have HT : Kp (ls.take (i + 1) = ls.take i ++ [x]) := ⟨by rw [List.take_succ_eq_append_getElem hx, ← hxe]⟩
            have HFn : Kp ((ls.take (i + 1)).all okNm = (f && okNm x)) := ⟨by rw [all_take_succ okNm ls i hx, ← hxe, HF.out]⟩
            have hjn : longN (ls.take (i + 1)) ≤ 150 := by
              refine Nat.le_trans ?_ HS150.out
              conv => rhs; rw [← List.take_append_drop (i + 1) ls, longN_app]
              omega
            have hjx : (joinP (ls.take (i + 1))).length ≤ 150 := Nat.le_trans (joinP_le _) hjn
            have hxs : (ByteArray.mk x.toArray).size = x.length := by simp [ByteArray.size]
            have hx150 : x.length ≤ 150 := by have := longN_mem _ x (show x ∈ ls.take (i + 1) by rw [HT.out]; simp); omega
            have HRn : Kp _ := ⟨refnamed_any x w (show x.length ≤ 140737488351232 by omega)⟩
            obtain ⟨q, hq⟩ : ∃ q, q = okNm x := ⟨_, rfl⟩
            rw [← hq] at HRn HFn
            clear hxe hjn hq
            by_cases hi0 : i = 0
            · subst hi0
              have hj0 : j = pre := by rw [HJ.out, List.take_zero, joinP_nil, List.append_nil]
              have HJ2 : Kp (j ++ x = pre ++ joinP (ls.take (0 + 1))) := ⟨by rw [HT.out, hj0, List.take_zero, List.nil_append, joinP_one]⟩
              have he : (ByteArray.mk j.toArray) ++ ⟨x.toArray⟩ = ⟨(j ++ x).toArray⟩ := bs_app j x
              have hjl : j.length ≤ 1 := by rw [hj0]; exact hprel
              simp only [Nat.add_zero] at hc1
              clear hj0 hjx
              cases f
              all_goals
                go_wp2_with (go_at_call 22; refine HRn.out.mono ?_; rintro e w9 ⟨rfl, hw9⟩; rw [hw9]; clear hw9 w9)
                go_roundg g2
                case measure => omega
                case rel => exact ⟨rfl, 1, j ++ x, _, by omega, rfl, rfl, rfl, HJ2, ⟨HFn.out.symm⟩⟩
            · have hk1 : (0 : Int) < (i : Int) := by omega
              have hne : ls.take i ≠ [] := by
                intro e
                have := congrArg List.length e
                rw [List.length_take, List.length_nil] at this; omega
              have HJ2 : Kp (j ++ 47 :: x = pre ++ joinP (ls.take (i + 1))) := ⟨by rw [HT.out, joinP_snoc _ _ hne, HJ.out, List.append_assoc]⟩
              have hj1 : j.length + (1 + x.length) ≤ 151 := by
                have h := congrArg List.length HJ2.out
                rw [List.length_append, List.length_append, List.length_cons] at h
                omega
              have he : (ByteArray.mk j.toArray) ++ ⟨#[47]⟩ ++ ⟨x.toArray⟩ = ⟨(j ++ 47 :: x).toArray⟩ := by
                rw [show (ByteArray.mk #[47]) = ⟨([47] : Nm).toArray⟩ from rfl, bs_app, bs_app]; simp
              clear hne hi0 hjx
              cases f
              all_goals
                go_wp2_with (go_at_call 22; refine HRn.out.mono ?_; rintro e w9 ⟨rfl, hw9⟩; rw [hw9]; clear hw9 w9)
                go_roundg g2
                case measure => omega
                case rel => exact ⟨rfl, i + 1, j ++ 47 :: x, _, by omega, by go_num, rfl, rfl, HJ2, ⟨HFn.out.symm⟩⟩
          | zero =>
            obtain rfl : i = k := by omega
            have hend : ¬ ((i : Int) < (i : Int)) := by omega
            have htk : ls.take i = ls := List.take_of_length_le (by rw [HX.out]; exact Nat.le_refl _)
            rw [htk] at HJ HF
            cases f with
            | false =>
              go_wp2_with fail
              refine (known15_any _).mono ?_
              rintro e w1 ⟨rfl, hb'⟩
              replace HW : Kp _ := ⟨HW.out.trans (hb'.mono HW.out.size)⟩
              clear hb'
              go_wp2
              go_ret
              exact ⟨rfl, HW.out⟩
            | true =>
              have hall : ∀ x ∈ ls, okNm x = true := List.all_eq_true.1 HF.out.symm
              obtain ⟨pb1, pb2, pb3⟩ := print_back true ls (fun x hx => okNm_keep (hall x hx)) (fun x hx => okNm_bad' (hall x hx)) (fun x hx => okNm_slash (hall x hx)) HS150.out
              have hpj : printA true ls = j := by
                rw [HJ.out, HPre.out]
                rfl
              rw [hpj] at pb1 pb2 pb3
              have HPr : Kp (printA true ls = j) := ⟨hpj⟩
              have hjl : j.length ≤ 151 := by
                rw [HJ.out, List.length_append]
                have h1 := joinP_le ls
                have h2 := HS150.out
                have h3 := hprel
                omega
              have HP1 : Kp (∀ W, Calls Tryd.prog 11 #[.string ⟨j.toArray⟩] W fun e w' => ∃ A n c, e = .returned (.tuple #[.agg #[.bool true, .slice A n c], .int .i64 0]) ∧ Ss w' w'.heap.size A n c ls ∧ Below W.heap.size W w') := ⟨fun W => by
                have h := parse_any j W (by omega)
                rw [errS_ok pb1, pb2, pb3] at h; exact h⟩
              have HOd : Kp (∀ o : Nm, (47 : UInt8) ∉ o → j.length + 1 + o.length ≤ 200 → okS (j ++ 47 :: o) = !badP o) := ⟨fun o h1 h2 => parse_odd pb1 h1 h2⟩
              clear hall pb1 pb2 pb3 hpj HJ HF htk HP0 HPre hprel
              replace SA : Kp (Ss w w.heap.size A i c ls) := ⟨SA.out⟩
              go_wp2_with fail
              refine (HP1.out _).mono ?_
              rintro e w31 ⟨A1, n1, c1, rfl, hs1, hb'⟩
              replace SA : Kp _ := ⟨SA.out.next hb' (Nat.le_refl _)⟩
              replace HW : Kp _ := ⟨HW.out.trans (hb'.mono HW.out.size)⟩
              have S1 : Kp _ := ⟨hs1⟩
              clear hs1
              clear hb'
              go_upto_region 22 with fail
              have hbx : Below w31.heap.size w31 (w31.alloc (.cells #[.bool true, .slice A1 n1 c1] 25)) := (Below.refl _ _).alloc (Nat.le_refl _) _
              have KP : Kp _ := ⟨Blk.new w31 25 [.bool true, .slice A1 n1 c1]⟩
              obtain ⟨w32, hw32⟩ : ∃ x, x = w31.alloc (.cells #[.bool true, .slice A1 n1 c1] 25) := ⟨_, rfl⟩
              rw [← hw32] at hbx KP ⊢
              replace SA : Kp _ := ⟨SA.out.next hbx (Nat.le_refl _)⟩
              replace S1 : Kp _ := ⟨S1.out.next hbx (Nat.le_refl _)⟩
              replace HW : Kp _ := ⟨HW.out.trans (hbx.mono HW.out.size)⟩
              obtain ⟨GP, hG⟩ : ∃ g, g = w31.heap.size := ⟨_, rfl⟩
              rw [← hG] at KP ⊢
              clear hG hbx hw32
              have cKP0 : w32.cell? ⟨GP, 0, none⟩ = some (.bool true) := KP.out.cell? 0
              have cKP1 : w32.cell? ⟨GP, 1, none⟩ = some (.slice A1 n1 c1) := KP.out.cell? 1
              go_wp2_with fail
              refine (samePt_any true true A1 A n1 c1 i c ls ls _ _ _ S1.out SA.out (Nat.le_refl _) (Nat.le_refl _)).mono ?_
              rintro e w33 ⟨rfl, hb'⟩
              replace KP : Kp _ := ⟨KP.out.below hb' KP.out.lt⟩
              replace SA : Kp _ := ⟨SA.out.next hb' (Nat.le_refl _)⟩
              replace S1 : Kp _ := ⟨S1.out.next hb' (Nat.le_refl _)⟩
              replace HW : Kp _ := ⟨HW.out.trans (hb'.mono HW.out.size)⟩
              rw [same_self]
              clear hb'
              clear cKP0 cKP1
              have cKP0 : w33.cell? ⟨GP, 0, none⟩ = some (.bool true) := KP.out.cell? 0
              have cKP1 : w33.cell? ⟨GP, 1, none⟩ = some (.slice A1 n1 c1) := KP.out.cell? 1
              go_wp2_with fail
              refine (print_any true A1 n1 c1 ls _ _ S1.out (Nat.le_refl _) (by have := HS150.out; omega)).mono ?_
              rintro e w34 ⟨rfl, hb'⟩
              replace KP : Kp _ := ⟨KP.out.below hb' KP.out.lt⟩
              replace SA : Kp _ := ⟨SA.out.next hb' (Nat.le_refl _)⟩
              replace S1 : Kp _ := ⟨S1.out.next hb' (Nat.le_refl _)⟩
              replace HW : Kp _ := ⟨HW.out.trans (hb'.mono HW.out.size)⟩
              rw [HPr.out]
              clear hb'
              clear cKP0 cKP1
              go_wp2
              go_loopg [14] o.length (fun gk v14 wr => w34 = wr ∧ ∃ t : Nat, t + gk = o.length ∧ v14 = .int .i64 (t : Int) ∧ Kp (∀ u (h : u < o.length), u < t → o[u] ≠ 47))
              case atStart => exact ⟨rfl, 0, by omega, rfl, ⟨fun u _ h => absurd h (by omega)⟩⟩
              case round =>
                obtain ⟨rfl, t, htk, rfl, HNo⟩ := hrel
                cases gk with
                | succ g2 =>
                  have hto : t < o.length := by omega
                  have htI : (t : Int) < (o.length : Int) := by omega
                  by_cases hc : o[t] = 47
                  · have hcI : ((((ByteArray.mk o.toArray)[t]'(by rw [hoz]; exact hto)).toNat : Int) == 47) = true := by
                      show (((o[t]).toNat : Int) == 47) = true
                      rw [hc]; rfl
                    clear hc
                    go_wp2_with fail
                    refine (known15_any _).mono ?_
                    rintro e w35 ⟨rfl, hb'⟩
                    replace HW : Kp _ := ⟨HW.out.trans (hb'.mono HW.out.size)⟩
                    clear hb'
                    go_wp2
                    go_ret
                    exact ⟨rfl, HW.out⟩
                  · have hcI : ((((ByteArray.mk o.toArray)[t]'(by rw [hoz]; exact hto)).toNat : Int) == 47) = false := by
                      show (((o[t]).toNat : Int) == 47) = false
                      simp only [beq_eq_false_iff_ne]
                      intro e
                      apply hc
                      apply UInt8.toNat_inj.1
                      have : (47 : UInt8).toNat = 47 := rfl
                      omega
                    have HNx : Kp (∀ u (h : u < o.length), u < t + 1 → o[u] ≠ 47) := ⟨fun u h hu => by
                      by_cases e : u = t
                      · subst e; exact hc
                      · exact HNo.out u h (by omega)⟩
                    clear hc
                    go_wp2
                    go_roundg g2
                    case measure => omega
                    case rel => exact ⟨rfl, t + 1, by omega, by go_num, HNx⟩
                | zero =>
                  obtain rfl : t = o.length := by omega
                  have hend : ¬ ((o.length : Int) < (o.length : Int)) := by omega
                  have hno : (47 : UInt8) ∉ o := by
                    intro hm
                    obtain ⟨u, hu, e⟩ := List.getElem_of_mem hm
                    exact HNo.out u hu hu e
                  have hoS := HOd.out o hno (by omega)
                  obtain ⟨tw, htw⟩ : ∃ tw, tw = j ++ 47 :: o := ⟨_, rfl⟩
                  rw [← htw] at hoS
                  have htwl : tw.length ≤ 1000 := by rw [htw, List.length_append, List.length_cons]; omega
                  have happ2 : (ByteArray.mk j.toArray) ++ ⟨#[47]⟩ ++ ⟨o.toArray⟩ = ⟨tw.toArray⟩ := by
                    rw [htw, show (ByteArray.mk #[47]) = ⟨([47] : Nm).toArray⟩ from rfl, bs_app, bs_app]; simp
                  have HP2 : Kp (∀ W, Calls Tryd.prog 11 #[.string ⟨tw.toArray⟩] W fun e w' => ∃ b A n c, e = .returned (.tuple #[.agg #[.bool b, .slice A n c], .int .i64 (if badP o then 11 else 0)]) ∧ Below W.heap.size W w') := ⟨fun W => by
                    refine (parse_any tw W (by omega)).mono ?_
                    rintro e w' ⟨A, n, c, rfl, _, hb⟩
                    refine ⟨absS tw, A, n, c, ?_, hb⟩
                    unfold errS
                    rw [hoS]
                    cases badP o <;> rfl⟩
                  have e1 := eqs_str o []
                  have e2 := eqs_str o [46]
                  have e3 := eqs_str o [46, 46]
                  have hod1 : o.length ≤ 140737488351232 := by omega
                  have HRn : Kp (∀ W, _) := ⟨fun W => refnamed_any o W hod1⟩
                  clear hno hoS htw HNo hod1 HOd
                  by_cases p1 : o = []
                  · subst p1
                    rw [show badP [] = false from rfl] at HP2
                    go_wp2_with fail
                    try rw [happ2]
                    refine (HP2.out _).mono ?_
                    rintro e w35 ⟨bq, A5, n5, c5, rfl, hb'⟩
                    replace HW : Kp _ := ⟨HW.out.trans (hb'.mono HW.out.size)⟩
                    clear hb'
                    go_upto_region 30 with fail
                    have hbx : Below w35.heap.size w35 (w35.alloc (.cells #[.bool bq, .slice A5 n5 c5] 25)) := (Below.refl _ _).alloc (Nat.le_refl _) _
                    replace HW : Kp _ := ⟨HW.out.trans (hbx.mono HW.out.size)⟩
                    clear hbx
                    go_wp2_with fail
                    refine (known15_any _).mono ?_
                    rintro e w36 ⟨rfl, hb'⟩
                    replace HW : Kp _ := ⟨HW.out.trans (hb'.mono HW.out.size)⟩
                    clear hb'
                    go_wp2
                    go_ret
                    exact ⟨rfl, HW.out⟩
                  have pe : o.isEmpty = false := by simpa using p1
                  have i1 : (o == []) = false := by simpa using p1
                  rw [i1] at e1
                  by_cases p2 : o = [46]
                  · subst p2
                    rw [show badP [46] = false from rfl] at HP2
                    go_wp2_with fail
                    try rw [happ2]
                    refine (HP2.out _).mono ?_
                    rintro e w35 ⟨bq, A5, n5, c5, rfl, hb'⟩
                    replace HW : Kp _ := ⟨HW.out.trans (hb'.mono HW.out.size)⟩
                    clear hb'
                    go_upto_region 30 with fail
                    have hbx : Below w35.heap.size w35 (w35.alloc (.cells #[.bool bq, .slice A5 n5 c5] 25)) := (Below.refl _ _).alloc (Nat.le_refl _) _
                    replace HW : Kp _ := ⟨HW.out.trans (hbx.mono HW.out.size)⟩
                    clear hbx
                    go_wp2_with fail
                    refine (known15_any _).mono ?_
                    rintro e w36 ⟨rfl, hb'⟩
                    replace HW : Kp _ := ⟨HW.out.trans (hb'.mono HW.out.size)⟩
                    clear hb'
                    go_wp2
                    go_ret
                    exact ⟨rfl, HW.out⟩
                  have i2 : (o == [46]) = false := by simpa using p2
                  rw [i2] at e2
                  by_cases p3 : o = [46, 46]
                  · subst p3
                    rw [show badP [46, 46] = false from rfl] at HP2
                    go_wp2_with fail
                    try rw [happ2]
                    refine (HP2.out _).mono ?_
                    rintro e w35 ⟨bq, A5, n5, c5, rfl, hb'⟩
                    replace HW : Kp _ := ⟨HW.out.trans (hb'.mono HW.out.size)⟩
                    clear hb'
                    go_upto_region 30 with fail
                    have hbx : Below w35.heap.size w35 (w35.alloc (.cells #[.bool bq, .slice A5 n5 c5] 25)) := (Below.refl _ _).alloc (Nat.le_refl _) _
                    replace HW : Kp _ := ⟨HW.out.trans (hbx.mono HW.out.size)⟩
                    clear hbx
                    go_wp2_with fail
                    refine (known15_any _).mono ?_
                    rintro e w36 ⟨rfl, hb'⟩
                    replace HW : Kp _ := ⟨HW.out.trans (hb'.mono HW.out.size)⟩
                    clear hb'
                    go_wp2
                    go_ret
                    exact ⟨rfl, HW.out⟩
                  have i3 : (o == [46, 46]) = false := by simpa using p3
                  rw [i3] at e3
                  have hbo : badP o = !okNm o := by
                    have h := badP_iff o
                    rw [i1, show (o == dotL) = false from i2, show (o == dotsL) = false from i3] at h
                    cases hb : badP o <;> cases hk : okNm o <;> simp_all
                  rw [hbo] at HP2
                  clear hbo p1 p2 p3
                  cases hk : okNm o with
                  | true =>
                    rw [hk] at HP2 HRn
                    clear hk
                    go_wp2_with fail
                    try rw [happ2]
                    refine (HP2.out _).mono ?_
                    rintro e w35 ⟨bq, A5, n5, c5, rfl, hb'⟩
                    replace HW : Kp _ := ⟨HW.out.trans (hb'.mono HW.out.size)⟩
                    clear hb'
                    go_upto_region 30 with fail
                    have hbx : Below w35.heap.size w35 (w35.alloc (.cells #[.bool bq, .slice A5 n5 c5] 25)) := (Below.refl _ _).alloc (Nat.le_refl _) _
                    replace HW : Kp _ := ⟨HW.out.trans (hbx.mono HW.out.size)⟩
                    clear hbx
                    go_wp2_with fail
                    refine (HRn.out _).mono ?_
                    rintro e w9 ⟨rfl, hw9⟩
                    rw [hw9]
                    clear hw9 w9
                    go_wp2_with fail
                    refine (known15_any _).mono ?_
                    rintro e w36 ⟨rfl, hb'⟩
                    replace HW : Kp _ := ⟨HW.out.trans (hb'.mono HW.out.size)⟩
                    clear hb'
                    go_wp2
                    go_ret
                    exact ⟨rfl, HW.out⟩
                  | false =>
                    rw [hk] at HP2 HRn
                    clear hk
                    go_wp2_with fail
                    try rw [happ2]
                    refine (HP2.out _).mono ?_
                    rintro e w35 ⟨bq, A5, n5, c5, rfl, hb'⟩
                    replace HW : Kp _ := ⟨HW.out.trans (hb'.mono HW.out.size)⟩
                    clear hb'
                    go_upto_region 30 with fail
                    have hbx : Below w35.heap.size w35 (w35.alloc (.cells #[.bool bq, .slice A5 n5 c5] 25)) := (Below.refl _ _).alloc (Nat.le_refl _) _
                    replace HW : Kp _ := ⟨HW.out.trans (hbx.mono HW.out.size)⟩
                    clear hbx
                    go_wp2_with fail
                    refine (HRn.out _).mono ?_
                    rintro e w9 ⟨rfl, hw9⟩
                    rw [hw9]
                    clear hw9 w9
                    go_wp2_with fail
                    refine (known15_any _).mono ?_
                    rintro e w36 ⟨rfl, hb'⟩
                    replace HW : Kp _ := ⟨HW.out.trans (hb'.mono HW.out.size)⟩
                    clear hb'
                    go_wp2
                    go_ret
                    exact ⟨rfl, HW.out⟩
      | false =>
        simp only [if_false, Bool.false_eq_true] at h0
        have HP0 : Kp _ := ⟨h0⟩
        clear h0
        go_wp2
        go_loopg [9, 10, 11] k (fun gk v9 v10 v11 wr => w = wr ∧ ∃ (i : Nat) (j : Nm) (f : Bool), i + gk = k ∧ v11 = .int .i64 (i : Int) ∧ v9 = .string ⟨j.toArray⟩ ∧ v10 = .bool f ∧ Kp (j = pre ++ joinP (ls.take i)) ∧ Kp (f = (ls.take i).all okNm))
        case atStart => exact ⟨rfl, 0, pre, true, by omega, rfl, HP0.out.symm, rfl, ⟨by rw [List.take_zero, joinP_nil, List.append_nil]⟩, ⟨rfl⟩⟩
        case round =>
          obtain ⟨rfl, i, j, f, hik, rfl, rfl, rfl, HJ, HF⟩ := hrel
          have hjs : (ByteArray.mk j.toArray).size = j.length := by simp [ByteArray.size]
          cases gk with
          | succ g2 =>
            have hgo : (i : Int) < (k : Int) := by omega
            have hin : i < k := by omega
            obtain ⟨b1, o1, rfl, hl1, hc1⟩ := SA.out.at hin
            have hx : i < ls.length := by rw [HX.out]; exact hin
            obtain ⟨x, hxe⟩ : ∃ x, x = ls[i] := ⟨_, rfl⟩
            rw [← hxe] at hc1
            have HT : Kp (ls.take (i + 1) = ls.take i ++ [x]) := ⟨by rw [List.take_succ_eq_append_getElem hx, ← hxe]⟩
            have HFn : Kp ((ls.take (i + 1)).all okNm = (f && okNm x)) := ⟨by rw [all_take_succ okNm ls i hx, ← hxe, HF.out]⟩
            have hjn : longN (ls.take (i + 1)) ≤ 150 := by
              refine Nat.le_trans ?_ HS150.out
              conv => rhs; rw [← List.take_append_drop (i + 1) ls, longN_app]
              omega
            have hjx : (joinP (ls.take (i + 1))).length ≤ 150 := Nat.le_trans (joinP_le _) hjn
            have hxs : (ByteArray.mk x.toArray).size = x.length := by simp [ByteArray.size]
            have hx150 : x.length ≤ 150 := by have := longN_mem _ x (show x ∈ ls.take (i + 1) by rw [HT.out]; simp); omega
            have HRn : Kp _ := ⟨refnamed_any x w (show x.length ≤ 140737488351232 by omega)⟩
            obtain ⟨q, hq⟩ : ∃ q, q = okNm x := ⟨_, rfl⟩
            rw [← hq] at HRn HFn
            clear hxe hjn hq
            by_cases hi0 : i = 0
            · subst hi0
              have hj0 : j = pre := by rw [HJ.out, List.take_zero, joinP_nil, List.append_nil]
              have HJ2 : Kp (j ++ x = pre ++ joinP (ls.take (0 + 1))) := ⟨by rw [HT.out, hj0, List.take_zero, List.nil_append, joinP_one]⟩
              have he : (ByteArray.mk j.toArray) ++ ⟨x.toArray⟩ = ⟨(j ++ x).toArray⟩ := bs_app j x
              have hjl : j.length ≤ 1 := by rw [hj0]; exact hprel
              simp only [Nat.add_zero] at hc1
              clear hj0 hjx
              cases f
              all_goals
                go_wp2_with (go_at_call 22; refine HRn.out.mono ?_; rintro e w9 ⟨rfl, hw9⟩; rw [hw9]; clear hw9 w9)
                go_roundg g2
                case measure => omega
                case rel => exact ⟨rfl, 1, j ++ x, _, by omega, rfl, rfl, rfl, HJ2, ⟨HFn.out.symm⟩⟩
            · have hk1 : (0 : Int) < (i : Int) := by omega
              have hne : ls.take i ≠ [] := by
                intro e
                have := congrArg List.length e
                rw [List.length_take, List.length_nil] at this; omega
              have HJ2 : Kp (j ++ 47 :: x = pre ++ joinP (ls.take (i + 1))) := ⟨by rw [HT.out, joinP_snoc _ _ hne, HJ.out, List.append_assoc]⟩
              have hj1 : j.length + (1 + x.length) ≤ 151 := by
                have h := congrArg List.length HJ2.out
                rw [List.length_append, List.length_append, List.length_cons] at h
                omega
              have he : (ByteArray.mk j.toArray) ++ ⟨#[47]⟩ ++ ⟨x.toArray⟩ = ⟨(j ++ 47 :: x).toArray⟩ := by
                rw [show (ByteArray.mk #[47]) = ⟨([47] : Nm).toArray⟩ from rfl, bs_app, bs_app]; simp
              clear hne hi0 hjx
              cases f
              all_goals
                go_wp2_with (go_at_call 22; refine HRn.out.mono ?_; rintro e w9 ⟨rfl, hw9⟩; rw [hw9]; clear hw9 w9)
                go_roundg g2
                case measure => omega
                case rel => exact ⟨rfl, i + 1, j ++ 47 :: x, _, by omega, by go_num, rfl, rfl, HJ2, ⟨HFn.out.symm⟩⟩
          | zero =>
            obtain rfl : i = k := by omega
            have hend : ¬ ((i : Int) < (i : Int)) := by omega
            have htk : ls.take i = ls := List.take_of_length_le (by rw [HX.out]; exact Nat.le_refl _)
            rw [htk] at HJ HF
            cases f with
            | false =>
              go_wp2_with fail
              refine (known15_any _).mono ?_
              rintro e w1 ⟨rfl, hb'⟩
              replace HW : Kp _ := ⟨HW.out.trans (hb'.mono HW.out.size)⟩
              clear hb'
              go_wp2
              go_ret
              exact ⟨rfl, HW.out⟩
            | true =>
              have hall : ∀ x ∈ ls, okNm x = true := List.all_eq_true.1 HF.out.symm
              obtain ⟨pb1, pb2, pb3⟩ := print_back false ls (fun x hx => okNm_keep (hall x hx)) (fun x hx => okNm_bad' (hall x hx)) (fun x hx => okNm_slash (hall x hx)) HS150.out
              have hpj : printA false ls = j := by
                rw [HJ.out, HPre.out]
                have hne : joinP ls ≠ [] := by
                  intro e
                  have h := split_join ls HNe.out (fun x hx => okNm_slash (hall x hx))
                  rw [e] at h
                  have h2 := hall [] (by rw [← h]; simp [splitS])
                  exact absurd h2 (by decide)
                unfold printA
                rw [if_neg (by simp), if_neg hne]; simp
              rw [hpj] at pb1 pb2 pb3
              have HPr : Kp (printA false ls = j) := ⟨hpj⟩
              have hjl : j.length ≤ 151 := by
                rw [HJ.out, List.length_append]
                have h1 := joinP_le ls
                have h2 := HS150.out
                have h3 := hprel
                omega
              have HP1 : Kp (∀ W, Calls Tryd.prog 11 #[.string ⟨j.toArray⟩] W fun e w' => ∃ A n c, e = .returned (.tuple #[.agg #[.bool false, .slice A n c], .int .i64 0]) ∧ Ss w' w'.heap.size A n c ls ∧ Below W.heap.size W w') := ⟨fun W => by
                have h := parse_any j W (by omega)
                rw [errS_ok pb1, pb2, pb3] at h; exact h⟩
              have HOd : Kp (∀ o : Nm, (47 : UInt8) ∉ o → j.length + 1 + o.length ≤ 200 → okS (j ++ 47 :: o) = !badP o) := ⟨fun o h1 h2 => parse_odd pb1 h1 h2⟩
              clear hall pb1 pb2 pb3 hpj HJ HF htk HP0 HPre hprel
              replace SA : Kp (Ss w w.heap.size A i c ls) := ⟨SA.out⟩
              go_wp2_with fail
              refine (HP1.out _).mono ?_
              rintro e w31 ⟨A1, n1, c1, rfl, hs1, hb'⟩
              replace SA : Kp _ := ⟨SA.out.next hb' (Nat.le_refl _)⟩
              replace HW : Kp _ := ⟨HW.out.trans (hb'.mono HW.out.size)⟩
              have S1 : Kp _ := ⟨hs1⟩
              clear hs1
              clear hb'
              go_upto_region 22 with fail
              have hbx : Below w31.heap.size w31 (w31.alloc (.cells #[.bool false, .slice A1 n1 c1] 25)) := (Below.refl _ _).alloc (Nat.le_refl _) _
              have KP : Kp _ := ⟨Blk.new w31 25 [.bool false, .slice A1 n1 c1]⟩
              obtain ⟨w32, hw32⟩ : ∃ x, x = w31.alloc (.cells #[.bool false, .slice A1 n1 c1] 25) := ⟨_, rfl⟩
              rw [← hw32] at hbx KP ⊢
              replace SA : Kp _ := ⟨SA.out.next hbx (Nat.le_refl _)⟩
              replace S1 : Kp _ := ⟨S1.out.next hbx (Nat.le_refl _)⟩
              replace HW : Kp _ := ⟨HW.out.trans (hbx.mono HW.out.size)⟩
              obtain ⟨GP, hG⟩ : ∃ g, g = w31.heap.size := ⟨_, rfl⟩
              rw [← hG] at KP ⊢
              clear hG hbx hw32
              have cKP0 : w32.cell? ⟨GP, 0, none⟩ = some (.bool false) := KP.out.cell? 0
              have cKP1 : w32.cell? ⟨GP, 1, none⟩ = some (.slice A1 n1 c1) := KP.out.cell? 1
              go_wp2_with fail
              refine (samePt_any false false A1 A n1 c1 i c ls ls _ _ _ S1.out SA.out (Nat.le_refl _) (Nat.le_refl _)).mono ?_
              rintro e w33 ⟨rfl, hb'⟩
              replace KP : Kp _ := ⟨KP.out.below hb' KP.out.lt⟩
              replace SA : Kp _ := ⟨SA.out.next hb' (Nat.le_refl _)⟩
              replace S1 : Kp _ := ⟨S1.out.next hb' (Nat.le_refl _)⟩
              replace HW : Kp _ := ⟨HW.out.trans (hb'.mono HW.out.size)⟩
              rw [same_self]
              clear hb'
              clear cKP0 cKP1
              have cKP0 : w33.cell? ⟨GP, 0, none⟩ = some (.bool false) := KP.out.cell? 0
              have cKP1 : w33.cell? ⟨GP, 1, none⟩ = some (.slice A1 n1 c1) := KP.out.cell? 1
              go_wp2_with fail
              refine (print_any false A1 n1 c1 ls _ _ S1.out (Nat.le_refl _) (by have := HS150.out; omega)).mono ?_
              rintro e w34 ⟨rfl, hb'⟩
              replace KP : Kp _ := ⟨KP.out.below hb' KP.out.lt⟩
              replace SA : Kp _ := ⟨SA.out.next hb' (Nat.le_refl _)⟩
              replace S1 : Kp _ := ⟨S1.out.next hb' (Nat.le_refl _)⟩
              replace HW : Kp _ := ⟨HW.out.trans (hb'.mono HW.out.size)⟩
              rw [HPr.out]
              clear hb'
              clear cKP0 cKP1
              go_wp2
              go_loopg [14] o.length (fun gk v14 wr => w34 = wr ∧ ∃ t : Nat, t + gk = o.length ∧ v14 = .int .i64 (t : Int) ∧ Kp (∀ u (h : u < o.length), u < t → o[u] ≠ 47))
              case atStart => exact ⟨rfl, 0, by omega, rfl, ⟨fun u _ h => absurd h (by omega)⟩⟩
              case round =>
                obtain ⟨rfl, t, htk, rfl, HNo⟩ := hrel
                cases gk with
                | succ g2 =>
                  have hto : t < o.length := by omega
                  have htI : (t : Int) < (o.length : Int) := by omega
                  by_cases hc : o[t] = 47
                  · have hcI : ((((ByteArray.mk o.toArray)[t]'(by rw [hoz]; exact hto)).toNat : Int) == 47) = true := by
                      show (((o[t]).toNat : Int) == 47) = true
                      rw [hc]; rfl
                    clear hc
                    go_wp2_with fail
                    refine (known15_any _).mono ?_
                    rintro e w35 ⟨rfl, hb'⟩
                    replace HW : Kp _ := ⟨HW.out.trans (hb'.mono HW.out.size)⟩
                    clear hb'
                    go_wp2
                    go_ret
                    exact ⟨rfl, HW.out⟩
                  · have hcI : ((((ByteArray.mk o.toArray)[t]'(by rw [hoz]; exact hto)).toNat : Int) == 47) = false := by
                      show (((o[t]).toNat : Int) == 47) = false
                      simp only [beq_eq_false_iff_ne]
                      intro e
                      apply hc
                      apply UInt8.toNat_inj.1
                      have : (47 : UInt8).toNat = 47 := rfl
                      omega
                    have HNx : Kp (∀ u (h : u < o.length), u < t + 1 → o[u] ≠ 47) := ⟨fun u h hu => by
                      by_cases e : u = t
                      · subst e; exact hc
                      · exact HNo.out u h (by omega)⟩
                    clear hc
                    go_wp2
                    go_roundg g2
                    case measure => omega
                    case rel => exact ⟨rfl, t + 1, by omega, by go_num, HNx⟩
                | zero =>
                  obtain rfl : t = o.length := by omega
                  have hend : ¬ ((o.length : Int) < (o.length : Int)) := by omega
                  have hno : (47 : UInt8) ∉ o := by
                    intro hm
                    obtain ⟨u, hu, e⟩ := List.getElem_of_mem hm
                    exact HNo.out u hu hu e
                  have hoS := HOd.out o hno (by omega)
                  obtain ⟨tw, htw⟩ : ∃ tw, tw = j ++ 47 :: o := ⟨_, rfl⟩
                  rw [← htw] at hoS
                  have htwl : tw.length ≤ 1000 := by rw [htw, List.length_append, List.length_cons]; omega
                  have happ2 : (ByteArray.mk j.toArray) ++ ⟨#[47]⟩ ++ ⟨o.toArray⟩ = ⟨tw.toArray⟩ := by
                    rw [htw, show (ByteArray.mk #[47]) = ⟨([47] : Nm).toArray⟩ from rfl, bs_app, bs_app]; simp
                  have HP2 : Kp (∀ W, Calls Tryd.prog 11 #[.string ⟨tw.toArray⟩] W fun e w' => ∃ b A n c, e = .returned (.tuple #[.agg #[.bool b, .slice A n c], .int .i64 (if badP o then 11 else 0)]) ∧ Below W.heap.size W w') := ⟨fun W => by
                    refine (parse_any tw W (by omega)).mono ?_
                    rintro e w' ⟨A, n, c, rfl, _, hb⟩
                    refine ⟨absS tw, A, n, c, ?_, hb⟩
                    unfold errS
                    rw [hoS]
                    cases badP o <;> rfl⟩
                  have e1 := eqs_str o []
                  have e2 := eqs_str o [46]
                  have e3 := eqs_str o [46, 46]
                  have hod1 : o.length ≤ 140737488351232 := by omega
                  have HRn : Kp (∀ W, _) := ⟨fun W => refnamed_any o W hod1⟩
                  clear hno hoS htw HNo hod1 HOd
                  by_cases p1 : o = []
                  · subst p1
                    rw [show badP [] = false from rfl] at HP2
                    go_wp2_with fail
                    try rw [happ2]
                    refine (HP2.out _).mono ?_
                    rintro e w35 ⟨bq, A5, n5, c5, rfl, hb'⟩
                    replace HW : Kp _ := ⟨HW.out.trans (hb'.mono HW.out.size)⟩
                    clear hb'
                    go_upto_region 30 with fail
                    have hbx : Below w35.heap.size w35 (w35.alloc (.cells #[.bool bq, .slice A5 n5 c5] 25)) := (Below.refl _ _).alloc (Nat.le_refl _) _
                    replace HW : Kp _ := ⟨HW.out.trans (hbx.mono HW.out.size)⟩
                    clear hbx
                    go_wp2_with fail
                    refine (known15_any _).mono ?_
                    rintro e w36 ⟨rfl, hb'⟩
                    replace HW : Kp _ := ⟨HW.out.trans (hb'.mono HW.out.size)⟩
                    clear hb'
                    go_wp2
                    go_ret
                    exact ⟨rfl, HW.out⟩
                  have pe : o.isEmpty = false := by simpa using p1
                  have i1 : (o == []) = false := by simpa using p1
                  rw [i1] at e1
                  by_cases p2 : o = [46]
                  · subst p2
                    rw [show badP [46] = false from rfl] at HP2
                    go_wp2_with fail
                    try rw [happ2]
                    refine (HP2.out _).mono ?_
                    rintro e w35 ⟨bq, A5, n5, c5, rfl, hb'⟩
                    replace HW : Kp _ := ⟨HW.out.trans (hb'.mono HW.out.size)⟩
                    clear hb'
                    go_upto_region 30 with fail
                    have hbx : Below w35.heap.size w35 (w35.alloc (.cells #[.bool bq, .slice A5 n5 c5] 25)) := (Below.refl _ _).alloc (Nat.le_refl _) _
                    replace HW : Kp _ := ⟨HW.out.trans (hbx.mono HW.out.size)⟩
                    clear hbx
                    go_wp2_with fail
                    refine (known15_any _).mono ?_
                    rintro e w36 ⟨rfl, hb'⟩
                    replace HW : Kp _ := ⟨HW.out.trans (hb'.mono HW.out.size)⟩
                    clear hb'
                    go_wp2
                    go_ret
                    exact ⟨rfl, HW.out⟩
                  have i2 : (o == [46]) = false := by simpa using p2
                  rw [i2] at e2
                  by_cases p3 : o = [46, 46]
                  · subst p3
                    rw [show badP [46, 46] = false from rfl] at HP2
                    go_wp2_with fail
                    try rw [happ2]
                    refine (HP2.out _).mono ?_
                    rintro e w35 ⟨bq, A5, n5, c5, rfl, hb'⟩
                    replace HW : Kp _ := ⟨HW.out.trans (hb'.mono HW.out.size)⟩
                    clear hb'
                    go_upto_region 30 with fail
                    have hbx : Below w35.heap.size w35 (w35.alloc (.cells #[.bool bq, .slice A5 n5 c5] 25)) := (Below.refl _ _).alloc (Nat.le_refl _) _
                    replace HW : Kp _ := ⟨HW.out.trans (hbx.mono HW.out.size)⟩
                    clear hbx
                    go_wp2_with fail
                    refine (known15_any _).mono ?_
                    rintro e w36 ⟨rfl, hb'⟩
                    replace HW : Kp _ := ⟨HW.out.trans (hb'.mono HW.out.size)⟩
                    clear hb'
                    go_wp2
                    go_ret
                    exact ⟨rfl, HW.out⟩
                  have i3 : (o == [46, 46]) = false := by simpa using p3
                  rw [i3] at e3
                  have hbo : badP o = !okNm o := by
                    have h := badP_iff o
                    rw [i1, show (o == dotL) = false from i2, show (o == dotsL) = false from i3] at h
                    cases hb : badP o <;> cases hk : okNm o <;> simp_all
                  rw [hbo] at HP2
                  clear hbo p1 p2 p3
                  cases hk : okNm o with
                  | true =>
                    rw [hk] at HP2 HRn
                    clear hk
                    go_wp2_with fail
                    try rw [happ2]
                    refine (HP2.out _).mono ?_
                    rintro e w35 ⟨bq, A5, n5, c5, rfl, hb'⟩
                    replace HW : Kp _ := ⟨HW.out.trans (hb'.mono HW.out.size)⟩
                    clear hb'
                    go_upto_region 30 with fail
                    have hbx : Below w35.heap.size w35 (w35.alloc (.cells #[.bool bq, .slice A5 n5 c5] 25)) := (Below.refl _ _).alloc (Nat.le_refl _) _
                    replace HW : Kp _ := ⟨HW.out.trans (hbx.mono HW.out.size)⟩
                    clear hbx
                    go_wp2_with fail
                    refine (HRn.out _).mono ?_
                    rintro e w9 ⟨rfl, hw9⟩
                    rw [hw9]
                    clear hw9 w9
                    go_wp2_with fail
                    refine (known15_any _).mono ?_
                    rintro e w36 ⟨rfl, hb'⟩
                    replace HW : Kp _ := ⟨HW.out.trans (hb'.mono HW.out.size)⟩
                    clear hb'
                    go_wp2
                    go_ret
                    exact ⟨rfl, HW.out⟩
                  | false =>
                    rw [hk] at HP2 HRn
                    clear hk
                    go_wp2_with fail
                    try rw [happ2]
                    refine (HP2.out _).mono ?_
                    rintro e w35 ⟨bq, A5, n5, c5, rfl, hb'⟩
                    replace HW : Kp _ := ⟨HW.out.trans (hb'.mono HW.out.size)⟩
                    clear hb'
                    go_upto_region 30 with fail
                    have hbx : Below w35.heap.size w35 (w35.alloc (.cells #[.bool bq, .slice A5 n5 c5] 25)) := (Below.refl _ _).alloc (Nat.le_refl _) _
                    replace HW : Kp _ := ⟨HW.out.trans (hbx.mono HW.out.size)⟩
                    clear hbx
                    go_wp2_with fail
                    refine (HRn.out _).mono ?_
                    rintro e w9 ⟨rfl, hw9⟩
                    rw [hw9]
                    clear hw9 w9
                    go_wp2_with fail
                    refine (known15_any _).mono ?_
                    rintro e w36 ⟨rfl, hb'⟩
                    replace HW : Kp _ := ⟨HW.out.trans (hb'.mono HW.out.size)⟩
                    clear hb'
                    go_wp2
                    go_ret
                    exact ⟨rfl, HW.out⟩
end
end Go.Proofs.YtaedlaeflliibaaDoor
