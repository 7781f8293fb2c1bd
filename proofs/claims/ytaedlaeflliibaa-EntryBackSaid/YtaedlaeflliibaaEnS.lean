/- The contracts of the document's Right and Same. -/
import Derived.Test.YtaedlaeflliibaaEnR
import Derived.Test.YtaedlaeflliibaaStp
namespace Go.Proofs.Ytaedlaeflliibaa
open Go.RowKit

theorem right_no {l : List En} {k : Nat} (hk : k < l.length) (h : okE l[k] = false) : rightE l = false := by
  unfold rightE
  rw [show l.all okE = false from by
    cases e : l.all okE with
    | false => rfl
    | true => rw [List.all_eq_true.1 e _ (List.getElem_mem hk)] at h; cases h]
  simp
theorem right_noup {l : List En} {p : Nat} (hp : p + 1 < l.length) (h : ¬ l[p].1 < l[p + 1].1) : rightE l = false := by
  unfold rightE
  rw [rise_false hp h]; simp
set_option maxRecDepth 100000 in
set_option maxHeartbeats 40000000 in
theorem refright_any (A : Option Addr) (n c : Nat) (l : List En) (w : World) (L : Nat) (ha : Ens w L A n c l) :
    Calls Try.prog 28 #[.slice A n c] w fun e w' => e = .returned (.bool (rightE l)) ∧ ∀ B, Below B w w' := by
  have hle := ha.le
  have HL : Kp _ := ⟨ha.len⟩
  have HI : Kp _ := ⟨ha⟩
  obtain ⟨b, hb⟩ : ∃ b, b = rightE l := ⟨_, rfl⟩
  rw [← hb]
  have HB : Kp _ := ⟨hb⟩
  clear ha hb
  go_enter Try.func28, Try.ntmps28
  go_wp2
  go_loopw [3] (fun i wr => ∃ k : Nat, k ≤ n ∧ i = .int .i64 k ∧ Kp (∀ B, Below B w wr) ∧ Kp (∀ j (hj : j < l.length), j < k → okE l[j] = true) ∧ Kp (∀ j (hj : j + 1 < l.length), j + 1 < k → l[j].1 < l[j + 1].1)) (fun i _ => n - (intOf i).toNat)
  case atStart => exact ⟨0, Nat.zero_le _, rfl, ⟨fun B => Below.refl _ _⟩, ⟨fun j _ h => by omega⟩, ⟨fun j _ h => by omega⟩⟩
  case round =>
    obtain ⟨k, hk, rfl, HW, HO, HR⟩ := hrel
    by_cases hlt : k < n
    · have hki : k < l.length := by rw [HL.out]; exact hlt
      have HEw : Kp _ := ⟨HI.out.below (HW.out L)⟩
      obtain ⟨b1, o1, rfl, _, c0, c1⟩ := HEw.out.at hlt
      have hlen := HI.out.ok _ (List.getElem_mem hki)
      have HLn : Kp _ := ⟨hlen.len⟩
      have HF : Kp (okE l[k] = false → rightE l = false) := ⟨right_no hki⟩
      have HK : Kp (okE l[k] = true → ∀ j (hj : j < l.length), j < k + 1 → okE l[j] = true) := ⟨fun h j hj h2 => by
        by_cases e : j = k
        · subst e; exact h
        · exact HO.out j hj (by omega)⟩
      have hbk : (0 : Int) ≤ (k : Int) ∧ (k : Int) < (n : Int) := by omega
      have HD : Kp (okE l[k] = ((okNm l[k].1 && decide (1 ≤ l[k].2)) && decide (l[k].2 ≤ 65535))) := ⟨rfl⟩
      have HC : Kp (∀ W, Calls Try.prog 26 #[.string ⟨(l[k]).1.toArray⟩] W fun e w' => e = .returned (.bool (okNm l[k].1)) ∧ w' = W) := ⟨fun W => refnamed_any l[k].1 W HLn.out⟩
      clear hlen HLn
      by_cases hk0 : k = 0
      · subst hk0
        rw [show o1 + 0 * 2 = o1 by omega] at c0 c1
        have HRn : Kp (∀ j (hj : j + 1 < l.length), j + 1 < 0 + 1 → l[j].1 < l[j + 1].1) := ⟨fun j hj h => by omega⟩
        clear HR HO
        generalize okE l[0] = q at *
        generalize l[0].2 = z at *
        generalize l[0].1 = x at *
        cases hq : okNm x with
        | false =>
          rw [hq] at HC HD
          have HB2 : Kp (b = false) := ⟨by rw [HB.out]; exact HF.out (by rw [HD.out]; rfl)⟩
          go_wp2_with fail
          refine wp_region_still_lit (by kernel_rfl) (by kernel_rfl) ?_
          refine wpStill_wk ?walk ?_
          case walk =>
            rename_i q1 k1 e1 q2 k2 e2 k3 e3
            clear e3 k3 e2 k2 q2 e1 k1 q1
            apply Wk.mk
            case h =>
              repeat (first | (with_reducible refine wpStill_step (fun K hK => ?_); go_simp; with_reducible refine hK _ ?_; clear hK K) | (with_reducible refine wpStill_step (fun K hK => ?_); go_simp; with_reducible refine ⟨_, HC.out _, hK _ ?_⟩; clear hK K) | (with_reducible refine wpStill_step (fun K hK => ?_); go_simp; rw [if_neg (by simp [undef])]; with_reducible refine hK _ ?_; clear hK K))
              exact wpStill_nil rfl
          dsimp only
          go_wp2
          go_ret
          exact ⟨by rw [HB2.out]; rfl, fun B => (HW.out B).drew⟩
        | true =>
          rw [hq] at HC HD
          by_cases h1 : z < 1
          · have d1 : decide (z < 1) = true := decide_eq_true h1
            have HB2 : Kp (b = false) := ⟨by rw [HB.out]; exact HF.out (by rw [HD.out, decide_eq_false (by omega : ¬ 1 ≤ z)]; rfl)⟩
            go_wp2_with fail
            refine wp_region_still_lit (by kernel_rfl) (by kernel_rfl) ?_
            refine wpStill_wk ?walk ?_
            case walk =>
              rename_i q1 k1 e1 q2 k2 e2 k3 e3
              clear e3 k3 e2 k2 q2 e1 k1 q1
              apply Wk.mk
              case h =>
                repeat (first | (with_reducible refine wpStill_step (fun K hK => ?_); go_simp; with_reducible refine hK _ ?_; clear hK K) | (with_reducible refine wpStill_step (fun K hK => ?_); go_simp; with_reducible refine ⟨_, HC.out _, hK _ ?_⟩; clear hK K) | (with_reducible refine wpStill_step (fun K hK => ?_); go_simp; rw [if_neg (by simp [undef])]; with_reducible refine hK _ ?_; clear hK K))
                exact wpStill_nil rfl
            dsimp only
            go_wp2
            go_ret
            exact ⟨by rw [HB2.out]; rfl, fun B => (HW.out B).drew⟩
          have d1 : decide (z < 1) = false := decide_eq_false h1
          by_cases h2 : 65535 < z
          · have d2 : decide (65535 < z) = true := decide_eq_true h2
            have HB2 : Kp (b = false) := ⟨by rw [HB.out]; exact HF.out (by rw [HD.out, decide_eq_false (by omega : ¬ z ≤ 65535), Bool.and_false])⟩
            go_wp2_with fail
            refine wp_region_still_lit (by kernel_rfl) (by kernel_rfl) ?_
            refine wpStill_wk ?walk ?_
            case walk =>
              rename_i q1 k1 e1 q2 k2 e2 k3 e3
              clear e3 k3 e2 k2 q2 e1 k1 q1
              apply Wk.mk
              case h =>
                repeat (first | (with_reducible refine wpStill_step (fun K hK => ?_); go_simp; with_reducible refine hK _ ?_; clear hK K) | (with_reducible refine wpStill_step (fun K hK => ?_); go_simp; with_reducible refine ⟨_, HC.out _, hK _ ?_⟩; clear hK K) | (with_reducible refine wpStill_step (fun K hK => ?_); go_simp; rw [if_neg (by simp [undef])]; with_reducible refine hK _ ?_; clear hK K))
                exact wpStill_nil rfl
            dsimp only
            go_wp2
            go_ret
            exact ⟨by rw [HB2.out]; rfl, fun B => (HW.out B).drew⟩
          have d2 : decide (65535 < z) = false := decide_eq_false h2
          go_wp2_with fail
          refine wp_region_still_lit (by kernel_rfl) (by kernel_rfl) ?_
          refine wpStill_wk ?walk ?_
          case walk =>
            rename_i q1 k1 e1 q2 k2 e2 k3 e3
            clear e3 k3 e2 k2 q2 e1 k1 q1
            apply Wk.mk
            case h =>
              repeat (first | (with_reducible refine wpStill_step (fun K hK => ?_); go_simp; with_reducible refine hK _ ?_; clear hK K) | (with_reducible refine wpStill_step (fun K hK => ?_); go_simp; with_reducible refine ⟨_, HC.out _, hK _ ?_⟩; clear hK K) | (with_reducible refine wpStill_step (fun K hK => ?_); go_simp; rw [if_neg (by simp [undef])]; with_reducible refine hK _ ?_; clear hK K))
              exact wpStill_nil rfl
          dsimp only
          go_wp2
          go_roundw
          case rel => exact ⟨0 + 1, by omega, by go_num, ⟨fun B => (HW.out B).drew⟩, ⟨HK.out (by rw [HD.out, decide_eq_true (by omega : 1 ≤ z), decide_eq_true (by omega : z ≤ 65535)]; rfl)⟩, HRn⟩
          case measure => simp [intOf]; omega
      · obtain ⟨p, rfl⟩ : ∃ p, k = p + 1 := ⟨k - 1, by omega⟩
        obtain ⟨b2, o2, e2, _, c2, _⟩ := HEw.out.at (i := p) (by omega)
        cases e2
        have hp0 : p < l.length := by omega
        have HF2 : Kp (¬ l[p].1 < l[p + 1].1 → rightE l = false) := ⟨right_noup hki⟩
        have HRn : Kp (l[p].1 < l[p + 1].1 → ∀ j (hj : j + 1 < l.length), j + 1 < p + 1 + 1 → l[j].1 < l[j + 1].1) := ⟨fun h j hj h2 => by
          by_cases e : j = p
          · subst e; exact h
          · exact HR.out j hj (by omega)⟩
        have hls := leq_str l[p + 1].1 l[p].1
        obtain ⟨kk, hkk⟩ : ∃ kk : Nat, kk = p + 1 := ⟨_, rfl⟩
        have r1 : IntKind.i64.wrap ((kk : Int) - 1) = (p : Int) := by rw [IntKind.wrap_i64]; omega
        have r2 : 0 < kk := by omega
        have r3 : (0 : Int) ≤ (p : Int) ∧ (p : Int) < (n : Int) := by omega
        clear HR HO
        generalize okE l[p + 1] = q at *
        generalize l[p + 1].2 = z at *
        generalize l[p + 1].1 = x at *
        generalize l[p].1 = y at *
        rw [← hkk] at c0 c1 hbk hlt ⊢
        have HKK : Kp (kk = p + 1) := ⟨hkk⟩
        clear hkk hki hk0 hk
        cases hq : okNm x with
        | false =>
          rw [hq] at HC HD
          have HB2 : Kp (b = false) := ⟨by rw [HB.out]; exact HF.out (by rw [HD.out]; rfl)⟩
          go_wp2_with fail
          refine wp_region_still_lit (by kernel_rfl) (by kernel_rfl) ?_
          refine wpStill_wk ?walk ?_
          case walk =>
            rename_i q1 k1 e1 q2 k2 e2 k3 e3
            clear e3 k3 e2 k2 q2 e1 k1 q1
            apply Wk.mk
            case h =>
              repeat (first | (with_reducible refine wpStill_step (fun K hK => ?_); go_simp; with_reducible refine hK _ ?_; clear hK K) | (with_reducible refine wpStill_step (fun K hK => ?_); go_simp; with_reducible refine ⟨_, HC.out _, hK _ ?_⟩; clear hK K) | (with_reducible refine wpStill_step (fun K hK => ?_); go_simp; rw [if_neg (by simp [undef])]; with_reducible refine hK _ ?_; clear hK K))
              exact wpStill_nil rfl
          dsimp only
          go_wp2
          go_ret
          exact ⟨by rw [HB2.out]; rfl, fun B => (HW.out B).drew⟩
        | true =>
          rw [hq] at HC HD
          by_cases hxy : y < x
          · rw [decide_eq_true hxy] at hls
            by_cases h1 : z < 1
            · have d1 : decide (z < 1) = true := decide_eq_true h1
              have HB2 : Kp (b = false) := ⟨by rw [HB.out]; exact HF.out (by rw [HD.out, decide_eq_false (by omega : ¬ 1 ≤ z)]; rfl)⟩
              go_wp2_with fail
              refine wp_region_still_lit (by kernel_rfl) (by kernel_rfl) ?_
              refine wpStill_wk ?walk ?_
              case walk =>
                rename_i q1 k1 e1 q2 k2 e2 k3 e3
                clear e3 k3 e2 k2 q2 e1 k1 q1
                apply Wk.mk
                case h =>
                  repeat (first | (with_reducible refine wpStill_step (fun K hK => ?_); go_simp; with_reducible refine hK _ ?_; clear hK K) | (with_reducible refine wpStill_step (fun K hK => ?_); go_simp; with_reducible refine ⟨_, HC.out _, hK _ ?_⟩; clear hK K) | (with_reducible refine wpStill_step (fun K hK => ?_); go_simp; rw [if_neg (by simp [undef])]; with_reducible refine hK _ ?_; clear hK K))
                  exact wpStill_nil rfl
              dsimp only
              go_wp2
              go_ret
              exact ⟨by rw [HB2.out]; rfl, fun B => (HW.out B).drew⟩
            have d1 : decide (z < 1) = false := decide_eq_false h1
            by_cases h2 : 65535 < z
            · have d2 : decide (65535 < z) = true := decide_eq_true h2
              have HB2 : Kp (b = false) := ⟨by rw [HB.out]; exact HF.out (by rw [HD.out, decide_eq_false (by omega : ¬ z ≤ 65535), Bool.and_false])⟩
              go_wp2_with fail
              refine wp_region_still_lit (by kernel_rfl) (by kernel_rfl) ?_
              refine wpStill_wk ?walk ?_
              case walk =>
                rename_i q1 k1 e1 q2 k2 e2 k3 e3
                clear e3 k3 e2 k2 q2 e1 k1 q1
                apply Wk.mk
                case h =>
                  repeat (first | (with_reducible refine wpStill_step (fun K hK => ?_); go_simp; with_reducible refine hK _ ?_; clear hK K) | (with_reducible refine wpStill_step (fun K hK => ?_); go_simp; with_reducible refine ⟨_, HC.out _, hK _ ?_⟩; clear hK K) | (with_reducible refine wpStill_step (fun K hK => ?_); go_simp; rw [if_neg (by simp [undef])]; with_reducible refine hK _ ?_; clear hK K))
                  exact wpStill_nil rfl
              dsimp only
              go_wp2
              go_ret
              exact ⟨by rw [HB2.out]; rfl, fun B => (HW.out B).drew⟩
            have d2 : decide (65535 < z) = false := decide_eq_false h2
            go_wp2_with fail
            refine wp_region_still_lit (by kernel_rfl) (by kernel_rfl) ?_
            refine wpStill_wk ?walk ?_
            case walk =>
              rename_i q1 k1 e1 q2 k2 e2 k3 e3
              clear e3 k3 e2 k2 q2 e1 k1 q1
              apply Wk.mk
              case h =>
                repeat (first | (with_reducible refine wpStill_step (fun K hK => ?_); go_simp; with_reducible refine hK _ ?_; clear hK K) | (with_reducible refine wpStill_step (fun K hK => ?_); go_simp; with_reducible refine ⟨_, HC.out _, hK _ ?_⟩; clear hK K) | (with_reducible refine wpStill_step (fun K hK => ?_); go_simp; rw [if_neg (by simp [undef])]; with_reducible refine hK _ ?_; clear hK K))
                exact wpStill_nil rfl
            dsimp only
            go_wp2
            go_roundw
            case rel => exact ⟨p + 1 + 1, by omega, by rw [HKK.out]; go_num, ⟨fun B => (HW.out B).drew⟩, ⟨HK.out (by rw [HD.out, decide_eq_true (by omega : 1 ≤ z), decide_eq_true (by omega : z ≤ 65535)]; rfl)⟩, ⟨HRn.out hxy⟩⟩
            case measure => simp [intOf]; omega
          · rw [decide_eq_false hxy] at hls
            have HB2 : Kp (b = false) := ⟨by rw [HB.out]; exact HF2.out hxy⟩
            go_wp2_with fail
            refine wp_region_still_lit (by kernel_rfl) (by kernel_rfl) ?_
            refine wpStill_wk ?walk ?_
            case walk =>
              rename_i q1 k1 e1 q2 k2 e2 k3 e3
              clear e3 k3 e2 k2 q2 e1 k1 q1
              apply Wk.mk
              case h =>
                repeat (first | (with_reducible refine wpStill_step (fun K hK => ?_); go_simp; with_reducible refine hK _ ?_; clear hK K) | (with_reducible refine wpStill_step (fun K hK => ?_); go_simp; with_reducible refine ⟨_, HC.out _, hK _ ?_⟩; clear hK K) | (with_reducible refine wpStill_step (fun K hK => ?_); go_simp; rw [if_neg (by simp [undef])]; with_reducible refine hK _ ?_; clear hK K))
                exact wpStill_nil rfl
            dsimp only
            go_wp2
            go_ret
            exact ⟨by rw [HB2.out]; rfl, fun B => (HW.out B).drew⟩
    · obtain rfl : k = n := by omega
      by_cases h560 : k ≤ 560
      · have HB2 : Kp (b = true) := ⟨by
          rw [HB.out]; unfold rightE
          rw [HL.out, decide_eq_true h560, rise_true fun i hi => HR.out i hi (by have := HL.out; omega), List.all_eq_true.2 fun x hx => by
            obtain ⟨j, hj, rfl⟩ := List.getElem_of_mem hx
            exact HO.out j hj (by have := HL.out; omega)]
          rfl⟩
        have h5 : (k : Int) ≤ 560 := by omega
        go_wp2
        go_ret
        exact ⟨by rw [HB2.out]; simp <;> omega, HW.out⟩
      · have HB2 : Kp (b = false) := ⟨by rw [HB.out]; unfold rightE; rw [HL.out, decide_eq_false h560]; rfl⟩
        have h5 : ¬ (k : Int) ≤ 560 := by omega
        go_wp2
        go_ret
        exact ⟨by rw [HB2.out]; simp <;> omega, HW.out⟩
theorem eqGE : (Try.prog).eqGuardType (Try.prog).depth 39 = false := by kernel_rfl
theorem run_eqEn (w : World) (x y : En) : (Op.equalIn 10000 39 (.agg (enOne x).toArray) (.agg (enOne y).toArray)).run Try.prog w = .ok (x == y) w := by
  obtain ⟨x1, x2⟩ := x
  obtain ⟨y1, y2⟩ := y
  have e1 := eqs_str x1 y1
  simp only [enOne]
  go_simp
  by_cases h1 : x1 = y1 <;> by_cases h2 : x2 = y2 <;> simp_all
end Go.Proofs.Ytaedlaeflliibaa
