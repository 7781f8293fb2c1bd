/- The contract of the document's Right. -/
import Derived.Test.YtmiobgongddaiaaNdW
namespace Go.Proofs.Ytmiobgongddaiaa
open Go.RowKit Go.Shelf

/-- is there any, of a record's numbers but its kind? -/
def someN (zs : List Int) (k : Nat) : Bool := (decide (0 < zs.getD 1 0) || decide (0 < zs.getD 2 0) || decide (0 < zs.getD 9 0)) || ((zs.drop 3).take k).any fun z => decide (0 < z)
theorem someN_step (zs : List Int) (k : Nat) (z : Int) (hl : zs.length = 10) (hk : k < 6) (hz : zs[3 + k]? = some z) : someN zs (k + 1) = (someN zs k || decide (0 < z)) := by
  unfold someN
  have h1 : k < (zs.drop 3).length := by rw [List.length_drop]; omega
  have h2 : (zs.drop 3)[k] = z := by
    have h3 : (zs.drop 3)[k]? = some z := by rw [List.getElem?_drop]; exact hz
    rw [List.getElem?_eq_getElem h1] at h3
    exact Option.some.inj h3
  rw [List.take_succ_eq_append_getElem h1, List.any_append, h2]
  simp [Bool.or_assoc]
theorem ok_some (zs : List Int) (hl : zs.length = 10) (hf : fitL mostN zs = true) : okN zs = (decide (0 < zs.getD 0 0) || !someN zs 6) := by
  obtain ⟨a, b, c, d, e, f, g, i, j, k, rfl⟩ := ten hl
  unfold okN someN
  rw [hf]
  simp only [mostN, fitL, fitB, Bool.and_eq_true, decide_eq_true_eq] at hf
  obtain ⟨⟨a0, _⟩, ⟨b0, _⟩, ⟨c0, _⟩, ⟨d0, _⟩, ⟨e0, _⟩, ⟨f0, _⟩, ⟨g0, _⟩, ⟨i0, _⟩, ⟨j0, _⟩, ⟨k0, _⟩, _⟩ := hf
  rw [Bool.eq_iff_iff]
  simp only [Bool.true_and, Bool.or_eq_true, Bool.not_eq_true', beq_iff_eq, decide_eq_true_eq, List.getD_cons_zero, List.getD_cons_succ, List.drop_succ_cons, List.drop_zero, List.take_succ_cons, List.take_zero, List.any_cons, List.any_nil, Bool.or_false, List.replicate, List.cons.injEq, and_true, beq_eq_false_iff_ne, Bool.or_eq_false_iff, decide_eq_false_iff_not]
  omega
theorem fit3 (zs : List Int) (hl : zs.length = 10) : fitL mostN zs = (fitB (zs.getD 0 0) 3 && fitB (zs.getD 1 0) 65535 && fitB (zs.getD 2 0) 17920 && fitB (zs.getD 9 0) 4095 && ((zs.drop 3).take 6).all ptrB) := by
  obtain ⟨a, b, c, d, e, f, g, i, j, k, rfl⟩ := ten hl
  simp only [mostN, fitL, List.getD_cons_zero, List.getD_cons_succ, List.drop_succ_cons, List.drop_zero, List.take_succ_cons, List.take_zero, List.all_cons, List.all_nil, ptrB, Bool.and_true]
  cases fitB a 3 <;> cases fitB b 65535 <;> cases fitB c 17920 <;> cases fitB k 4095 <;> simp
theorem all_step (zs : List Int) (k : Nat) (z : Int) (hz : zs[3 + k]? = some z) : ((zs.drop 3).take (k + 1)).all ptrB = (((zs.drop 3).take k).all ptrB && ptrB z) := by
  have h3 : (zs.drop 3)[k]? = some z := by rw [List.getElem?_drop]; exact hz
  exact all_take_step h3
theorem all_no (zs : List Int) (k : Nat) (z : Int) (hk : k < 6) (hz : zs[3 + k]? = some z) (h : ptrB z = false) : ((zs.drop 3).take 6).all ptrB = false := by
  refine all_false (k := k) (z := z) ?_ h
  rw [List.getElem?_take, if_pos hk, List.getElem?_drop]
  exact hz
section
set_option maxRecDepth 100000
set_option maxHeartbeats 4000000
theorem refright_any (zs : List Int) (hl : zs.length = 10) (w : World) :
    Calls Try.prog 18 #[.agg (cellsZ zs).toArray] w fun e w' => e = .returned (.bool (okN zs)) ∧ Below w.heap.size w w' := by
  obtain ⟨X, hX⟩ : ∃ X, X = w.heap.size := ⟨_, rfl⟩
  have hb1 : Below w.heap.size w (w.alloc (.cells (cellsZ zs).toArray 24)) := (Below.refl _ _).alloc (Nat.le_refl _) _
  have hk1 : Blk (w.alloc (.cells (cellsZ zs).toArray 24)) w.heap.size 24 (cellsZ zs) := Blk.new w _ _
  rw [← hX] at hk1
  obtain ⟨zk, hzk⟩ := ten_at hl 0 (by decide)
  obtain ⟨zl, hzl⟩ := ten_at hl 1 (by decide)
  obtain ⟨zs2, hzs2⟩ := ten_at hl 2 (by decide)
  obtain ⟨zi, hzi⟩ := ten_at hl 9 (by decide)
  have c0 := (hk1.cell? 0).trans (cellsZ_at hzk)
  have c1 := (hk1.cell? 1).trans (cellsZ_at hzl)
  have c2 := (hk1.cell? 2).trans (cellsZ_at hzs2)
  have c9 := (hk1.cell? 9).trans (cellsZ_at hzi)
  have d0 : zs.getD 0 0 = zk := by rw [List.getD_eq_getElem?_getD, hzk]; rfl
  have d1 : zs.getD 1 0 = zl := by rw [List.getD_eq_getElem?_getD, hzl]; rfl
  have d2 : zs.getD 2 0 = zs2 := by rw [List.getD_eq_getElem?_getD, hzs2]; rfl
  have d9 : zs.getD 9 0 = zi := by rw [List.getD_eq_getElem?_getD, hzi]; rfl
  have HFit : Kp (fitL mostN zs = (fitB zk 3 && fitB zl 65535 && fitB zs2 17920 && fitB zi 4095 && ((zs.drop 3).take 6).all ptrB)) := ⟨by rw [fit3 zs hl, d0, d1, d2, d9]⟩
  have HOk : Kp (fitL mostN zs = true → okN zs = (decide (0 < zk) || !someN zs 6)) := ⟨fun h => by rw [ok_some zs hl h, d0]⟩
  have HS0 : Kp (someN zs 0 = (decide (0 < zl) || decide (0 < zs2) || decide (0 < zi))) := ⟨by unfold someN; rw [d1, d2, d9]; simp⟩
  have HB1 : Kp _ := ⟨hb1⟩
  have HK1 : Kp _ := ⟨hk1⟩
  have HL : Kp (zs.length = 10) := ⟨hl⟩
  have HNo : Kp (fitL mostN zs = false → okN zs = false) := ⟨fun h => by unfold okN; rw [h]; rfl⟩
  clear hb1 hk1 hzk hzl hzs2 hzi d0 d1 d2 d9 hl
  have hcs : (zk < 0) ∨ (0 ≤ zk ∧ 3 < zk) ∨ (0 ≤ zk ∧ zk ≤ 3 ∧ zl < 0) ∨ (0 ≤ zk ∧ zk ≤ 3 ∧ 0 ≤ zl ∧ 65535 < zl) ∨ (0 ≤ zk ∧ zk ≤ 3 ∧ 0 ≤ zl ∧ zl ≤ 65535 ∧ zs2 < 0) ∨ (0 ≤ zk ∧ zk ≤ 3 ∧ 0 ≤ zl ∧ zl ≤ 65535 ∧ 0 ≤ zs2 ∧ 17920 < zs2) ∨ (0 ≤ zk ∧ zk ≤ 3 ∧ 0 ≤ zl ∧ zl ≤ 65535 ∧ 0 ≤ zs2 ∧ zs2 ≤ 17920) := by omega
  have HBad : Kp ((fitB zk 3 && fitB zl 65535 && fitB zs2 17920) = false → okN zs = false) := ⟨fun h => HNo.out (by rw [HFit.out, h]; rfl)⟩
  rcases hcs with h1 | ⟨h1, h2⟩ | ⟨h1, h2, h3⟩ | ⟨h1, h2, h3, h4⟩ | ⟨h1, h2, h3, h4, h5⟩ | ⟨h1, h2, h3, h4, h5, h6⟩ | ⟨h1, h2, h3, h4, h5, h6⟩
  · have hq : fitB zk 3 = false := by unfold fitB; rw [decide_eq_false (show ¬ 0 ≤ zk by omega)]; rfl
    have HE : Kp (okN zs = false) := ⟨HBad.out (by rw [hq]; simp)⟩
    clear hq
    go_enter Try.func18, Try.ntmps18
    go_upto_region 1 with fail
    rw [← hX]
    generalize w.alloc (.cells (cellsZ zs).toArray 24) = w1 at *
    clear hX
    go_wp2
    go_ret
    exact ⟨by rw [HE.out]; rfl, HB1.out⟩
  · have hq : fitB zk 3 = false := by unfold fitB; rw [decide_eq_false (show ¬ zk ≤ ((3 : Nat) : Int) by omega)]; simp
    have HE : Kp (okN zs = false) := ⟨HBad.out (by rw [hq]; simp)⟩
    clear hq
    go_enter Try.func18, Try.ntmps18
    go_upto_region 1 with fail
    rw [← hX]
    generalize w.alloc (.cells (cellsZ zs).toArray 24) = w1 at *
    clear hX
    go_wp2
    go_ret
    exact ⟨by rw [HE.out]; rfl, HB1.out⟩
  · have hq : fitB zl 65535 = false := by unfold fitB; rw [decide_eq_false (show ¬ 0 ≤ zl by omega)]; rfl
    have HE : Kp (okN zs = false) := ⟨HBad.out (by rw [hq]; simp)⟩
    clear hq
    go_enter Try.func18, Try.ntmps18
    go_upto_region 1 with fail
    rw [← hX]
    generalize w.alloc (.cells (cellsZ zs).toArray 24) = w1 at *
    clear hX
    go_wp2
    go_ret
    exact ⟨by rw [HE.out]; rfl, HB1.out⟩
  · have hq : fitB zl 65535 = false := by unfold fitB; rw [decide_eq_false (show ¬ zl ≤ ((65535 : Nat) : Int) by omega)]; simp
    have HE : Kp (okN zs = false) := ⟨HBad.out (by rw [hq]; simp)⟩
    clear hq
    go_enter Try.func18, Try.ntmps18
    go_upto_region 1 with fail
    rw [← hX]
    generalize w.alloc (.cells (cellsZ zs).toArray 24) = w1 at *
    clear hX
    go_wp2
    go_ret
    exact ⟨by rw [HE.out]; rfl, HB1.out⟩
  · have hq : fitB zs2 17920 = false := by unfold fitB; rw [decide_eq_false (show ¬ 0 ≤ zs2 by omega)]; rfl
    have HE : Kp (okN zs = false) := ⟨HBad.out (by rw [hq]; simp)⟩
    clear hq
    go_enter Try.func18, Try.ntmps18
    go_upto_region 1 with fail
    rw [← hX]
    generalize w.alloc (.cells (cellsZ zs).toArray 24) = w1 at *
    clear hX
    go_wp2
    go_ret
    exact ⟨by rw [HE.out]; rfl, HB1.out⟩
  · have hq : fitB zs2 17920 = false := by unfold fitB; rw [decide_eq_false (show ¬ zs2 ≤ ((17920 : Nat) : Int) by omega)]; simp
    have HE : Kp (okN zs = false) := ⟨HBad.out (by rw [hq]; simp)⟩
    clear hq
    go_enter Try.func18, Try.ntmps18
    go_upto_region 1 with fail
    rw [← hX]
    generalize w.alloc (.cells (cellsZ zs).toArray 24) = w1 at *
    clear hX
    go_wp2
    go_ret
    exact ⟨by rw [HE.out]; rfl, HB1.out⟩
  · have hf3 : (fitB zk 3 && fitB zl 65535 && fitB zs2 17920) = true := by
      unfold fitB
      rw [decide_eq_true h1, decide_eq_true h3, decide_eq_true h5, decide_eq_true (show zk ≤ ((3 : Nat) : Int) by omega), decide_eq_true (show zl ≤ ((65535 : Nat) : Int) by omega), decide_eq_true (show zs2 ≤ ((17920 : Nat) : Int) by omega)]; rfl
    have HF3 : Kp (fitL mostN zs = (fitB zi 4095 && ((zs.drop 3).take 6).all ptrB)) := ⟨by rw [HFit.out, hf3, Bool.true_and]⟩
    clear hf3 HFit HBad
    go_enter Try.func18, Try.ntmps18
    go_upto_region 1 with fail
    rw [← hX]
    generalize w.alloc (.cells (cellsZ zs).toArray 24) = w1 at *
    clear hX
    go_wp2_with fail
    refine (refptr_any zi w1).mono ?_
    rintro e w2 ⟨rfl, rfl⟩
    cases hpi : ptrB zi with
    | false =>
      have HE : Kp (okN zs = false) := ⟨HNo.out (by rw [HF3.out, show fitB zi 4095 = ptrB zi from rfl, hpi]; rfl)⟩
      go_wp2
      go_ret
      exact ⟨by rw [HE.out]; rfl, HB1.out⟩
    | true =>
      have HF4 : Kp (fitL mostN zs = ((zs.drop 3).take 6).all ptrB) := ⟨by rw [HF3.out, show fitB zi 4095 = ptrB zi from rfl, hpi, Bool.true_and]⟩
      have hi0 : 0 ≤ zi := by
        unfold ptrB fitB at hpi
        rw [Bool.and_eq_true, decide_eq_true_eq] at hpi
        exact hpi.1
      obtain ⟨q0, hq0⟩ : ∃ q, q = someN zs 0 := ⟨_, rfl⟩
      have HQ0 : Kp _ := ⟨hq0⟩
      rw [HS0.out] at hq0
      clear HF3 hpi HS0
      go_upto_region 3 with fail
      go_cut [3] from 39 to 51 (fun v3 wx => v3 = .bool q0 ∧ wx = w2)
      case first =>
        have hc3 : (0 < zl ∧ q0 = true) ∨ (zl = 0 ∧ 0 < zs2 ∧ q0 = true) ∨ (zl = 0 ∧ zs2 = 0 ∧ 0 < zi ∧ q0 = true) ∨ (zl = 0 ∧ zs2 = 0 ∧ zi = 0 ∧ q0 = false) := by
          by_cases a1 : 0 < zl
          · exact .inl ⟨a1, by rw [hq0, decide_eq_true a1]; rfl⟩
          · by_cases a2 : 0 < zs2
            · exact .inr (.inl ⟨by omega, a2, by rw [hq0, decide_eq_true a2]; simp⟩)
            · by_cases a3 : 0 < zi
              · exact .inr (.inr (.inl ⟨by omega, by omega, a3, by rw [hq0, decide_eq_true a3]; simp⟩))
              · exact .inr (.inr (.inr ⟨by omega, by omega, by omega, by rw [hq0, decide_eq_false a1, decide_eq_false a2, decide_eq_false a3]; rfl⟩))
        clear hq0 HQ0 h3 h5 hi0 h4 h6
        rcases hc3 with ⟨a1, rfl⟩ | ⟨rfl, a2, rfl⟩ | ⟨rfl, rfl, a3, rfl⟩ | ⟨rfl, rfl, rfl, rfl⟩
        all_goals
          go_wp2_with fail
          go_meet
          case rel => exact ⟨rfl, rfl⟩
      case rest =>
        obtain ⟨rfl, rfl⟩ := hcut
        clear hq0 c1 c2 c9
        go_wp2
        go_loopg [3, 4] 6 (fun gk v3 v4 wr => ∃ k : Nat, k + gk = 6 ∧ v4 = .int .i64 (k : Int) ∧ v3 = .bool (someN zs k) ∧ Kp (((zs.drop 3).take k).all ptrB = true) ∧ wr = wc)
        case atStart => exact ⟨0, by omega, rfl, by rw [HQ0.out], ⟨rfl⟩, rfl⟩
        case round =>
          obtain ⟨k, hk6, rfl, rfl, HA, rfl⟩ := hrel
          cases gk with
          | zero =>
            have hend : ¬ ((k : Int) < 6) := by omega
            obtain rfl : k = 6 := by omega
            have HE : Kp (okN zs = (decide (0 < zk) || !someN zs 6)) := ⟨HOk.out (by rw [HF4.out, HA.out])⟩
            generalize someN zs 6 = q6 at *
            by_cases hz : 0 < zk
            · have HE2 : Kp (okN zs = true) := ⟨by rw [HE.out, decide_eq_true hz]; rfl⟩
              go_wp2
              go_ret
              exact ⟨by rw [HE2.out]; rfl, HB1.out⟩
            · obtain rfl : zk = 0 := by omega
              have HE2 : Kp (okN zs = !q6) := ⟨by rw [HE.out]; rfl⟩
              clear hz
              go_wp2
              go_ret
              exact ⟨by rw [HE2.out]; rfl, HB1.out⟩
          | succ g2 =>
            have hgo : (k : Int) < 6 := by omega
            have hk : k < 6 := by omega
            obtain ⟨z, hz⟩ := ten_at HL.out (3 + k) (by omega)
            have cz := (HK1.out.cell? (3 + k)).trans (cellsZ_at hz)
            have HT : Kp _ := ⟨all_step zs k z hz⟩
            have HSt : Kp _ := ⟨someN_step zs k z HL.out hk hz⟩
            have HN6 : Kp _ := ⟨fun h => all_no zs k z hk hz h⟩
            obtain ⟨qk, hqk⟩ : ∃ q, q = someN zs k := ⟨_, rfl⟩
            rw [← hqk] at HSt ⊢
            clear hz hqk
            go_wp2_with fail
            refine (refptr_any z wr).mono ?_
            rintro e w3 ⟨rfl, rfl⟩
            cases hp : ptrB z with
            | false =>
              have HE : Kp (okN zs = false) := ⟨HNo.out (by rw [HF4.out]; exact HN6.out hp)⟩
              go_wp2
              go_ret
              exact ⟨by rw [HE.out]; rfl, HB1.out⟩
            | true =>
              have HA2 : Kp (((zs.drop 3).take (k + 1)).all ptrB = true) := ⟨by rw [HT.out, HA.out, hp]; rfl⟩
              cases qk with
              | true =>
                have HV : Kp (someN zs (k + 1) = true) := ⟨by rw [HSt.out]; rfl⟩
                go_wp2
                go_roundg g2
                case measure => omega
                case rel => exact ⟨k + 1, by omega, by go_num, by rw [HV.out], HA2, rfl⟩
              | false =>
                have HV : Kp (someN zs (k + 1) = decide (0 < z)) := ⟨by rw [HSt.out]; rfl⟩
                go_wp2
                go_roundg g2
                case measure => omega
                case rel => exact ⟨k + 1, by omega, by go_num, by rw [HV.out], HA2, rfl⟩
end
end Go.Proofs.Ytmiobgongddaiaa
