/- The contract of did. -/
import Derived.Test.YtalnbomnmmefgaaDid
namespace Go.Proofs.Ytalnbomnmmefgaa
open Go.RowKit

theorem sm_did {k : Nat} {t : Wd} (h : Sm k t) (d : Dd) : Sm (k + 1) (didW t d) := by
  unfold didW
  repeat' split
  · exact sm_read h _
  · exact sm_write h _ _
  · exact sm_look h _
  · exact sm_seal h _ _
  · exact sm_bump h
  · exact sm_lie h _ _
  · exact sm_arm h _
  · exact sm_restart h
  · exact sm_set h _
  · exact sm_up h
theorem do_cells (y : Dd) (A : Option Addr) (n c : Nat) : ([Value.int .i64 y.kind, .int .i64 y.pl, .int .i64 y.sl, .int .i64 y.num, .slice A n c] : List Value).length = 5 := rfl
section
variable {w0 w : World} {k b : Nat} {t : Wd} {ws : List (Nat × Wd)} {hs : List Held} {sn : List (World × (Nat → Prop))}
set_option maxRecDepth 100000 in
set_option maxHeartbeats 4000000 in
theorem did_any (h : StS w0 w k ((b, t) :: ws) hs sn) (hk : k ≤ 1000000) (d : Dd) (hd : DdOk d) (A : Option Addr) (n c : Nat) (hm : (A, n, c, d.bs) ∈ hs) :
    Calls Try.prog 23 #[.pointer (some ⟨b, 0, none⟩), .agg #[.int .i64 d.kind, .int .i64 d.pl, .int .i64 d.sl, .int .i64 d.num, .slice A n c]] w fun e w' => ∃ A' n' c', e = .returned (.tuple #[.slice A' n' c', .bool (didB t d)]) ∧ StS w0 w' (k + 1) ((b, didW t d) :: ws) ((A', n', c', didL t d) :: hs) sn := by
  obtain ⟨kd, pl, sl, num, bs⟩ := d
  obtain ⟨h1, h2, h3, h4⟩ := hd
  simp only at h1 h2 h3 h4 hm ⊢
  have H : Kp _ := ⟨h⟩
  have HM : Kp _ := ⟨hm⟩
  have HW : Kp (okP (pl, sl) ∧ okI num) := ⟨⟨h2, h3⟩, h4⟩
  clear h hm h1 h2 h3 h4
  by_cases k1 : kd = 1
  · subst k1
    go_enter Try.func23, Try.ntmps23
    go_wp2_with (with_reducible refine wpList_box (o := ⟨some 3, _, _, _, _, _⟩) (cs := [.int .i64 1, .int .i64 pl, .int .i64 sl, .int .i64 num, .slice A n c]) rfl (.tmp 1) rfl rfl ?_)
    intro w1 hk1 hb1 hs1
    have e0 : w1.cell? ⟨w.heap.size, 0, none⟩ = some (.int .i64 1) := hk1.cell? 0
    have e1 : w1.cell? ⟨w.heap.size, 1, none⟩ = some (.int .i64 pl) := hk1.cell? 1
    have e2 : w1.cell? ⟨w.heap.size, 2, none⟩ = some (.int .i64 sl) := hk1.cell? 2
    have e3 : w1.cell? ⟨w.heap.size, 3, none⟩ = some (.int .i64 num) := hk1.cell? 3
    have e4 : w1.cell? ⟨w.heap.size, 4, none⟩ = some (.slice A n c) := hk1.cell? 4
    have H1 : Kp _ := ⟨H.out.grow hb1⟩
    clear hk1 hb1 hs1
    go_wp2_with fail
    refine (st_read H1.out hk pl sl HW.out.1).mono ?_
    rintro e w2 ⟨A', n', c', rfl, S⟩
    have S : Kp _ := ⟨S⟩
    go_wp2
    refine bodyPost_ret (v := _) (results_tmp2 rfl _ _ _) rfl ?_
    exact ⟨A', n', c', rfl, S.out⟩
  by_cases k2 : kd = 2
  · subst k2
    go_enter Try.func23, Try.ntmps23
    go_wp2_with (with_reducible refine wpList_box (o := ⟨some 3, _, _, _, _, _⟩) (cs := [.int .i64 2, .int .i64 pl, .int .i64 sl, .int .i64 num, .slice A n c]) rfl (.tmp 1) rfl rfl ?_)
    intro w1 hk1 hb1 hs1
    have e0 : w1.cell? ⟨w.heap.size, 0, none⟩ = some (.int .i64 2) := hk1.cell? 0
    have e1 : w1.cell? ⟨w.heap.size, 1, none⟩ = some (.int .i64 pl) := hk1.cell? 1
    have e2 : w1.cell? ⟨w.heap.size, 2, none⟩ = some (.int .i64 sl) := hk1.cell? 2
    have e3 : w1.cell? ⟨w.heap.size, 3, none⟩ = some (.int .i64 num) := hk1.cell? 3
    have e4 : w1.cell? ⟨w.heap.size, 4, none⟩ = some (.slice A n c) := hk1.cell? 4
    have H1 : Kp _ := ⟨H.out.grow hb1⟩
    clear hk1 hb1 hs1
    go_wp2_with fail
    refine (st_write H1.out hk pl sl HW.out.1 A n c bs HM.out).mono ?_
    rintro e w2 ⟨rfl, S⟩
    have S : Kp _ := ⟨S⟩
    go_wp2
    refine bodyPost_ret (v := _) (results_tmp2 rfl _ _ _) rfl ?_
    exact ⟨none, 0, 0, rfl, S.out.holdNil⟩
  by_cases k3 : kd = 3
  · subst k3
    go_enter Try.func23, Try.ntmps23
    go_wp2_with (with_reducible refine wpList_box (o := ⟨some 3, _, _, _, _, _⟩) (cs := [.int .i64 3, .int .i64 pl, .int .i64 sl, .int .i64 num, .slice A n c]) rfl (.tmp 1) rfl rfl ?_)
    intro w1 hk1 hb1 hs1
    have e0 : w1.cell? ⟨w.heap.size, 0, none⟩ = some (.int .i64 3) := hk1.cell? 0
    have e1 : w1.cell? ⟨w.heap.size, 1, none⟩ = some (.int .i64 pl) := hk1.cell? 1
    have e2 : w1.cell? ⟨w.heap.size, 2, none⟩ = some (.int .i64 sl) := hk1.cell? 2
    have e3 : w1.cell? ⟨w.heap.size, 3, none⟩ = some (.int .i64 num) := hk1.cell? 3
    have e4 : w1.cell? ⟨w.heap.size, 4, none⟩ = some (.slice A n c) := hk1.cell? 4
    have H1 : Kp _ := ⟨H.out.grow hb1⟩
    clear hk1 hb1 hs1
    go_wp2_with fail
    refine (st_look H1.out hk pl).mono ?_
    rintro e w2 ⟨A', n', c', rfl, S⟩
    have S : Kp _ := ⟨S⟩
    go_wp2
    refine bodyPost_ret (v := _) (results_tmp2 rfl _ _ _) rfl ?_
    exact ⟨A', n', c', rfl, S.out⟩
  by_cases k4 : kd = 4
  · subst k4
    go_enter Try.func23, Try.ntmps23
    go_wp2_with (with_reducible refine wpList_box (o := ⟨some 3, _, _, _, _, _⟩) (cs := [.int .i64 4, .int .i64 pl, .int .i64 sl, .int .i64 num, .slice A n c]) rfl (.tmp 1) rfl rfl ?_)
    intro w1 hk1 hb1 hs1
    have e0 : w1.cell? ⟨w.heap.size, 0, none⟩ = some (.int .i64 4) := hk1.cell? 0
    have e1 : w1.cell? ⟨w.heap.size, 1, none⟩ = some (.int .i64 pl) := hk1.cell? 1
    have e2 : w1.cell? ⟨w.heap.size, 2, none⟩ = some (.int .i64 sl) := hk1.cell? 2
    have e3 : w1.cell? ⟨w.heap.size, 3, none⟩ = some (.int .i64 num) := hk1.cell? 3
    have e4 : w1.cell? ⟨w.heap.size, 4, none⟩ = some (.slice A n c) := hk1.cell? 4
    have H1 : Kp _ := ⟨H.out.grow hb1⟩
    clear hk1 hb1 hs1
    go_wp2_with fail
    refine (st_seal H1.out hk pl A n c bs HM.out).mono ?_
    rintro e w2 ⟨rfl, S⟩
    have S : Kp _ := ⟨S⟩
    go_wp2
    refine bodyPost_ret (v := _) (results_tmp2 rfl _ _ _) rfl ?_
    exact ⟨none, 0, 0, rfl, S.out.holdNil⟩
  by_cases k5 : kd = 5
  · subst k5
    go_enter Try.func23, Try.ntmps23
    go_wp2_with (with_reducible refine wpList_box (o := ⟨some 3, _, _, _, _, _⟩) (cs := [.int .i64 5, .int .i64 pl, .int .i64 sl, .int .i64 num, .slice A n c]) rfl (.tmp 1) rfl rfl ?_)
    intro w1 hk1 hb1 hs1
    have e0 : w1.cell? ⟨w.heap.size, 0, none⟩ = some (.int .i64 5) := hk1.cell? 0
    have e1 : w1.cell? ⟨w.heap.size, 1, none⟩ = some (.int .i64 pl) := hk1.cell? 1
    have e2 : w1.cell? ⟨w.heap.size, 2, none⟩ = some (.int .i64 sl) := hk1.cell? 2
    have e3 : w1.cell? ⟨w.heap.size, 3, none⟩ = some (.int .i64 num) := hk1.cell? 3
    have e4 : w1.cell? ⟨w.heap.size, 4, none⟩ = some (.slice A n c) := hk1.cell? 4
    have H1 : Kp _ := ⟨H.out.grow hb1⟩
    clear hk1 hb1 hs1
    go_wp2_with fail
    refine (st_bump H1.out hk).mono ?_
    rintro e w2 ⟨rfl, S⟩
    have S : Kp _ := ⟨S⟩
    go_wp2
    refine bodyPost_ret (v := _) (results_tmp2 rfl _ _ _) rfl ?_
    exact ⟨none, 0, 0, rfl, S.out.holdNil⟩
  by_cases k6 : kd = 6
  · subst k6
    go_enter Try.func23, Try.ntmps23
    go_wp2_with (with_reducible refine wpList_box (o := ⟨some 3, _, _, _, _, _⟩) (cs := [.int .i64 6, .int .i64 pl, .int .i64 sl, .int .i64 num, .slice A n c]) rfl (.tmp 1) rfl rfl ?_)
    intro w1 hk1 hb1 hs1
    have e0 : w1.cell? ⟨w.heap.size, 0, none⟩ = some (.int .i64 6) := hk1.cell? 0
    have e1 : w1.cell? ⟨w.heap.size, 1, none⟩ = some (.int .i64 pl) := hk1.cell? 1
    have e2 : w1.cell? ⟨w.heap.size, 2, none⟩ = some (.int .i64 sl) := hk1.cell? 2
    have e3 : w1.cell? ⟨w.heap.size, 3, none⟩ = some (.int .i64 num) := hk1.cell? 3
    have e4 : w1.cell? ⟨w.heap.size, 4, none⟩ = some (.slice A n c) := hk1.cell? 4
    have H1 : Kp _ := ⟨H.out.grow hb1⟩
    clear hk1 hb1 hs1
    go_wp2_with fail
    refine (st_lie H1.out hk num HW.out.2 A n c bs HM.out).mono ?_
    rintro e w2 ⟨rfl, S⟩
    have S : Kp _ := ⟨S⟩
    go_wp2
    refine bodyPost_ret (v := _) (results_tmp2 rfl _ _ _) rfl ?_
    exact ⟨none, 0, 0, rfl, S.out.holdNil⟩
  by_cases k7 : kd = 7
  · subst k7
    go_enter Try.func23, Try.ntmps23
    go_wp2_with (with_reducible refine wpList_box (o := ⟨some 3, _, _, _, _, _⟩) (cs := [.int .i64 7, .int .i64 pl, .int .i64 sl, .int .i64 num, .slice A n c]) rfl (.tmp 1) rfl rfl ?_)
    intro w1 hk1 hb1 hs1
    have e0 : w1.cell? ⟨w.heap.size, 0, none⟩ = some (.int .i64 7) := hk1.cell? 0
    have e1 : w1.cell? ⟨w.heap.size, 1, none⟩ = some (.int .i64 pl) := hk1.cell? 1
    have e2 : w1.cell? ⟨w.heap.size, 2, none⟩ = some (.int .i64 sl) := hk1.cell? 2
    have e3 : w1.cell? ⟨w.heap.size, 3, none⟩ = some (.int .i64 num) := hk1.cell? 3
    have e4 : w1.cell? ⟨w.heap.size, 4, none⟩ = some (.slice A n c) := hk1.cell? 4
    have H1 : Kp _ := ⟨H.out.grow hb1⟩
    clear hk1 hb1 hs1
    go_wp2_with fail
    refine (st_arm H1.out num).mono ?_
    rintro e w2 ⟨rfl, S⟩
    have S : Kp _ := ⟨S⟩
    go_wp2
    refine bodyPost_ret (v := _) (results_tmp2 rfl _ _ _) rfl ?_
    exact ⟨none, 0, 0, rfl, S.out.holdNil⟩
  by_cases k8 : kd = 8
  · subst k8
    go_enter Try.func23, Try.ntmps23
    go_wp2_with (with_reducible refine wpList_box (o := ⟨some 3, _, _, _, _, _⟩) (cs := [.int .i64 8, .int .i64 pl, .int .i64 sl, .int .i64 num, .slice A n c]) rfl (.tmp 1) rfl rfl ?_)
    intro w1 hk1 hb1 hs1
    have e0 : w1.cell? ⟨w.heap.size, 0, none⟩ = some (.int .i64 8) := hk1.cell? 0
    have e1 : w1.cell? ⟨w.heap.size, 1, none⟩ = some (.int .i64 pl) := hk1.cell? 1
    have e2 : w1.cell? ⟨w.heap.size, 2, none⟩ = some (.int .i64 sl) := hk1.cell? 2
    have e3 : w1.cell? ⟨w.heap.size, 3, none⟩ = some (.int .i64 num) := hk1.cell? 3
    have e4 : w1.cell? ⟨w.heap.size, 4, none⟩ = some (.slice A n c) := hk1.cell? 4
    have H1 : Kp _ := ⟨H.out.grow hb1⟩
    clear hk1 hb1 hs1
    go_wp2_with fail
    refine (st_restart H1.out).mono ?_
    rintro e w2 ⟨rfl, S⟩
    have S : Kp _ := ⟨S⟩
    go_wp2
    refine bodyPost_ret (v := _) (results_tmp2 rfl _ _ _) rfl ?_
    exact ⟨none, 0, 0, rfl, S.out.holdNil⟩
  by_cases k9 : kd = 9
  · subst k9
    have hu : IntKind.u64.wrap num = ((u64N num : Nat) : Int) := by unfold u64N; rw [Int.toNat_of_nonneg (Int.emod_nonneg _ (by decide))]; rfl
    have HU : Kp (u64N num < 18446744073709551616) := ⟨by unfold u64N; have := Int.emod_lt_of_pos num (show (0 : Int) < 18446744073709551616 by decide); omega⟩
    go_enter Try.func23, Try.ntmps23
    go_wp2_with (with_reducible refine wpList_box (o := ⟨some 3, _, _, _, _, _⟩) (cs := [.int .i64 9, .int .i64 pl, .int .i64 sl, .int .i64 num, .slice A n c]) rfl (.tmp 1) rfl rfl ?_)
    intro w1 hk1 hb1 hs1
    have e0 : w1.cell? ⟨w.heap.size, 0, none⟩ = some (.int .i64 9) := hk1.cell? 0
    have e1 : w1.cell? ⟨w.heap.size, 1, none⟩ = some (.int .i64 pl) := hk1.cell? 1
    have e2 : w1.cell? ⟨w.heap.size, 2, none⟩ = some (.int .i64 sl) := hk1.cell? 2
    have e3 : w1.cell? ⟨w.heap.size, 3, none⟩ = some (.int .i64 num) := hk1.cell? 3
    have e4 : w1.cell? ⟨w.heap.size, 4, none⟩ = some (.slice A n c) := hk1.cell? 4
    have H1 : Kp _ := ⟨H.out.grow hb1⟩
    clear hk1 hb1 hs1
    go_wp2_with fail
    refine (st_set H1.out (u64N num) HU.out).mono ?_
    rintro e w2 ⟨rfl, S⟩
    have S : Kp _ := ⟨S⟩
    go_wp2
    refine bodyPost_ret (v := _) (results_tmp2 rfl _ _ _) rfl ?_
    exact ⟨none, 0, 0, rfl, S.out.holdNil⟩
  go_enter Try.func23, Try.ntmps23
  go_wp2_with (with_reducible refine wpList_box (o := ⟨some 3, _, _, _, _, _⟩) (cs := [.int .i64 kd, .int .i64 pl, .int .i64 sl, .int .i64 num, .slice A n c]) rfl (.tmp 1) rfl rfl ?_)
  intro w1 hk1 hb1 hs1
  have e0 : w1.cell? ⟨w.heap.size, 0, none⟩ = some (.int .i64 kd) := hk1.cell? 0
  have e1 : w1.cell? ⟨w.heap.size, 1, none⟩ = some (.int .i64 pl) := hk1.cell? 1
  have e2 : w1.cell? ⟨w.heap.size, 2, none⟩ = some (.int .i64 sl) := hk1.cell? 2
  have e3 : w1.cell? ⟨w.heap.size, 3, none⟩ = some (.int .i64 num) := hk1.cell? 3
  have e4 : w1.cell? ⟨w.heap.size, 4, none⟩ = some (.slice A n c) := hk1.cell? 4
  have H1 : Kp _ := ⟨H.out.grow hb1⟩
  clear hk1 hb1 hs1
  have HKD : Kp (didW t ⟨kd, pl, sl, num, bs⟩ = t ∧ didL t ⟨kd, pl, sl, num, bs⟩ = [] ∧ didB t ⟨kd, pl, sl, num, bs⟩ = false) := ⟨by simp [didW, didL, didB, k1, k2, k3, k4, k5, k6, k7, k8, k9]⟩
  have q1 : (kd == 1) = false := by rw [beq_eq_false_iff_ne]; exact k1
  have q2 : (kd == 2) = false := by rw [beq_eq_false_iff_ne]; exact k2
  have q3 : (kd == 3) = false := by rw [beq_eq_false_iff_ne]; exact k3
  have q4 : (kd == 4) = false := by rw [beq_eq_false_iff_ne]; exact k4
  have q5 : (kd == 5) = false := by rw [beq_eq_false_iff_ne]; exact k5
  have q6 : (kd == 6) = false := by rw [beq_eq_false_iff_ne]; exact k6
  have q7 : (kd == 7) = false := by rw [beq_eq_false_iff_ne]; exact k7
  have q8 : (kd == 8) = false := by rw [beq_eq_false_iff_ne]; exact k8
  have q9 : (kd == 9) = false := by rw [beq_eq_false_iff_ne]; exact k9
  clear k1 k2 k3 k4 k5 k6 k7 k8 k9
  go_wp2
  refine bodyPost_ret (v := _) (results_tmp2 rfl _ _ _) rfl ?_
  rw [HKD.out.1, HKD.out.2.1, HKD.out.2.2]
  exact ⟨none, 0, 0, rfl, (H1.out.more (Nat.le_succ k)).holdNil⟩
end
end Go.Proofs.Ytalnbomnmmefgaa
