/- The contract of the document's Step, where it arms, starts again, sets or does nothing.
   The contract of the document's Step: a lie; whole. -/
import Derived.Test.YtpbpegoobgfjcaaG15
namespace Go.Proofs.Ytpbpegoobgfjcaa
open Go.RowKit

theorem TB.map {W : World} {Lo : Nat → Prop} {a a' : Ta} {t t' : Wd} {A : Option Addr} {n c : Nat} {l : List UInt8} (h : TB W Lo a t A n c l) (f : ∀ M5, TvM W M5 a t → TvM W M5 a' t') : TB W Lo a' t' A n c l := by
  obtain ⟨M5, h1, h2, h3, h4⟩ := h.ex
  exact ⟨M5, h1, h2, f M5 h3, h4⟩
theorem u64N_is (z : Int) : u64N z < 18446744073709551616 ∧ IntKind.u64.wrap z = (u64N z : Int) := by
  unfold u64N
  have h1 := Int.emod_lt_of_pos z (show (0 : Int) < 18446744073709551616 by decide)
  have h2 := Int.emod_nonneg z (show (18446744073709551616 : Int) ≠ 0 by decide)
  refine ⟨by omega, ?_⟩
  rw [Int.toNat_of_nonneg h2]
  rfl
section
variable {M : Nat → Prop} {w : World} {a : Ta} {t : Wd}
set_option maxRecDepth 100000 in
set_option maxHeartbeats 4000000 in
theorem rstep8 (h : TvM w M a t) (hM : ∀ k, M k → k < w.heap.size) (d : Dd) (B : Option Addr) (m c : Nat) (hb : BsM w M B m c d.bs) (hk : d.kind = 8) :
    Calls Try.prog 24 #[.agg (tvL a t).toArray, .agg (ddC d B m c).toArray] w fun e w' => ∃ a' A n c', e = .returned (.tuple #[.agg (tvL a' (didW t d)).toArray, .slice A n c', .bool (didB t d)]) ∧ Below w.heap.size w w' ∧ a'.ln ≤ a.ln + 1 ∧ TvM w' M a' (didW t d) ∧ BsM w' M A n c' (didL t d) := by
  have HW : Kp (didW t d = restartW t ∧ didL t d = [] ∧ didB t d = false) := ⟨by unfold didW didL didB; simp [hk]⟩
  have HKd : Kp _ := ⟨hk⟩
  clear hk
  have HZ : Kp (zeroT'.length = 10) := ⟨rfl⟩
  have HT : Kp _ := ⟨h⟩
  have HM : Kp _ := ⟨hM⟩
  have HB : Kp _ := ⟨hb⟩
  clear h hM hb
  go_enter Try.func24, Try.ntmps24
  go_wp2_with (with_reducible refine wpList_box (o := ⟨some 2, _, _, _, _, _⟩) (cs := tvL a t) rfl (.tmp 0) rfl rfl ?_)
  intro w1 hk1 hb1 hs1
  have HK1 : Kp _ := ⟨hk1⟩
  have hg1 := hk1.lt
  have HTB1 : Kp (TB w1 (fun j => M j ∨ j = w.heap.size) a t B m c d.bs) := ⟨TB.start HT.out HM.out HB.out hb1 (Nat.le_refl _) hg1⟩
  clear hk1 hs1 HT HM HB
  go_wp2_with (with_reducible refine wpList_box (o := ⟨some 3, _, _, _, _, _⟩) (cs := ddC d B m c) rfl (.tmp 1) rfl rfl ?_)
  intro w2 hk2 hb2 hs2
  have HD2 : Kp _ := ⟨hk2⟩
  have HK2 : Kp _ := ⟨HK1.out.below hb2 HK1.out.lt⟩
  have HTB2 : Kp _ := ⟨HTB1.out.below hb2⟩
  have hB2 : Below w.heap.size w w2 := hb1.trans (hb2.mono hb1.size)
  have h1 := HK1.out.lt
  clear hk2 hb2 hs2 HK1 HTB1
  go_wp2_with (with_reducible refine wpList_alloc (o := ⟨some 4, _, _, _, _, _⟩) tyT rfl rfl ?_)
  intro w3 hk3 hb3 hs3
  have HR : Kp _ := ⟨hk3⟩
  have HD : Kp _ := ⟨HD2.out.below hb3 HD2.out.lt⟩
  have HK : Kp _ := ⟨HK2.out.below hb3 HK2.out.lt⟩
  have hB : Below w.heap.size w w3 := hB2.trans (hb3.mono hB2.size)
  have h2 := HD2.out.lt
  have hRl := hk3.lt
  have hgt : w.heap.size < w2.heap.size := HK2.out.lt
  have HTB : Kp (TB w3 (fun j => (M j ∨ j = w.heap.size) ∨ j = w2.heap.size) a t B m c d.bs) := ⟨HTB2.out.add hb3 (Nat.le_refl _) hRl⟩
  have f0 : w3.cell? ⟨w1.heap.size, 0, none⟩ = some (.int .i64 d.kind) := HD.out.cell? 0
  rw [HKd.out] at f0
  have f3 : w3.cell? ⟨w1.heap.size, 3, none⟩ = some (.int .i64 d.num) := HD.out.cell? 3
  have e8 : w3.cell? ⟨w.heap.size, 8, none⟩ = some (.bool t.lost) := HK.out.cell? 8
  have e6 : w3.cell? ⟨w.heap.size, 6, none⟩ = some (.bool t.lim) := HK.out.cell? 6
  have e7 : w3.cell? ⟨w.heap.size, 7, none⟩ = some (.int .i64 (a.pw : Int)) := HK.out.cell? 7
  have e3 : w3.cell? ⟨w.heap.size, 3, none⟩ = some (.int .u64 (t.ctr : Int)) := HK.out.cell? 3
  have z3 := HK.out.frozen 3
  have z6 := HK.out.frozen 6
  have z7 := HK.out.frozen 7
  have z8 := HK.out.frozen 8
  obtain ⟨g4, hg4⟩ : ∃ g, g = w2.heap.size := ⟨_, rfl⟩
  rw [← hg4] at HR HTB h2 hgt hRl ⊢
  clear hk3 hb3 hs3 HD2 HK2 hB2 hg4 hb1 HTB2
  have ho : Only w.heap.size w3 ((w3.setCell ⟨w.heap.size, 6, none⟩ (.bool false)).setCell ⟨w.heap.size, 8, none⟩ (.bool false)) := ((Only.refl _ _).trans (Only.setCell w3 ⟨w.heap.size, 6, none⟩ (.bool false))).trans (Only.setCell (w3.setCell ⟨w.heap.size, 6, none⟩ (.bool false)) ⟨w.heap.size, 8, none⟩ (.bool false))
  have HKn : Kp (Blk ((w3.setCell ⟨w.heap.size, 6, none⟩ (.bool false)).setCell ⟨w.heap.size, 8, none⟩ (.bool false)) w.heap.size 42 (tvL a (restartW t))) := ⟨(HK.out.set 6 _).set 8 _⟩
  have HRn : Kp (Blk ((w3.setCell ⟨w.heap.size, 6, none⟩ (.bool false)).setCell ⟨w.heap.size, 8, none⟩ (.bool false)) g4 42 zeroT') := ⟨HR.out.only ho (by omega)⟩
  have HTn : Kp (TB ((w3.setCell ⟨w.heap.size, 6, none⟩ (.bool false)).setCell ⟨w.heap.size, 8, none⟩ (.bool false)) (fun j => (M j ∨ j = w.heap.size) ∨ j = g4) a (restartW t) B m c d.bs) := ⟨(HTB.out.only ho (.inl (.inr rfl))).map (fun M5 h => ⟨h.slots, h.seals, h.lies, h.trace, (fun h9 => by cases h9), h.pmax, h.big, h.num⟩)⟩
  have hBn := hB.trans (ho.below (Nat.le_refl _))
  have HLn : Kp _ := ⟨tvL_length a (restartW t)⟩
  have HOn : Kp _ := ⟨tvL_one a (restartW t)⟩
  clear HTB HK HR HD hB ho
  go_wp2_with (first
    | (with_reducible refine wpList_loadAll (o := ⟨some 118, _, _, _, _, _⟩) rwT rfl (.tmp 2) rfl rfl HKn.out HLn.out ?_)
    | (with_reducible refine wpList_storeAll (o := ⟨none, _, _, _, _, _⟩) (vs := tvL a (restartW t)) rwT rfl (.tmp 4) (.tmp 118) rfl rfl HRn.out HZ.out HLn.out HOn.out rfl ?_))
  intro w8 hk8 ho8
  have HK8 : Kp _ := ⟨hk8⟩
  have HF2 : Kp _ := ⟨(HTn.out.only ho8 (.inr rfl)).fin (M := M) (fun j hj => .inl (.inl hj))⟩
  have hBf := hBn.trans (ho8.below (Nat.le_of_lt hgt))
  clear hk8 ho8 HTn
  go_wp2
  refine ret_arrC rfl rwT rfl rfl rfl HK8.out (tvL_length _ _) rfl ?_
  rw [HW.out.1, HW.out.2.1, HW.out.2.2]
  exact ⟨a, none, 0, 0, rfl, hBf, Nat.le_succ _, HF2.out.1, BsM.zero _ _⟩
set_option maxRecDepth 100000 in
set_option maxHeartbeats 4000000 in
theorem rstep9 (h : TvM w M a t) (hM : ∀ k, M k → k < w.heap.size) (d : Dd) (B : Option Addr) (m c : Nat) (hb : BsM w M B m c d.bs) (hk : d.kind = 9) :
    Calls Try.prog 24 #[.agg (tvL a t).toArray, .agg (ddC d B m c).toArray] w fun e w' => ∃ a' A n c', e = .returned (.tuple #[.agg (tvL a' (didW t d)).toArray, .slice A n c', .bool (didB t d)]) ∧ Below w.heap.size w w' ∧ a'.ln ≤ a.ln + 1 ∧ TvM w' M a' (didW t d) ∧ BsM w' M A n c' (didL t d) := by
  have HW : Kp (didW t d = setW t (u64N d.num) ∧ didL t d = [] ∧ didB t d = false) := ⟨by unfold didW didL didB; simp [hk]⟩
  have HKd : Kp _ := ⟨hk⟩
  have HU : Kp (u64N d.num < 18446744073709551616 ∧ IntKind.u64.wrap d.num = (u64N d.num : Int)) := ⟨u64N_is d.num⟩
  clear hk
  have HZ : Kp (zeroT'.length = 10) := ⟨rfl⟩
  have HT : Kp _ := ⟨h⟩
  have HM : Kp _ := ⟨hM⟩
  have HB : Kp _ := ⟨hb⟩
  clear h hM hb
  go_enter Try.func24, Try.ntmps24
  go_wp2_with (with_reducible refine wpList_box (o := ⟨some 2, _, _, _, _, _⟩) (cs := tvL a t) rfl (.tmp 0) rfl rfl ?_)
  intro w1 hk1 hb1 hs1
  have HK1 : Kp _ := ⟨hk1⟩
  have hg1 := hk1.lt
  have HTB1 : Kp (TB w1 (fun j => M j ∨ j = w.heap.size) a t B m c d.bs) := ⟨TB.start HT.out HM.out HB.out hb1 (Nat.le_refl _) hg1⟩
  clear hk1 hs1 HT HM HB
  go_wp2_with (with_reducible refine wpList_box (o := ⟨some 3, _, _, _, _, _⟩) (cs := ddC d B m c) rfl (.tmp 1) rfl rfl ?_)
  intro w2 hk2 hb2 hs2
  have HD2 : Kp _ := ⟨hk2⟩
  have HK2 : Kp _ := ⟨HK1.out.below hb2 HK1.out.lt⟩
  have HTB2 : Kp _ := ⟨HTB1.out.below hb2⟩
  have hB2 : Below w.heap.size w w2 := hb1.trans (hb2.mono hb1.size)
  have h1 := HK1.out.lt
  clear hk2 hb2 hs2 HK1 HTB1
  go_wp2_with (with_reducible refine wpList_alloc (o := ⟨some 4, _, _, _, _, _⟩) tyT rfl rfl ?_)
  intro w3 hk3 hb3 hs3
  have HR : Kp _ := ⟨hk3⟩
  have HD : Kp _ := ⟨HD2.out.below hb3 HD2.out.lt⟩
  have HK : Kp _ := ⟨HK2.out.below hb3 HK2.out.lt⟩
  have hB : Below w.heap.size w w3 := hB2.trans (hb3.mono hB2.size)
  have h2 := HD2.out.lt
  have hRl := hk3.lt
  have hgt : w.heap.size < w2.heap.size := HK2.out.lt
  have HTB : Kp (TB w3 (fun j => (M j ∨ j = w.heap.size) ∨ j = w2.heap.size) a t B m c d.bs) := ⟨HTB2.out.add hb3 (Nat.le_refl _) hRl⟩
  have f0 : w3.cell? ⟨w1.heap.size, 0, none⟩ = some (.int .i64 d.kind) := HD.out.cell? 0
  rw [HKd.out] at f0
  have f3 : w3.cell? ⟨w1.heap.size, 3, none⟩ = some (.int .i64 d.num) := HD.out.cell? 3
  have e8 : w3.cell? ⟨w.heap.size, 8, none⟩ = some (.bool t.lost) := HK.out.cell? 8
  have e6 : w3.cell? ⟨w.heap.size, 6, none⟩ = some (.bool t.lim) := HK.out.cell? 6
  have e7 : w3.cell? ⟨w.heap.size, 7, none⟩ = some (.int .i64 (a.pw : Int)) := HK.out.cell? 7
  have e3 : w3.cell? ⟨w.heap.size, 3, none⟩ = some (.int .u64 (t.ctr : Int)) := HK.out.cell? 3
  have z3 := HK.out.frozen 3
  have z6 := HK.out.frozen 6
  have z7 := HK.out.frozen 7
  have z8 := HK.out.frozen 8
  obtain ⟨g4, hg4⟩ : ∃ g, g = w2.heap.size := ⟨_, rfl⟩
  rw [← hg4] at HR HTB h2 hgt hRl ⊢
  clear hk3 hb3 hs3 HD2 HK2 hB2 hg4 hb1 HTB2
  have hwu := HU.out.2
  have ho : Only w.heap.size w3 (w3.setCell ⟨w.heap.size, 3, none⟩ (.int .u64 (u64N d.num : Int))) := (Only.refl _ _).trans (Only.setCell w3 ⟨w.heap.size, 3, none⟩ (.int .u64 (u64N d.num : Int)))
  have HKn : Kp (Blk (w3.setCell ⟨w.heap.size, 3, none⟩ (.int .u64 (u64N d.num : Int))) w.heap.size 42 (tvL a (setW t (u64N d.num)))) := ⟨HK.out.set 3 _⟩
  have HRn : Kp (Blk (w3.setCell ⟨w.heap.size, 3, none⟩ (.int .u64 (u64N d.num : Int))) g4 42 zeroT') := ⟨HR.out.only ho (by omega)⟩
  have HTn : Kp (TB (w3.setCell ⟨w.heap.size, 3, none⟩ (.int .u64 (u64N d.num : Int))) (fun j => (M j ∨ j = w.heap.size) ∨ j = g4) a (setW t (u64N d.num)) B m c d.bs) := ⟨(HTB.out.only ho (.inl (.inr rfl))).map (fun M5 h => ⟨h.slots, h.seals, h.lies, h.trace, h.pow, h.pmax, h.big, HU.out.1⟩)⟩
  have hBn := hB.trans (ho.below (Nat.le_refl _))
  have HLn : Kp _ := ⟨tvL_length a (setW t (u64N d.num))⟩
  have HOn : Kp _ := ⟨tvL_one a (setW t (u64N d.num))⟩
  clear HTB HK HR HD hB ho
  go_wp2_with (first
    | (with_reducible refine wpList_loadAll (o := ⟨some 118, _, _, _, _, _⟩) rwT rfl (.tmp 2) rfl rfl HKn.out HLn.out ?_)
    | (with_reducible refine wpList_storeAll (o := ⟨none, _, _, _, _, _⟩) (vs := tvL a (setW t (u64N d.num))) rwT rfl (.tmp 4) (.tmp 118) rfl rfl HRn.out HZ.out HLn.out HOn.out rfl ?_))
  intro w8 hk8 ho8
  have HK8 : Kp _ := ⟨hk8⟩
  have HF2 : Kp _ := ⟨(HTn.out.only ho8 (.inr rfl)).fin (M := M) (fun j hj => .inl (.inl hj))⟩
  have hBf := hBn.trans (ho8.below (Nat.le_of_lt hgt))
  clear hk8 ho8 HTn
  go_wp2
  refine ret_arrC rfl rwT rfl rfl rfl HK8.out (tvL_length _ _) rfl ?_
  rw [HW.out.1, HW.out.2.1, HW.out.2.2]
  exact ⟨a, none, 0, 0, rfl, hBf, Nat.le_succ _, HF2.out.1, BsM.zero _ _⟩
set_option maxRecDepth 100000 in
set_option maxHeartbeats 4000000 in
theorem rstep0 (h : TvM w M a t) (hM : ∀ k, M k → k < w.heap.size) (d : Dd) (B : Option Addr) (m c : Nat) (hb : BsM w M B m c d.bs) (hk : ∀ z : Int, 1 ≤ z → z ≤ 9 → d.kind ≠ z) :
    Calls Try.prog 24 #[.agg (tvL a t).toArray, .agg (ddC d B m c).toArray] w fun e w' => ∃ a' A n c', e = .returned (.tuple #[.agg (tvL a' (didW t d)).toArray, .slice A n c', .bool (didB t d)]) ∧ Below w.heap.size w w' ∧ a'.ln ≤ a.ln + 1 ∧ TvM w' M a' (didW t d) ∧ BsM w' M A n c' (didL t d) := by
  have HW : Kp (didW t d = t ∧ didL t d = [] ∧ didB t d = false) := ⟨by
    have q1 := hk 1 (by omega) (by omega)
    have q2 := hk 2 (by omega) (by omega)
    have q3 := hk 3 (by omega) (by omega)
    have q4 := hk 4 (by omega) (by omega)
    have q5 := hk 5 (by omega) (by omega)
    have q6 := hk 6 (by omega) (by omega)
    have q7 := hk 7 (by omega) (by omega)
    have q8 := hk 8 (by omega) (by omega)
    have q9 := hk 9 (by omega) (by omega)
    unfold didW didL didB
    simp [q1, q2, q3, q4, q5, q6, q7, q8, q9]⟩
  have HKd : Kp _ := ⟨hk⟩
  clear hk
  have HZ : Kp (zeroT'.length = 10) := ⟨rfl⟩
  have HT : Kp _ := ⟨h⟩
  have HM : Kp _ := ⟨hM⟩
  have HB : Kp _ := ⟨hb⟩
  clear h hM hb
  go_enter Try.func24, Try.ntmps24
  go_wp2_with (with_reducible refine wpList_box (o := ⟨some 2, _, _, _, _, _⟩) (cs := tvL a t) rfl (.tmp 0) rfl rfl ?_)
  intro w1 hk1 hb1 hs1
  have HK1 : Kp _ := ⟨hk1⟩
  have hg1 := hk1.lt
  have HTB1 : Kp (TB w1 (fun j => M j ∨ j = w.heap.size) a t B m c d.bs) := ⟨TB.start HT.out HM.out HB.out hb1 (Nat.le_refl _) hg1⟩
  clear hk1 hs1 HT HM HB
  go_wp2_with (with_reducible refine wpList_box (o := ⟨some 3, _, _, _, _, _⟩) (cs := ddC d B m c) rfl (.tmp 1) rfl rfl ?_)
  intro w2 hk2 hb2 hs2
  have HD2 : Kp _ := ⟨hk2⟩
  have HK2 : Kp _ := ⟨HK1.out.below hb2 HK1.out.lt⟩
  have HTB2 : Kp _ := ⟨HTB1.out.below hb2⟩
  have hB2 : Below w.heap.size w w2 := hb1.trans (hb2.mono hb1.size)
  have h1 := HK1.out.lt
  clear hk2 hb2 hs2 HK1 HTB1
  go_wp2_with (with_reducible refine wpList_alloc (o := ⟨some 4, _, _, _, _, _⟩) tyT rfl rfl ?_)
  intro w3 hk3 hb3 hs3
  have HR : Kp _ := ⟨hk3⟩
  have HD : Kp _ := ⟨HD2.out.below hb3 HD2.out.lt⟩
  have HK : Kp _ := ⟨HK2.out.below hb3 HK2.out.lt⟩
  have hB : Below w.heap.size w w3 := hB2.trans (hb3.mono hB2.size)
  have h2 := HD2.out.lt
  have hRl := hk3.lt
  have hgt : w.heap.size < w2.heap.size := HK2.out.lt
  have HTB : Kp (TB w3 (fun j => (M j ∨ j = w.heap.size) ∨ j = w2.heap.size) a t B m c d.bs) := ⟨HTB2.out.add hb3 (Nat.le_refl _) hRl⟩
  have f0 : w3.cell? ⟨w1.heap.size, 0, none⟩ = some (.int .i64 d.kind) := HD.out.cell? 0
  have f3 : w3.cell? ⟨w1.heap.size, 3, none⟩ = some (.int .i64 d.num) := HD.out.cell? 3
  have e8 : w3.cell? ⟨w.heap.size, 8, none⟩ = some (.bool t.lost) := HK.out.cell? 8
  have e6 : w3.cell? ⟨w.heap.size, 6, none⟩ = some (.bool t.lim) := HK.out.cell? 6
  have e7 : w3.cell? ⟨w.heap.size, 7, none⟩ = some (.int .i64 (a.pw : Int)) := HK.out.cell? 7
  have e3 : w3.cell? ⟨w.heap.size, 3, none⟩ = some (.int .u64 (t.ctr : Int)) := HK.out.cell? 3
  have z3 := HK.out.frozen 3
  have z6 := HK.out.frozen 6
  have z7 := HK.out.frozen 7
  have z8 := HK.out.frozen 8
  obtain ⟨g4, hg4⟩ : ∃ g, g = w2.heap.size := ⟨_, rfl⟩
  rw [← hg4] at HR HTB h2 hgt hRl ⊢
  clear hk3 hb3 hs3 HD2 HK2 hB2 hg4 hb1 HTB2
  have n1 : (d.kind == 1) = false := by rw [beq_eq_false_iff_ne]; exact HKd.out 1 (by omega) (by omega)
  have n2 : (d.kind == 2) = false := by rw [beq_eq_false_iff_ne]; exact HKd.out 2 (by omega) (by omega)
  have n3 : (d.kind == 3) = false := by rw [beq_eq_false_iff_ne]; exact HKd.out 3 (by omega) (by omega)
  have n4 : (d.kind == 4) = false := by rw [beq_eq_false_iff_ne]; exact HKd.out 4 (by omega) (by omega)
  have n5 : (d.kind == 5) = false := by rw [beq_eq_false_iff_ne]; exact HKd.out 5 (by omega) (by omega)
  have n6 : (d.kind == 6) = false := by rw [beq_eq_false_iff_ne]; exact HKd.out 6 (by omega) (by omega)
  have n7 : (d.kind == 7) = false := by rw [beq_eq_false_iff_ne]; exact HKd.out 7 (by omega) (by omega)
  have n8 : (d.kind == 8) = false := by rw [beq_eq_false_iff_ne]; exact HKd.out 8 (by omega) (by omega)
  have n9 : (d.kind == 9) = false := by rw [beq_eq_false_iff_ne]; exact HKd.out 9 (by omega) (by omega)
  have ho : Only w.heap.size w3 w3 := Only.refl _ _
  have HKn : Kp (Blk w3 w.heap.size 42 (tvL a t)) := ⟨HK.out⟩
  have HRn : Kp (Blk w3 g4 42 zeroT') := ⟨HR.out.only ho (by omega)⟩
  have HTn : Kp (TB w3 (fun j => (M j ∨ j = w.heap.size) ∨ j = g4) a t B m c d.bs) := ⟨(HTB.out.only ho (.inl (.inr rfl))).map (fun M5 h => h)⟩
  have hBn := hB.trans (ho.below (Nat.le_refl _))
  have HLn : Kp _ := ⟨tvL_length a t⟩
  have HOn : Kp _ := ⟨tvL_one a t⟩
  clear HTB HK HR HD hB ho
  go_wp2_with (first
    | (with_reducible refine wpList_loadAll (o := ⟨some 118, _, _, _, _, _⟩) rwT rfl (.tmp 2) rfl rfl HKn.out HLn.out ?_)
    | (with_reducible refine wpList_storeAll (o := ⟨none, _, _, _, _, _⟩) (vs := tvL a t) rwT rfl (.tmp 4) (.tmp 118) rfl rfl HRn.out HZ.out HLn.out HOn.out rfl ?_))
  intro w8 hk8 ho8
  have HK8 : Kp _ := ⟨hk8⟩
  have HF2 : Kp _ := ⟨(HTn.out.only ho8 (.inr rfl)).fin (M := M) (fun j hj => .inl (.inl hj))⟩
  have hBf := hBn.trans (ho8.below (Nat.le_of_lt hgt))
  clear hk8 ho8 HTn
  go_wp2
  refine ret_arrC rfl rwT rfl rfl rfl HK8.out (tvL_length _ _) rfl ?_
  rw [HW.out.1, HW.out.2.1, HW.out.2.2]
  exact ⟨a, none, 0, 0, rfl, hBf, Nat.le_succ _, HF2.out.1, BsM.zero _ _⟩
set_option maxRecDepth 100000 in
set_option maxHeartbeats 4000000 in
theorem rstep7z (h : TvM w M a t) (hM : ∀ k, M k → k < w.heap.size) (d : Dd) (B : Option Addr) (m c : Nat) (hb : BsM w M B m c d.bs) (hk : d.kind = 7) (hl : t.lost = false) (hn : d.num = 0) :
    Calls Try.prog 24 #[.agg (tvL a t).toArray, .agg (ddC d B m c).toArray] w fun e w' => ∃ a' A n c', e = .returned (.tuple #[.agg (tvL a' (didW t d)).toArray, .slice A n c', .bool (didB t d)]) ∧ Below w.heap.size w w' ∧ a'.ln ≤ a.ln + 1 ∧ TvM w' M a' (didW t d) ∧ BsM w' M A n c' (didL t d) := by
  have HN : Kp (armN d.num = 0) := ⟨by unfold armN; omega⟩
  have HW : Kp (didW t d = { t with lim := true, left := armN d.num } ∧ didL t d = [] ∧ didB t d = false) := ⟨by
    obtain ⟨tn, tsl, ts0, ts1, tctr, tlim, tlost, tleft, treads, tlies, tnl, ttr⟩ := t
    simp only at hl
    subst hl
    unfold didW didL didB armW
    simp [hk]⟩
  have HKd : Kp _ := ⟨hk⟩
  have HNm : Kp (armN d.num ≤ 1000000) := ⟨by unfold armN; omega⟩
  clear hk
  have HZ : Kp (zeroT'.length = 10) := ⟨rfl⟩
  have HT : Kp _ := ⟨h⟩
  have HM : Kp _ := ⟨hM⟩
  have HB : Kp _ := ⟨hb⟩
  clear h hM hb
  go_enter Try.func24, Try.ntmps24
  go_wp2_with (with_reducible refine wpList_box (o := ⟨some 2, _, _, _, _, _⟩) (cs := tvL a t) rfl (.tmp 0) rfl rfl ?_)
  intro w1 hk1 hb1 hs1
  have HK1 : Kp _ := ⟨hk1⟩
  have hg1 := hk1.lt
  have HTB1 : Kp (TB w1 (fun j => M j ∨ j = w.heap.size) a t B m c d.bs) := ⟨TB.start HT.out HM.out HB.out hb1 (Nat.le_refl _) hg1⟩
  clear hk1 hs1 HT HM HB
  go_wp2_with (with_reducible refine wpList_box (o := ⟨some 3, _, _, _, _, _⟩) (cs := ddC d B m c) rfl (.tmp 1) rfl rfl ?_)
  intro w2 hk2 hb2 hs2
  have HD2 : Kp _ := ⟨hk2⟩
  have HK2 : Kp _ := ⟨HK1.out.below hb2 HK1.out.lt⟩
  have HTB2 : Kp _ := ⟨HTB1.out.below hb2⟩
  have hB2 : Below w.heap.size w w2 := hb1.trans (hb2.mono hb1.size)
  have h1 := HK1.out.lt
  clear hk2 hb2 hs2 HK1 HTB1
  go_wp2_with (with_reducible refine wpList_alloc (o := ⟨some 4, _, _, _, _, _⟩) tyT rfl rfl ?_)
  intro w3 hk3 hb3 hs3
  have HR : Kp _ := ⟨hk3⟩
  have HD : Kp _ := ⟨HD2.out.below hb3 HD2.out.lt⟩
  have HK : Kp _ := ⟨HK2.out.below hb3 HK2.out.lt⟩
  have hB : Below w.heap.size w w3 := hB2.trans (hb3.mono hB2.size)
  have h2 := HD2.out.lt
  have hRl := hk3.lt
  have hgt : w.heap.size < w2.heap.size := HK2.out.lt
  have HTB : Kp (TB w3 (fun j => (M j ∨ j = w.heap.size) ∨ j = w2.heap.size) a t B m c d.bs) := ⟨HTB2.out.add hb3 (Nat.le_refl _) hRl⟩
  have f0 : w3.cell? ⟨w1.heap.size, 0, none⟩ = some (.int .i64 d.kind) := HD.out.cell? 0
  rw [HKd.out] at f0
  have f3 : w3.cell? ⟨w1.heap.size, 3, none⟩ = some (.int .i64 d.num) := HD.out.cell? 3
  have e8 : w3.cell? ⟨w.heap.size, 8, none⟩ = some (.bool t.lost) := HK.out.cell? 8
  have e6 : w3.cell? ⟨w.heap.size, 6, none⟩ = some (.bool t.lim) := HK.out.cell? 6
  have e7 : w3.cell? ⟨w.heap.size, 7, none⟩ = some (.int .i64 (a.pw : Int)) := HK.out.cell? 7
  have e3 : w3.cell? ⟨w.heap.size, 3, none⟩ = some (.int .u64 (t.ctr : Int)) := HK.out.cell? 3
  have z3 := HK.out.frozen 3
  have z6 := HK.out.frozen 6
  have z7 := HK.out.frozen 7
  have z8 := HK.out.frozen 8
  obtain ⟨g4, hg4⟩ : ∃ g, g = w2.heap.size := ⟨_, rfl⟩
  rw [← hg4] at HR HTB h2 hgt hRl ⊢
  clear hk3 hb3 hs3 HD2 HK2 hB2 hg4 hb1 HTB2
  rw [hn] at f3
  have HNz : Kp _ := ⟨hn⟩
  clear hn
  rw [hl] at e8
  have HLs : Kp _ := ⟨hl⟩
  clear hl
  have ho : Only w.heap.size w3 ((w3.setCell ⟨w.heap.size, 6, none⟩ (.bool true)).setCell ⟨w.heap.size, 7, none⟩ (.int .i64 (0))) := ((Only.refl _ _).trans (Only.setCell w3 ⟨w.heap.size, 6, none⟩ (.bool true))).trans (Only.setCell (w3.setCell ⟨w.heap.size, 6, none⟩ (.bool true)) ⟨w.heap.size, 7, none⟩ (.int .i64 (0)))
  have HKn : Kp (Blk ((w3.setCell ⟨w.heap.size, 6, none⟩ (.bool true)).setCell ⟨w.heap.size, 7, none⟩ (.int .i64 (0))) w.heap.size 42 (tvL { a with pw := armN d.num } { t with lim := true, left := armN d.num })) := ⟨by
    have h9 := (HK.out.set 6 (.bool true)).set 7 (.int .i64 (0))
    have e9 : (((tvL a t).set 6 (.bool true)).set 7 (.int .i64 (0))) = tvL { a with pw := armN d.num } { t with lim := true, left := armN d.num } := by
      show ((tvL a t).set 6 (.bool true)).set 7 (.int .i64 (0)) = [.int .i64 (t.n : Int), .slice a.sA a.sn a.sc, .slice a.eA 2 a.ec, .int .u64 (t.ctr : Int), .slice a.lA a.ln a.lc, .int .i64 (t.reads : Int), .bool true, .int .i64 (armN d.num : Int), .bool t.lost, .slice a.tA a.tn a.tc]
      rw [HN.out]; rfl
    rwa [e9] at h9⟩
  have HRn : Kp (Blk ((w3.setCell ⟨w.heap.size, 6, none⟩ (.bool true)).setCell ⟨w.heap.size, 7, none⟩ (.int .i64 (0))) g4 42 zeroT') := ⟨HR.out.only ho (by omega)⟩
  have HTn : Kp (TB ((w3.setCell ⟨w.heap.size, 6, none⟩ (.bool true)).setCell ⟨w.heap.size, 7, none⟩ (.int .i64 (0))) (fun j => (M j ∨ j = w.heap.size) ∨ j = g4) { a with pw := armN d.num } { t with lim := true, left := armN d.num } B m c d.bs) := ⟨(HTB.out.only ho (.inl (.inr rfl))).map (fun M5 h => ⟨h.slots, h.seals, h.lies, h.trace, (fun _ => rfl), HNm.out, h.big, h.num⟩)⟩
  have hBn := hB.trans (ho.below (Nat.le_refl _))
  have HLn : Kp _ := ⟨tvL_length { a with pw := armN d.num } { t with lim := true, left := armN d.num }⟩
  have HOn : Kp _ := ⟨tvL_one { a with pw := armN d.num } { t with lim := true, left := armN d.num }⟩
  clear HTB HK HR HD hB ho
  go_wp2_with (first
    | (with_reducible refine wpList_loadAll (o := ⟨some 118, _, _, _, _, _⟩) rwT rfl (.tmp 2) rfl rfl HKn.out HLn.out ?_)
    | (with_reducible refine wpList_storeAll (o := ⟨none, _, _, _, _, _⟩) (vs := tvL { a with pw := armN d.num } { t with lim := true, left := armN d.num }) rwT rfl (.tmp 4) (.tmp 118) rfl rfl HRn.out HZ.out HLn.out HOn.out rfl ?_))
  intro w8 hk8 ho8
  have HK8 : Kp _ := ⟨hk8⟩
  have HF2 : Kp _ := ⟨(HTn.out.only ho8 (.inr rfl)).fin (M := M) (fun j hj => .inl (.inl hj))⟩
  have hBf := hBn.trans (ho8.below (Nat.le_of_lt hgt))
  clear hk8 ho8 HTn
  go_wp2
  refine ret_arrC rfl rwT rfl rfl rfl HK8.out (tvL_length _ _) rfl ?_
  rw [HW.out.1, HW.out.2.1, HW.out.2.2]
  exact ⟨{ a with pw := armN d.num }, none, 0, 0, rfl, hBf, Nat.le_succ _, HF2.out.1, BsM.zero _ _⟩
set_option maxRecDepth 100000 in
set_option maxHeartbeats 4000000 in
theorem rstep7a (h : TvM w M a t) (hM : ∀ k, M k → k < w.heap.size) (d : Dd) (B : Option Addr) (m c : Nat) (hb : BsM w M B m c d.bs) (hk : d.kind = 7) (hl : t.lost = false) (hn : d.num < 0) :
    Calls Try.prog 24 #[.agg (tvL a t).toArray, .agg (ddC d B m c).toArray] w fun e w' => ∃ a' A n c', e = .returned (.tuple #[.agg (tvL a' (didW t d)).toArray, .slice A n c', .bool (didB t d)]) ∧ Below w.heap.size w w' ∧ a'.ln ≤ a.ln + 1 ∧ TvM w' M a' (didW t d) ∧ BsM w' M A n c' (didL t d) := by
  have HN : Kp (armN d.num = 0) := ⟨by unfold armN; omega⟩
  have HW : Kp (didW t d = { t with lim := true, left := armN d.num } ∧ didL t d = [] ∧ didB t d = false) := ⟨by
    obtain ⟨tn, tsl, ts0, ts1, tctr, tlim, tlost, tleft, treads, tlies, tnl, ttr⟩ := t
    simp only at hl
    subst hl
    unfold didW didL didB armW
    simp [hk]⟩
  have HKd : Kp _ := ⟨hk⟩
  have HNm : Kp (armN d.num ≤ 1000000) := ⟨by unfold armN; omega⟩
  clear hk
  have HZ : Kp (zeroT'.length = 10) := ⟨rfl⟩
  have HT : Kp _ := ⟨h⟩
  have HM : Kp _ := ⟨hM⟩
  have HB : Kp _ := ⟨hb⟩
  clear h hM hb
  go_enter Try.func24, Try.ntmps24
  go_wp2_with (with_reducible refine wpList_box (o := ⟨some 2, _, _, _, _, _⟩) (cs := tvL a t) rfl (.tmp 0) rfl rfl ?_)
  intro w1 hk1 hb1 hs1
  have HK1 : Kp _ := ⟨hk1⟩
  have hg1 := hk1.lt
  have HTB1 : Kp (TB w1 (fun j => M j ∨ j = w.heap.size) a t B m c d.bs) := ⟨TB.start HT.out HM.out HB.out hb1 (Nat.le_refl _) hg1⟩
  clear hk1 hs1 HT HM HB
  go_wp2_with (with_reducible refine wpList_box (o := ⟨some 3, _, _, _, _, _⟩) (cs := ddC d B m c) rfl (.tmp 1) rfl rfl ?_)
  intro w2 hk2 hb2 hs2
  have HD2 : Kp _ := ⟨hk2⟩
  have HK2 : Kp _ := ⟨HK1.out.below hb2 HK1.out.lt⟩
  have HTB2 : Kp _ := ⟨HTB1.out.below hb2⟩
  have hB2 : Below w.heap.size w w2 := hb1.trans (hb2.mono hb1.size)
  have h1 := HK1.out.lt
  clear hk2 hb2 hs2 HK1 HTB1
  go_wp2_with (with_reducible refine wpList_alloc (o := ⟨some 4, _, _, _, _, _⟩) tyT rfl rfl ?_)
  intro w3 hk3 hb3 hs3
  have HR : Kp _ := ⟨hk3⟩
  have HD : Kp _ := ⟨HD2.out.below hb3 HD2.out.lt⟩
  have HK : Kp _ := ⟨HK2.out.below hb3 HK2.out.lt⟩
  have hB : Below w.heap.size w w3 := hB2.trans (hb3.mono hB2.size)
  have h2 := HD2.out.lt
  have hRl := hk3.lt
  have hgt : w.heap.size < w2.heap.size := HK2.out.lt
  have HTB : Kp (TB w3 (fun j => (M j ∨ j = w.heap.size) ∨ j = w2.heap.size) a t B m c d.bs) := ⟨HTB2.out.add hb3 (Nat.le_refl _) hRl⟩
  have f0 : w3.cell? ⟨w1.heap.size, 0, none⟩ = some (.int .i64 d.kind) := HD.out.cell? 0
  rw [HKd.out] at f0
  have f3 : w3.cell? ⟨w1.heap.size, 3, none⟩ = some (.int .i64 d.num) := HD.out.cell? 3
  have e8 : w3.cell? ⟨w.heap.size, 8, none⟩ = some (.bool t.lost) := HK.out.cell? 8
  have e6 : w3.cell? ⟨w.heap.size, 6, none⟩ = some (.bool t.lim) := HK.out.cell? 6
  have e7 : w3.cell? ⟨w.heap.size, 7, none⟩ = some (.int .i64 (a.pw : Int)) := HK.out.cell? 7
  have e3 : w3.cell? ⟨w.heap.size, 3, none⟩ = some (.int .u64 (t.ctr : Int)) := HK.out.cell? 3
  have z3 := HK.out.frozen 3
  have z6 := HK.out.frozen 6
  have z7 := HK.out.frozen 7
  have z8 := HK.out.frozen 8
  obtain ⟨g4, hg4⟩ : ∃ g, g = w2.heap.size := ⟨_, rfl⟩
  rw [← hg4] at HR HTB h2 hgt hRl ⊢
  clear hk3 hb3 hs3 HD2 HK2 hB2 hg4 hb1 HTB2
  rw [hl] at e8
  have HLs : Kp _ := ⟨hl⟩
  clear hl
  have ho : Only w.heap.size w3 ((w3.setCell ⟨w.heap.size, 6, none⟩ (.bool true)).setCell ⟨w.heap.size, 7, none⟩ (.int .i64 (0))) := ((Only.refl _ _).trans (Only.setCell w3 ⟨w.heap.size, 6, none⟩ (.bool true))).trans (Only.setCell (w3.setCell ⟨w.heap.size, 6, none⟩ (.bool true)) ⟨w.heap.size, 7, none⟩ (.int .i64 (0)))
  have HKn : Kp (Blk ((w3.setCell ⟨w.heap.size, 6, none⟩ (.bool true)).setCell ⟨w.heap.size, 7, none⟩ (.int .i64 (0))) w.heap.size 42 (tvL { a with pw := armN d.num } { t with lim := true, left := armN d.num })) := ⟨by
    have h9 := (HK.out.set 6 (.bool true)).set 7 (.int .i64 (0))
    have e9 : (((tvL a t).set 6 (.bool true)).set 7 (.int .i64 (0))) = tvL { a with pw := armN d.num } { t with lim := true, left := armN d.num } := by
      show ((tvL a t).set 6 (.bool true)).set 7 (.int .i64 (0)) = [.int .i64 (t.n : Int), .slice a.sA a.sn a.sc, .slice a.eA 2 a.ec, .int .u64 (t.ctr : Int), .slice a.lA a.ln a.lc, .int .i64 (t.reads : Int), .bool true, .int .i64 (armN d.num : Int), .bool t.lost, .slice a.tA a.tn a.tc]
      rw [HN.out]; rfl
    rwa [e9] at h9⟩
  have HRn : Kp (Blk ((w3.setCell ⟨w.heap.size, 6, none⟩ (.bool true)).setCell ⟨w.heap.size, 7, none⟩ (.int .i64 (0))) g4 42 zeroT') := ⟨HR.out.only ho (by omega)⟩
  have HTn : Kp (TB ((w3.setCell ⟨w.heap.size, 6, none⟩ (.bool true)).setCell ⟨w.heap.size, 7, none⟩ (.int .i64 (0))) (fun j => (M j ∨ j = w.heap.size) ∨ j = g4) { a with pw := armN d.num } { t with lim := true, left := armN d.num } B m c d.bs) := ⟨(HTB.out.only ho (.inl (.inr rfl))).map (fun M5 h => ⟨h.slots, h.seals, h.lies, h.trace, (fun _ => rfl), HNm.out, h.big, h.num⟩)⟩
  have hBn := hB.trans (ho.below (Nat.le_refl _))
  have HLn : Kp _ := ⟨tvL_length { a with pw := armN d.num } { t with lim := true, left := armN d.num }⟩
  have HOn : Kp _ := ⟨tvL_one { a with pw := armN d.num } { t with lim := true, left := armN d.num }⟩
  clear HTB HK HR HD hB ho
  go_wp2_with (first
    | (with_reducible refine wpList_loadAll (o := ⟨some 118, _, _, _, _, _⟩) rwT rfl (.tmp 2) rfl rfl HKn.out HLn.out ?_)
    | (with_reducible refine wpList_storeAll (o := ⟨none, _, _, _, _, _⟩) (vs := tvL { a with pw := armN d.num } { t with lim := true, left := armN d.num }) rwT rfl (.tmp 4) (.tmp 118) rfl rfl HRn.out HZ.out HLn.out HOn.out rfl ?_))
  intro w8 hk8 ho8
  have HK8 : Kp _ := ⟨hk8⟩
  have HF2 : Kp _ := ⟨(HTn.out.only ho8 (.inr rfl)).fin (M := M) (fun j hj => .inl (.inl hj))⟩
  have hBf := hBn.trans (ho8.below (Nat.le_of_lt hgt))
  clear hk8 ho8 HTn
  go_wp2
  refine ret_arrC rfl rwT rfl rfl rfl HK8.out (tvL_length _ _) rfl ?_
  rw [HW.out.1, HW.out.2.1, HW.out.2.2]
  exact ⟨{ a with pw := armN d.num }, none, 0, 0, rfl, hBf, Nat.le_succ _, HF2.out.1, BsM.zero _ _⟩
set_option maxRecDepth 100000 in
set_option maxHeartbeats 4000000 in
theorem rstep7b (h : TvM w M a t) (hM : ∀ k, M k → k < w.heap.size) (d : Dd) (B : Option Addr) (m c : Nat) (hb : BsM w M B m c d.bs) (hk : d.kind = 7) (hl : t.lost = false) (hn : 0 < d.num) (hn2 : d.num ≤ 1000000) :
    Calls Try.prog 24 #[.agg (tvL a t).toArray, .agg (ddC d B m c).toArray] w fun e w' => ∃ a' A n c', e = .returned (.tuple #[.agg (tvL a' (didW t d)).toArray, .slice A n c', .bool (didB t d)]) ∧ Below w.heap.size w w' ∧ a'.ln ≤ a.ln + 1 ∧ TvM w' M a' (didW t d) ∧ BsM w' M A n c' (didL t d) := by
  have HN : Kp ((armN d.num : Int) = d.num) := ⟨by unfold armN; omega⟩
  have HW : Kp (didW t d = { t with lim := true, left := armN d.num } ∧ didL t d = [] ∧ didB t d = false) := ⟨by
    obtain ⟨tn, tsl, ts0, ts1, tctr, tlim, tlost, tleft, treads, tlies, tnl, ttr⟩ := t
    simp only at hl
    subst hl
    unfold didW didL didB armW
    simp [hk]⟩
  have HKd : Kp _ := ⟨hk⟩
  have HNm : Kp (armN d.num ≤ 1000000) := ⟨by unfold armN; omega⟩
  clear hk
  have HZ : Kp (zeroT'.length = 10) := ⟨rfl⟩
  have HT : Kp _ := ⟨h⟩
  have HM : Kp _ := ⟨hM⟩
  have HB : Kp _ := ⟨hb⟩
  clear h hM hb
  go_enter Try.func24, Try.ntmps24
  go_wp2_with (with_reducible refine wpList_box (o := ⟨some 2, _, _, _, _, _⟩) (cs := tvL a t) rfl (.tmp 0) rfl rfl ?_)
  intro w1 hk1 hb1 hs1
  have HK1 : Kp _ := ⟨hk1⟩
  have hg1 := hk1.lt
  have HTB1 : Kp (TB w1 (fun j => M j ∨ j = w.heap.size) a t B m c d.bs) := ⟨TB.start HT.out HM.out HB.out hb1 (Nat.le_refl _) hg1⟩
  clear hk1 hs1 HT HM HB
  go_wp2_with (with_reducible refine wpList_box (o := ⟨some 3, _, _, _, _, _⟩) (cs := ddC d B m c) rfl (.tmp 1) rfl rfl ?_)
  intro w2 hk2 hb2 hs2
  have HD2 : Kp _ := ⟨hk2⟩
  have HK2 : Kp _ := ⟨HK1.out.below hb2 HK1.out.lt⟩
  have HTB2 : Kp _ := ⟨HTB1.out.below hb2⟩
  have hB2 : Below w.heap.size w w2 := hb1.trans (hb2.mono hb1.size)
  have h1 := HK1.out.lt
  clear hk2 hb2 hs2 HK1 HTB1
  go_wp2_with (with_reducible refine wpList_alloc (o := ⟨some 4, _, _, _, _, _⟩) tyT rfl rfl ?_)
  intro w3 hk3 hb3 hs3
  have HR : Kp _ := ⟨hk3⟩
  have HD : Kp _ := ⟨HD2.out.below hb3 HD2.out.lt⟩
  have HK : Kp _ := ⟨HK2.out.below hb3 HK2.out.lt⟩
  have hB : Below w.heap.size w w3 := hB2.trans (hb3.mono hB2.size)
  have h2 := HD2.out.lt
  have hRl := hk3.lt
  have hgt : w.heap.size < w2.heap.size := HK2.out.lt
  have HTB : Kp (TB w3 (fun j => (M j ∨ j = w.heap.size) ∨ j = w2.heap.size) a t B m c d.bs) := ⟨HTB2.out.add hb3 (Nat.le_refl _) hRl⟩
  have f0 : w3.cell? ⟨w1.heap.size, 0, none⟩ = some (.int .i64 d.kind) := HD.out.cell? 0
  rw [HKd.out] at f0
  have f3 : w3.cell? ⟨w1.heap.size, 3, none⟩ = some (.int .i64 d.num) := HD.out.cell? 3
  have e8 : w3.cell? ⟨w.heap.size, 8, none⟩ = some (.bool t.lost) := HK.out.cell? 8
  have e6 : w3.cell? ⟨w.heap.size, 6, none⟩ = some (.bool t.lim) := HK.out.cell? 6
  have e7 : w3.cell? ⟨w.heap.size, 7, none⟩ = some (.int .i64 (a.pw : Int)) := HK.out.cell? 7
  have e3 : w3.cell? ⟨w.heap.size, 3, none⟩ = some (.int .u64 (t.ctr : Int)) := HK.out.cell? 3
  have z3 := HK.out.frozen 3
  have z6 := HK.out.frozen 6
  have z7 := HK.out.frozen 7
  have z8 := HK.out.frozen 8
  obtain ⟨g4, hg4⟩ : ∃ g, g = w2.heap.size := ⟨_, rfl⟩
  rw [← hg4] at HR HTB h2 hgt hRl ⊢
  clear hk3 hb3 hs3 HD2 HK2 hB2 hg4 hb1 HTB2
  rw [hl] at e8
  have HLs : Kp _ := ⟨hl⟩
  clear hl
  have ho : Only w.heap.size w3 ((w3.setCell ⟨w.heap.size, 6, none⟩ (.bool true)).setCell ⟨w.heap.size, 7, none⟩ (.int .i64 (d.num))) := ((Only.refl _ _).trans (Only.setCell w3 ⟨w.heap.size, 6, none⟩ (.bool true))).trans (Only.setCell (w3.setCell ⟨w.heap.size, 6, none⟩ (.bool true)) ⟨w.heap.size, 7, none⟩ (.int .i64 (d.num)))
  have HKn : Kp (Blk ((w3.setCell ⟨w.heap.size, 6, none⟩ (.bool true)).setCell ⟨w.heap.size, 7, none⟩ (.int .i64 (d.num))) w.heap.size 42 (tvL { a with pw := armN d.num } { t with lim := true, left := armN d.num })) := ⟨by
    have h9 := (HK.out.set 6 (.bool true)).set 7 (.int .i64 (d.num))
    have e9 : (((tvL a t).set 6 (.bool true)).set 7 (.int .i64 (d.num))) = tvL { a with pw := armN d.num } { t with lim := true, left := armN d.num } := by
      show ((tvL a t).set 6 (.bool true)).set 7 (.int .i64 (d.num)) = [.int .i64 (t.n : Int), .slice a.sA a.sn a.sc, .slice a.eA 2 a.ec, .int .u64 (t.ctr : Int), .slice a.lA a.ln a.lc, .int .i64 (t.reads : Int), .bool true, .int .i64 (armN d.num : Int), .bool t.lost, .slice a.tA a.tn a.tc]
      rw [HN.out]; rfl
    rwa [e9] at h9⟩
  have HRn : Kp (Blk ((w3.setCell ⟨w.heap.size, 6, none⟩ (.bool true)).setCell ⟨w.heap.size, 7, none⟩ (.int .i64 (d.num))) g4 42 zeroT') := ⟨HR.out.only ho (by omega)⟩
  have HTn : Kp (TB ((w3.setCell ⟨w.heap.size, 6, none⟩ (.bool true)).setCell ⟨w.heap.size, 7, none⟩ (.int .i64 (d.num))) (fun j => (M j ∨ j = w.heap.size) ∨ j = g4) { a with pw := armN d.num } { t with lim := true, left := armN d.num } B m c d.bs) := ⟨(HTB.out.only ho (.inl (.inr rfl))).map (fun M5 h => ⟨h.slots, h.seals, h.lies, h.trace, (fun _ => rfl), HNm.out, h.big, h.num⟩)⟩
  have hBn := hB.trans (ho.below (Nat.le_refl _))
  have HLn : Kp _ := ⟨tvL_length { a with pw := armN d.num } { t with lim := true, left := armN d.num }⟩
  have HOn : Kp _ := ⟨tvL_one { a with pw := armN d.num } { t with lim := true, left := armN d.num }⟩
  clear HTB HK HR HD hB ho
  go_wp2_with (first
    | (with_reducible refine wpList_loadAll (o := ⟨some 118, _, _, _, _, _⟩) rwT rfl (.tmp 2) rfl rfl HKn.out HLn.out ?_)
    | (with_reducible refine wpList_storeAll (o := ⟨none, _, _, _, _, _⟩) (vs := tvL { a with pw := armN d.num } { t with lim := true, left := armN d.num }) rwT rfl (.tmp 4) (.tmp 118) rfl rfl HRn.out HZ.out HLn.out HOn.out rfl ?_))
  intro w8 hk8 ho8
  have HK8 : Kp _ := ⟨hk8⟩
  have HF2 : Kp _ := ⟨(HTn.out.only ho8 (.inr rfl)).fin (M := M) (fun j hj => .inl (.inl hj))⟩
  have hBf := hBn.trans (ho8.below (Nat.le_of_lt hgt))
  clear hk8 ho8 HTn
  go_wp2
  refine ret_arrC rfl rwT rfl rfl rfl HK8.out (tvL_length _ _) rfl ?_
  rw [HW.out.1, HW.out.2.1, HW.out.2.2]
  exact ⟨{ a with pw := armN d.num }, none, 0, 0, rfl, hBf, Nat.le_succ _, HF2.out.1, BsM.zero _ _⟩
set_option maxRecDepth 100000 in
set_option maxHeartbeats 4000000 in
theorem rstep7c (h : TvM w M a t) (hM : ∀ k, M k → k < w.heap.size) (d : Dd) (B : Option Addr) (m c : Nat) (hb : BsM w M B m c d.bs) (hk : d.kind = 7) (hl : t.lost = false) (hn : 1000000 < d.num) :
    Calls Try.prog 24 #[.agg (tvL a t).toArray, .agg (ddC d B m c).toArray] w fun e w' => ∃ a' A n c', e = .returned (.tuple #[.agg (tvL a' (didW t d)).toArray, .slice A n c', .bool (didB t d)]) ∧ Below w.heap.size w w' ∧ a'.ln ≤ a.ln + 1 ∧ TvM w' M a' (didW t d) ∧ BsM w' M A n c' (didL t d) := by
  have HN : Kp (armN d.num = 1000000) := ⟨by unfold armN; omega⟩
  have HW : Kp (didW t d = { t with lim := true, left := armN d.num } ∧ didL t d = [] ∧ didB t d = false) := ⟨by
    obtain ⟨tn, tsl, ts0, ts1, tctr, tlim, tlost, tleft, treads, tlies, tnl, ttr⟩ := t
    simp only at hl
    subst hl
    unfold didW didL didB armW
    simp [hk]⟩
  have HKd : Kp _ := ⟨hk⟩
  have HNm : Kp (armN d.num ≤ 1000000) := ⟨by unfold armN; omega⟩
  clear hk
  have HZ : Kp (zeroT'.length = 10) := ⟨rfl⟩
  have HT : Kp _ := ⟨h⟩
  have HM : Kp _ := ⟨hM⟩
  have HB : Kp _ := ⟨hb⟩
  clear h hM hb
  go_enter Try.func24, Try.ntmps24
  go_wp2_with (with_reducible refine wpList_box (o := ⟨some 2, _, _, _, _, _⟩) (cs := tvL a t) rfl (.tmp 0) rfl rfl ?_)
  intro w1 hk1 hb1 hs1
  have HK1 : Kp _ := ⟨hk1⟩
  have hg1 := hk1.lt
  have HTB1 : Kp (TB w1 (fun j => M j ∨ j = w.heap.size) a t B m c d.bs) := ⟨TB.start HT.out HM.out HB.out hb1 (Nat.le_refl _) hg1⟩
  clear hk1 hs1 HT HM HB
  go_wp2_with (with_reducible refine wpList_box (o := ⟨some 3, _, _, _, _, _⟩) (cs := ddC d B m c) rfl (.tmp 1) rfl rfl ?_)
  intro w2 hk2 hb2 hs2
  have HD2 : Kp _ := ⟨hk2⟩
  have HK2 : Kp _ := ⟨HK1.out.below hb2 HK1.out.lt⟩
  have HTB2 : Kp _ := ⟨HTB1.out.below hb2⟩
  have hB2 : Below w.heap.size w w2 := hb1.trans (hb2.mono hb1.size)
  have h1 := HK1.out.lt
  clear hk2 hb2 hs2 HK1 HTB1
  go_wp2_with (with_reducible refine wpList_alloc (o := ⟨some 4, _, _, _, _, _⟩) tyT rfl rfl ?_)
  intro w3 hk3 hb3 hs3
  have HR : Kp _ := ⟨hk3⟩
  have HD : Kp _ := ⟨HD2.out.below hb3 HD2.out.lt⟩
  have HK : Kp _ := ⟨HK2.out.below hb3 HK2.out.lt⟩
  have hB : Below w.heap.size w w3 := hB2.trans (hb3.mono hB2.size)
  have h2 := HD2.out.lt
  have hRl := hk3.lt
  have hgt : w.heap.size < w2.heap.size := HK2.out.lt
  have HTB : Kp (TB w3 (fun j => (M j ∨ j = w.heap.size) ∨ j = w2.heap.size) a t B m c d.bs) := ⟨HTB2.out.add hb3 (Nat.le_refl _) hRl⟩
  have f0 : w3.cell? ⟨w1.heap.size, 0, none⟩ = some (.int .i64 d.kind) := HD.out.cell? 0
  rw [HKd.out] at f0
  have f3 : w3.cell? ⟨w1.heap.size, 3, none⟩ = some (.int .i64 d.num) := HD.out.cell? 3
  have e8 : w3.cell? ⟨w.heap.size, 8, none⟩ = some (.bool t.lost) := HK.out.cell? 8
  have e6 : w3.cell? ⟨w.heap.size, 6, none⟩ = some (.bool t.lim) := HK.out.cell? 6
  have e7 : w3.cell? ⟨w.heap.size, 7, none⟩ = some (.int .i64 (a.pw : Int)) := HK.out.cell? 7
  have e3 : w3.cell? ⟨w.heap.size, 3, none⟩ = some (.int .u64 (t.ctr : Int)) := HK.out.cell? 3
  have z3 := HK.out.frozen 3
  have z6 := HK.out.frozen 6
  have z7 := HK.out.frozen 7
  have z8 := HK.out.frozen 8
  obtain ⟨g4, hg4⟩ : ∃ g, g = w2.heap.size := ⟨_, rfl⟩
  rw [← hg4] at HR HTB h2 hgt hRl ⊢
  clear hk3 hb3 hs3 HD2 HK2 hB2 hg4 hb1 HTB2
  rw [hl] at e8
  have HLs : Kp _ := ⟨hl⟩
  clear hl
  have ho : Only w.heap.size w3 ((w3.setCell ⟨w.heap.size, 6, none⟩ (.bool true)).setCell ⟨w.heap.size, 7, none⟩ (.int .i64 (1000000))) := ((Only.refl _ _).trans (Only.setCell w3 ⟨w.heap.size, 6, none⟩ (.bool true))).trans (Only.setCell (w3.setCell ⟨w.heap.size, 6, none⟩ (.bool true)) ⟨w.heap.size, 7, none⟩ (.int .i64 (1000000)))
  have HKn : Kp (Blk ((w3.setCell ⟨w.heap.size, 6, none⟩ (.bool true)).setCell ⟨w.heap.size, 7, none⟩ (.int .i64 (1000000))) w.heap.size 42 (tvL { a with pw := armN d.num } { t with lim := true, left := armN d.num })) := ⟨by
    have h9 := (HK.out.set 6 (.bool true)).set 7 (.int .i64 (1000000))
    have e9 : (((tvL a t).set 6 (.bool true)).set 7 (.int .i64 (1000000))) = tvL { a with pw := armN d.num } { t with lim := true, left := armN d.num } := by
      show ((tvL a t).set 6 (.bool true)).set 7 (.int .i64 (1000000)) = [.int .i64 (t.n : Int), .slice a.sA a.sn a.sc, .slice a.eA 2 a.ec, .int .u64 (t.ctr : Int), .slice a.lA a.ln a.lc, .int .i64 (t.reads : Int), .bool true, .int .i64 (armN d.num : Int), .bool t.lost, .slice a.tA a.tn a.tc]
      rw [HN.out]; rfl
    rwa [e9] at h9⟩
  have HRn : Kp (Blk ((w3.setCell ⟨w.heap.size, 6, none⟩ (.bool true)).setCell ⟨w.heap.size, 7, none⟩ (.int .i64 (1000000))) g4 42 zeroT') := ⟨HR.out.only ho (by omega)⟩
  have HTn : Kp (TB ((w3.setCell ⟨w.heap.size, 6, none⟩ (.bool true)).setCell ⟨w.heap.size, 7, none⟩ (.int .i64 (1000000))) (fun j => (M j ∨ j = w.heap.size) ∨ j = g4) { a with pw := armN d.num } { t with lim := true, left := armN d.num } B m c d.bs) := ⟨(HTB.out.only ho (.inl (.inr rfl))).map (fun M5 h => ⟨h.slots, h.seals, h.lies, h.trace, (fun _ => rfl), HNm.out, h.big, h.num⟩)⟩
  have hBn := hB.trans (ho.below (Nat.le_refl _))
  have HLn : Kp _ := ⟨tvL_length { a with pw := armN d.num } { t with lim := true, left := armN d.num }⟩
  have HOn : Kp _ := ⟨tvL_one { a with pw := armN d.num } { t with lim := true, left := armN d.num }⟩
  clear HTB HK HR HD hB ho
  go_wp2_with (first
    | (with_reducible refine wpList_loadAll (o := ⟨some 118, _, _, _, _, _⟩) rwT rfl (.tmp 2) rfl rfl HKn.out HLn.out ?_)
    | (with_reducible refine wpList_storeAll (o := ⟨none, _, _, _, _, _⟩) (vs := tvL { a with pw := armN d.num } { t with lim := true, left := armN d.num }) rwT rfl (.tmp 4) (.tmp 118) rfl rfl HRn.out HZ.out HLn.out HOn.out rfl ?_))
  intro w8 hk8 ho8
  have HK8 : Kp _ := ⟨hk8⟩
  have HF2 : Kp _ := ⟨(HTn.out.only ho8 (.inr rfl)).fin (M := M) (fun j hj => .inl (.inl hj))⟩
  have hBf := hBn.trans (ho8.below (Nat.le_of_lt hgt))
  clear hk8 ho8 HTn
  go_wp2
  refine ret_arrC rfl rwT rfl rfl rfl HK8.out (tvL_length _ _) rfl ?_
  rw [HW.out.1, HW.out.2.1, HW.out.2.2]
  exact ⟨{ a with pw := armN d.num }, none, 0, 0, rfl, hBf, Nat.le_succ _, HF2.out.1, BsM.zero _ _⟩
set_option maxRecDepth 100000 in
set_option maxHeartbeats 4000000 in
theorem rstep7d (h : TvM w M a t) (hM : ∀ k, M k → k < w.heap.size) (d : Dd) (B : Option Addr) (m c : Nat) (hb : BsM w M B m c d.bs) (hk : d.kind = 7) (hl : t.lost = true) :
    Calls Try.prog 24 #[.agg (tvL a t).toArray, .agg (ddC d B m c).toArray] w fun e w' => ∃ a' A n c', e = .returned (.tuple #[.agg (tvL a' (didW t d)).toArray, .slice A n c', .bool (didB t d)]) ∧ Below w.heap.size w w' ∧ a'.ln ≤ a.ln + 1 ∧ TvM w' M a' (didW t d) ∧ BsM w' M A n c' (didL t d) := by
  have HW : Kp (didW t d = t ∧ didL t d = [] ∧ didB t d = false) := ⟨by unfold didW didL didB armW; simp [hk, hl]⟩
  have HKd : Kp _ := ⟨hk⟩
  clear hk
  have HZ : Kp (zeroT'.length = 10) := ⟨rfl⟩
  have HT : Kp _ := ⟨h⟩
  have HM : Kp _ := ⟨hM⟩
  have HB : Kp _ := ⟨hb⟩
  clear h hM hb
  go_enter Try.func24, Try.ntmps24
  go_wp2_with (with_reducible refine wpList_box (o := ⟨some 2, _, _, _, _, _⟩) (cs := tvL a t) rfl (.tmp 0) rfl rfl ?_)
  intro w1 hk1 hb1 hs1
  have HK1 : Kp _ := ⟨hk1⟩
  have hg1 := hk1.lt
  have HTB1 : Kp (TB w1 (fun j => M j ∨ j = w.heap.size) a t B m c d.bs) := ⟨TB.start HT.out HM.out HB.out hb1 (Nat.le_refl _) hg1⟩
  clear hk1 hs1 HT HM HB
  go_wp2_with (with_reducible refine wpList_box (o := ⟨some 3, _, _, _, _, _⟩) (cs := ddC d B m c) rfl (.tmp 1) rfl rfl ?_)
  intro w2 hk2 hb2 hs2
  have HD2 : Kp _ := ⟨hk2⟩
  have HK2 : Kp _ := ⟨HK1.out.below hb2 HK1.out.lt⟩
  have HTB2 : Kp _ := ⟨HTB1.out.below hb2⟩
  have hB2 : Below w.heap.size w w2 := hb1.trans (hb2.mono hb1.size)
  have h1 := HK1.out.lt
  clear hk2 hb2 hs2 HK1 HTB1
  go_wp2_with (with_reducible refine wpList_alloc (o := ⟨some 4, _, _, _, _, _⟩) tyT rfl rfl ?_)
  intro w3 hk3 hb3 hs3
  have HR : Kp _ := ⟨hk3⟩
  have HD : Kp _ := ⟨HD2.out.below hb3 HD2.out.lt⟩
  have HK : Kp _ := ⟨HK2.out.below hb3 HK2.out.lt⟩
  have hB : Below w.heap.size w w3 := hB2.trans (hb3.mono hB2.size)
  have h2 := HD2.out.lt
  have hRl := hk3.lt
  have hgt : w.heap.size < w2.heap.size := HK2.out.lt
  have HTB : Kp (TB w3 (fun j => (M j ∨ j = w.heap.size) ∨ j = w2.heap.size) a t B m c d.bs) := ⟨HTB2.out.add hb3 (Nat.le_refl _) hRl⟩
  have f0 : w3.cell? ⟨w1.heap.size, 0, none⟩ = some (.int .i64 d.kind) := HD.out.cell? 0
  rw [HKd.out] at f0
  have f3 : w3.cell? ⟨w1.heap.size, 3, none⟩ = some (.int .i64 d.num) := HD.out.cell? 3
  have e8 : w3.cell? ⟨w.heap.size, 8, none⟩ = some (.bool t.lost) := HK.out.cell? 8
  have e6 : w3.cell? ⟨w.heap.size, 6, none⟩ = some (.bool t.lim) := HK.out.cell? 6
  have e7 : w3.cell? ⟨w.heap.size, 7, none⟩ = some (.int .i64 (a.pw : Int)) := HK.out.cell? 7
  have e3 : w3.cell? ⟨w.heap.size, 3, none⟩ = some (.int .u64 (t.ctr : Int)) := HK.out.cell? 3
  have z3 := HK.out.frozen 3
  have z6 := HK.out.frozen 6
  have z7 := HK.out.frozen 7
  have z8 := HK.out.frozen 8
  obtain ⟨g4, hg4⟩ : ∃ g, g = w2.heap.size := ⟨_, rfl⟩
  rw [← hg4] at HR HTB h2 hgt hRl ⊢
  clear hk3 hb3 hs3 HD2 HK2 hB2 hg4 hb1 HTB2
  rw [hl] at e8
  have HLs : Kp _ := ⟨hl⟩
  clear hl
  have ho : Only w.heap.size w3 w3 := Only.refl _ _
  have HKn : Kp (Blk w3 w.heap.size 42 (tvL a t)) := ⟨HK.out⟩
  have HRn : Kp (Blk w3 g4 42 zeroT') := ⟨HR.out.only ho (by omega)⟩
  have HTn : Kp (TB w3 (fun j => (M j ∨ j = w.heap.size) ∨ j = g4) a t B m c d.bs) := ⟨(HTB.out.only ho (.inl (.inr rfl))).map (fun M5 h => h)⟩
  have hBn := hB.trans (ho.below (Nat.le_refl _))
  have HLn : Kp _ := ⟨tvL_length a t⟩
  have HOn : Kp _ := ⟨tvL_one a t⟩
  clear HTB HK HR HD hB ho
  go_wp2_with (first
    | (with_reducible refine wpList_loadAll (o := ⟨some 118, _, _, _, _, _⟩) rwT rfl (.tmp 2) rfl rfl HKn.out HLn.out ?_)
    | (with_reducible refine wpList_storeAll (o := ⟨none, _, _, _, _, _⟩) (vs := tvL a t) rwT rfl (.tmp 4) (.tmp 118) rfl rfl HRn.out HZ.out HLn.out HOn.out rfl ?_))
  intro w8 hk8 ho8
  have HK8 : Kp _ := ⟨hk8⟩
  have HF2 : Kp _ := ⟨(HTn.out.only ho8 (.inr rfl)).fin (M := M) (fun j hj => .inl (.inl hj))⟩
  have hBf := hBn.trans (ho8.below (Nat.le_of_lt hgt))
  clear hk8 ho8 HTn
  go_wp2
  refine ret_arrC rfl rwT rfl rfl rfl HK8.out (tvL_length _ _) rfl ?_
  rw [HW.out.1, HW.out.2.1, HW.out.2.2]
  exact ⟨a, none, 0, 0, rfl, hBf, Nat.le_succ _, HF2.out.1, BsM.zero _ _⟩
end
end Go.Proofs.Ytpbpegoobgfjcaa

namespace Go.Proofs.Ytpbpegoobgfjcaa
open Go.RowKit

theorem infoLie : ((Try.prog).info? 98).map (fun i => (i.zero, i.size, i.bytes)) = some (some (.agg #[.int .i64 0, .slice none 0 0]), 2, 32) := by kernel_rfl
theorem LiT.chg {S M M' : Nat → Prop} {w w' : World} {A : Option Addr} {n c : Nat} {hs : List Hd2} {L : List (Int × List UInt8)} {r : Nat} {lies : Int → Option (List UInt8)} (h : LiT w M A n c hs L r lies) (hc : Chg S w w') (hS : ∀ k, S k → M k) (hM : ∀ k, M' k → M k ∨ w.heap.size ≤ k) : LiT w' M' A n c hs L r lies :=
  ⟨h.row.chg hc hS hM, h.lie.chg hc hS hM, h.last⟩
theorem LieL.snoc {w : World} {M : Nat → Prop} {hs : List Hd2} {L : List (Int × List UInt8)} (h : LieL w M hs L) (z : Int) (A : Option Addr) (n c : Nat) (bs : List UInt8) (hx : BsM w M A n c bs) : LieL w M (hs ++ [(z, A, n, c)]) (L ++ [(z, bs)]) := by
  have hl := h.len
  refine ⟨by simp [hl], fun j hj => ?_⟩
  by_cases h1 : j < hs.length
  · have h2 := h.each j h1
    rw [List.getElem_append_left h1, List.getElem_append_left (by omega)]
    exact h2
  · obtain rfl : j = hs.length := by simp at hj; omega
    rw [List.getElem_append_right (by omega), List.getElem_append_right (by omega)]
    simp [hl]
    exact hx
theorem TvM.newLie {W : World} {M : Nat → Prop} {a : Ta} {t : Wd} (h : TvM W M a t) (hs : List Hd2) (L : List (Int × List UInt8)) (hL : LiT W M a.lA a.ln a.lc hs L t.reads t.lies) (z : Int) (B : Option Addr) (m c : Nat) (bs : List UInt8) (hx : BsM W M B m c bs) (A6 : Option Addr) (c6 : Nat)
    (hrow : RwM W M A6 (a.ln + 1) c6 2 (hdCells (hs ++ [(z, B, m, c)]))) : TvM W M { a with lA := A6, ln := a.ln + 1, lc := c6 } (lieW t z bs) := by
  unfold lieW
  by_cases hz : z < (t.reads : Int)
  · rw [if_pos hz]
    refine ⟨h.slots, h.seals, ⟨hs ++ [(z, B, m, c)], L ++ [(z, bs)], hrow, hL.lie.snoc z B m c bs hx, fun y hy => ?_⟩, h.trace, h.pow, h.pmax, h.big, h.num⟩
    rw [lastLie_snoc, if_neg (by show ¬ z = y; omega)]
    exact hL.last y hy
  · rw [if_neg hz]
    refine ⟨h.slots, h.seals, ⟨hs ++ [(z, B, m, c)], L ++ [(z, bs)], hrow, hL.lie.snoc z B m c bs hx, fun y hy => ?_⟩, h.trace, h.pow, h.pmax, h.big, h.num⟩
    rw [lastLie_snoc]
    show _ = if y = z then some bs else t.lies y
    by_cases hyz : y = z
    · rw [if_pos hyz, if_pos hyz.symm]
    · rw [if_neg hyz, if_neg (fun e => hyz e.symm)]
      exact hL.last y hy
section
variable {M : Nat → Prop} {w : World} {a : Ta} {t : Wd}
set_option maxRecDepth 100000 in
set_option maxHeartbeats 4000000 in
theorem rstep6 (h : TvM w M a t) (hM : ∀ k, M k → k < w.heap.size) (d : Dd) (B : Option Addr) (m c : Nat) (hb : BsM w M B m c d.bs) (hk : d.kind = 6) (hln : a.ln ≤ 1000000) :
    Calls Try.prog 24 #[.agg (tvL a t).toArray, .agg (ddC d B m c).toArray] w fun e w' => ∃ a' A n c', e = .returned (.tuple #[.agg (tvL a' (didW t d)).toArray, .slice A n c', .bool (didB t d)]) ∧ Below w.heap.size w w' ∧ a'.ln ≤ a.ln + 1 ∧ TvM w' M a' (didW t d) ∧ BsM w' M A n c' (didL t d) := by
  have HW : Kp (didW t d = lieW t d.num d.bs ∧ didL t d = [] ∧ didB t d = false) := ⟨by unfold didW didL didB; simp [hk]⟩
  have HKd : Kp _ := ⟨hk⟩
  clear hk
  have HZ : Kp (zeroT'.length = 10) := ⟨rfl⟩
  have HT : Kp _ := ⟨h⟩
  have HM : Kp _ := ⟨hM⟩
  have HB : Kp _ := ⟨hb⟩
  clear h hM hb
  go_enter Try.func24, Try.ntmps24
  go_wp2_with (with_reducible refine wpList_box (o := ⟨some 2, _, _, _, _, _⟩) (cs := tvL a t) rfl (.tmp 0) rfl rfl ?_)
  intro w1 hk1 hb1 hs1
  have HK1 : Kp _ := ⟨hk1⟩
  have hg1 := hk1.lt
  have HTB1 : Kp (TB w1 (fun j => M j ∨ j = w.heap.size) a t B m c d.bs) := ⟨TB.start HT.out HM.out HB.out hb1 (Nat.le_refl _) hg1⟩
  clear hk1 hs1 HT HM HB
  go_wp2_with (with_reducible refine wpList_box (o := ⟨some 3, _, _, _, _, _⟩) (cs := ddC d B m c) rfl (.tmp 1) rfl rfl ?_)
  intro w2 hk2 hb2 hs2
  have HD2 : Kp _ := ⟨hk2⟩
  have HK2 : Kp _ := ⟨HK1.out.below hb2 HK1.out.lt⟩
  have HTB2 : Kp _ := ⟨HTB1.out.below hb2⟩
  have hB2 : Below w.heap.size w w2 := hb1.trans (hb2.mono hb1.size)
  have h1 := HK1.out.lt
  clear hk2 hb2 hs2 HK1 HTB1
  go_wp2_with (with_reducible refine wpList_alloc (o := ⟨some 4, _, _, _, _, _⟩) tyT rfl rfl ?_)
  intro w3 hk3 hb3 hs3
  have HR : Kp _ := ⟨hk3⟩
  have HD : Kp _ := ⟨HD2.out.below hb3 HD2.out.lt⟩
  have HK : Kp _ := ⟨HK2.out.below hb3 HK2.out.lt⟩
  have hB : Below w.heap.size w w3 := hB2.trans (hb3.mono hB2.size)
  have h2 := HD2.out.lt
  have hRl := hk3.lt
  have hgt : w.heap.size < w2.heap.size := HK2.out.lt
  have HTB : Kp (TB w3 (fun j => (M j ∨ j = w.heap.size) ∨ j = w2.heap.size) a t B m c d.bs) := ⟨HTB2.out.add hb3 (Nat.le_refl _) hRl⟩
  have f0 : w3.cell? ⟨w1.heap.size, 0, none⟩ = some (.int .i64 d.kind) := HD.out.cell? 0
  rw [HKd.out] at f0
  have f3 : w3.cell? ⟨w1.heap.size, 3, none⟩ = some (.int .i64 d.num) := HD.out.cell? 3
  have e8 : w3.cell? ⟨w.heap.size, 8, none⟩ = some (.bool t.lost) := HK.out.cell? 8
  have e6 : w3.cell? ⟨w.heap.size, 6, none⟩ = some (.bool t.lim) := HK.out.cell? 6
  have e7 : w3.cell? ⟨w.heap.size, 7, none⟩ = some (.int .i64 (a.pw : Int)) := HK.out.cell? 7
  have e3 : w3.cell? ⟨w.heap.size, 3, none⟩ = some (.int .u64 (t.ctr : Int)) := HK.out.cell? 3
  have z3 := HK.out.frozen 3
  have z6 := HK.out.frozen 6
  have z7 := HK.out.frozen 7
  have z8 := HK.out.frozen 8
  obtain ⟨g4, hg4⟩ : ∃ g, g = w2.heap.size := ⟨_, rfl⟩
  rw [← hg4] at HR HTB h2 hgt hRl ⊢
  clear hk3 hb3 hs3 HD2 HK2 hB2 hg4 hb1 HTB2
  have e4 : w3.cell? ⟨w.heap.size, 4, none⟩ = some (.slice a.lA a.ln a.lc) := HK.out.cell? 4
  obtain ⟨M6, y1, y2, y3, y4⟩ := HTB.out.ex
  obtain ⟨hs, L, hL⟩ := y3.lies
  have HY1 : Kp _ := ⟨y1⟩
  have HY2 : Kp _ := ⟨y2⟩
  have HY3 : Kp _ := ⟨y3⟩
  have HY4 : Kp _ := ⟨y4⟩
  have HLi : Kp _ := ⟨hL⟩
  have HRow : Kp _ := ⟨hL.row⟩
  have f4 : w3.cell? ⟨w1.heap.size, 4, none⟩ = some (.slice B m c) := HD.out.cell? 4
  clear y1 y2 y3 y4 hL HTB e8 e6 e7 e3 z3 z6 z7 z8
  go_wp2_with (at_builtin; refine wpList_appM Try.underlying39 infoLie rfl (by decide) rfl _ _ rfl w3.heap.size _ 0 [] rfl (World.ownsRow_nil _ _ _ _) a.lA a.ln a.lc (hdCells hs) rfl HRow.out (hdCells_one _) (by simp only [maxLen]; omega) (by omega) (Nat.le_refl _) ?_)
  intro v4 w4 ho4 hb4
  have HO4 : Kp (w4.ownsRow w3.heap.size 98 2 v4 a.ln (hdCells hs)) := ⟨by first | exact ho4 | simpa using ho4⟩
  have g3 : w4.cell? ⟨w1.heap.size, 3, none⟩ = some (.int .i64 d.num) := (hb4.cell (p := ⟨w1.heap.size, 3, none⟩) (by show w1.heap.size < w3.heap.size; omega)).trans f3
  have g5 : w4.cell? ⟨w1.heap.size, 4, none⟩ = some (.slice B m c) := (hb4.cell (p := ⟨w1.heap.size, 4, none⟩) (by show w1.heap.size < w3.heap.size; omega)).trans f4
  have HK4 : Kp _ := ⟨HK.out.below hb4 HK.out.lt⟩
  have HR4 : Kp _ := ⟨HR.out.below hb4 HR.out.lt⟩
  have hM4 : ∀ j, j < w3.heap.size → j < w4.heap.size := fun j hj => Nat.lt_of_lt_of_le hj hb4.size
  have hb34 := hb4
  have hs3 := hb4.size
  have hK3 := HK.out.lt
  have hR3 := HR.out.lt
  clear ho4 hb4 HRow f3 f4 HK HR e4
  go_wp2_with (at_builtin; refine wpList_appM Try.underlying39 infoLie rfl (by decide) rfl _ _ rfl w3.heap.size _ a.ln (hdCells hs) rfl (ownS_below HO4.out ((Below.refl _ _).alloc (Nat.le_refl _) _)) (some ⟨w4.heap.size, 0, none⟩) 1 1 (hdCells [(d.num, B, m, c)]) rfl (RwM.new (M := fun j => j < w3.heap.size) rfl hM4) (hdCells_one _) (by simp only [maxLen]; omega) (by omega) (by simp; omega) ?_)
  intro v6 w6 ho6 hb6
  have hb36 : Below w3.heap.size w3 w6 := hb34.trans (((Below.refl w3.heap.size w4).alloc hs3 _).trans hb6)
  rw [← hdCells_append] at ho6
  obtain ⟨A6, c6, rfl, hrow⟩ := RwM.of_own (M := fun j => j < w3.heap.size) ho6 (fun k hk => hk)
  have HRow6 : Kp _ := ⟨hrow⟩
  have HK6 : Kp _ := ⟨HK4.out.below (((Below.refl w3.heap.size w4).alloc hs3 _).trans hb6) hK3⟩
  have HR6 : Kp _ := ⟨HR4.out.below (((Below.refl w3.heap.size w4).alloc hs3 _).trans hb6) hR3⟩
  have f6 := HK6.out.frozen 4
  have c6' : w6.cell? ⟨w.heap.size, 4, none⟩ = some (.slice a.lA a.ln a.lc) := HK6.out.cell? 4
  clear ho6 hb6 hrow HO4 HK4 HR4 hb34
  have ho := Only.setCell w6 ⟨w.heap.size, 4, none⟩ (.slice A6 (a.ln + 1) c6)
  have hM4' : ∀ j, j = w.heap.size → M6 j := fun j hj => HY1.out j (.inl (.inr hj))
  have hc1 : Chg (fun j => j = w.heap.size) w6 (w6.setCell ⟨w.heap.size, 4, none⟩ (.slice A6 (a.ln + 1) c6)) := Chg.of_only (S := fun j => j = w.heap.size) ho rfl
  have HTn : Kp (TB (w6.setCell ⟨w.heap.size, 4, none⟩ (.slice A6 (a.ln + 1) c6)) (fun j => (M j ∨ j = w.heap.size) ∨ j = g4) { a with lA := A6, ln := a.ln + 1, lc := c6 } (lieW t d.num d.bs) B m c d.bs) := ⟨⟨M6, HY1.out, fun j hj => by rw [ho.size]; exact Nat.lt_of_lt_of_le (HY2.out j hj) hb36.size, by
      have hx := (HY4.out.below hb36).chg hc1 hM4' (fun _ h => .inl h)
      have hl := (HLi.out.chg (Chg.of_below (fun _ => False) hb36) (fun _ h => h.elim) (fun _ h => .inl h)).chg hc1 hM4' (fun _ h => .inl h)
      have hr := (HRow6.out.weak (M' := M6) (fun j hj => HY2.out j hj)).chg hc1 hM4' (fun _ h => .inl h)
      exact ((HY3.out.below hb36).chg hc1 hM4' (fun _ h => .inl h)).newLie hs L hl d.num B m c d.bs hx A6 c6 hr, (HY4.out.below hb36).chg hc1 hM4' (fun _ h => .inl h)⟩⟩
  have HKn : Kp (Blk (w6.setCell ⟨w.heap.size, 4, none⟩ (.slice A6 (a.ln + 1) c6)) w.heap.size 42 (tvL { a with lA := A6, ln := a.ln + 1, lc := c6 } (lieW t d.num d.bs))) := ⟨by
    have h9 := HK6.out.set 4 (.slice A6 (a.ln + 1) c6)
    have e9 : (tvL a t).set 4 (.slice A6 (a.ln + 1) c6) = tvL { a with lA := A6, ln := a.ln + 1, lc := c6 } (lieW t d.num d.bs) := by unfold lieW; split <;> rfl
    rwa [e9] at h9⟩
  have HRn : Kp (Blk (w6.setCell ⟨w.heap.size, 4, none⟩ (.slice A6 (a.ln + 1) c6)) g4 42 zeroT') := ⟨HR6.out.only ho (by show g4 ≠ w.heap.size; omega)⟩
  have hBn : Below w.heap.size w (w6.setCell ⟨w.heap.size, 4, none⟩ (.slice A6 (a.ln + 1) c6)) := (hB.trans (hb36.mono hB.size)).trans (ho.below (Nat.le_refl _))
  obtain ⟨t5, ht5⟩ : ∃ t5, t5 = lieW t d.num d.bs := ⟨_, rfl⟩
  obtain ⟨a5, ha5⟩ : ∃ a5 : Ta, a5 = { a with lA := A6, ln := a.ln + 1, lc := c6 } := ⟨_, rfl⟩
  have HN5 : Kp (a5.ln ≤ a.ln + 1) := ⟨by rw [ha5]; exact Nat.le_refl _⟩
  rw [← ht5, ← ha5] at HTn HKn
  rw [← ht5] at HW
  have HLn : Kp _ := ⟨tvL_length a5 t5⟩
  have HOn : Kp _ := ⟨tvL_one a5 t5⟩
  clear HK6 HR6 hB ho hM4' hc1 HY1 HY2 HY3 HY4 HLi HRow6 ht5 ha5 HD
  go_wp2_with (first
    | (with_reducible refine wpList_loadAll (o := ⟨some 118, _, _, _, _, _⟩) rwT rfl (.tmp 2) rfl rfl HKn.out HLn.out ?_)
    | (with_reducible refine wpList_storeAll (o := ⟨none, _, _, _, _, _⟩) (vs := tvL a5 t5) rwT rfl (.tmp 4) (.tmp 118) rfl rfl HRn.out HZ.out HLn.out HOn.out rfl ?_))
  intro w8 hk8 ho8
  have HK8 : Kp _ := ⟨hk8⟩
  have HF2 : Kp _ := ⟨(HTn.out.only ho8 (.inr rfl)).fin (M := M) (fun j hj => .inl (.inl hj))⟩
  have hBf := hBn.trans (ho8.below (Nat.le_of_lt hgt))
  clear hk8 ho8 HTn
  go_wp2
  refine ret_arrC rfl rwT rfl rfl rfl HK8.out (tvL_length _ _) rfl ?_
  rw [HW.out.1, HW.out.2.1, HW.out.2.2]
  exact ⟨a5, none, 0, 0, rfl, hBf, HN5.out, HF2.out.1, BsM.zero _ _⟩
/-- Step, whole -/
theorem rstep_any (h : TvM w M a t) (hM : ∀ k, M k → k < w.heap.size) (hle : t.tr.length ≤ 1000000 ∧ t.reads ≤ 1000000) (hln : a.ln ≤ 1000000) (d : Dd) (hd : DdOk d) (B : Option Addr) (m c : Nat) (hb : BsM w M B m c d.bs) :
    Calls Try.prog 24 #[.agg (tvL a t).toArray, .agg (ddC d B m c).toArray] w fun e w' => ∃ a' A n c', e = .returned (.tuple #[.agg (tvL a' (didW t d)).toArray, .slice A n c', .bool (didB t d)]) ∧ Below w.heap.size w w' ∧ a'.ln ≤ a.ln + 1 ∧ TvM w' M a' (didW t d) ∧ BsM w' M A n c' (didL t d) := by
  by_cases h1 : d.kind = 1
  · exact rstep1 h hM hle d hd B m c hb h1
  by_cases h2 : d.kind = 2
  · exact rstep2 h hM hle d hd B m c hb h2
  by_cases h3 : d.kind = 3
  · exact rstep3 h hM hle d hd B m c hb h3
  by_cases h4 : d.kind = 4
  · exact rstep4 h hM hle d hd B m c hb h4
  by_cases h5 : d.kind = 5
  · exact rstep5 h hM hle d hd B m c hb h5
  by_cases h6 : d.kind = 6
  · exact rstep6 h hM d B m c hb h6 hln
  by_cases h7 : d.kind = 7
  · cases hl : t.lost
    · by_cases q1 : d.num < 0
      · exact rstep7a h hM d B m c hb h7 hl q1
      by_cases q2 : d.num = 0
      · exact rstep7z h hM d B m c hb h7 hl q2
      by_cases q3 : d.num ≤ 1000000
      · exact rstep7b h hM d B m c hb h7 hl (by omega) q3
      · exact rstep7c h hM d B m c hb h7 hl (by omega)
    · exact rstep7d h hM d B m c hb h7 hl
  by_cases h8 : d.kind = 8
  · exact rstep8 h hM d B m c hb h8
  by_cases h9 : d.kind = 9
  · exact rstep9 h hM d B m c hb h9
  · exact rstep0 h hM d B m c hb (fun z z1 z2 e => by omega)
end
end Go.Proofs.Ytpbpegoobgfjcaa
