/- The contract of the document's Step, where it reads, writes, looks, seals or counts. -/
import Derived.Test.YtpbpegoobgfjcaaG12
import Derived.Test.YtpbpegoobgfjcaaG14
namespace Go.Proofs.Ytpbpegoobgfjcaa
open Go.RowKit

theorem TB.fin {W : World} {Lo M : Nat → Prop} {a : Ta} {t : Wd} {A : Option Addr} {n c : Nat} {l : List UInt8} (h : TB W Lo a t A n c l) (hM : ∀ k, M k → Lo k) : TvM W M a t ∧ BsM W M A n c l := by
  obtain ⟨M5, h1, h2, h3, h4⟩ := h.ex
  have hc := Chg.refl (fun _ => False) W
  exact ⟨h3.chg hc (fun _ h => h.elim) (fun k hk => .inl (h1 k (hM k hk))), h4.chg hc (fun _ h => h.elim) (fun k hk => .inl (h1 k (hM k hk)))⟩
def ddC (d : Dd) (B : Option Addr) (m c : Nat) : List Value := [.int .i64 d.kind, .int .i64 d.pl, .int .i64 d.sl, .int .i64 d.num, .slice B m c]
section
variable {M : Nat → Prop} {w : World} {a : Ta} {t : Wd}
set_option maxRecDepth 100000 in
set_option maxHeartbeats 4000000 in
theorem rstep1 (h : TvM w M a t) (hM : ∀ k, M k → k < w.heap.size) (hle : t.tr.length ≤ 1000000 ∧ t.reads ≤ 1000000) (d : Dd) (hd : DdOk d) (B : Option Addr) (m c : Nat) (hb : BsM w M B m c d.bs) (hk : d.kind = 1) :
    Calls Try.prog 24 #[.agg (tvL a t).toArray, .agg (ddC d B m c).toArray] w fun e w' => ∃ a' A n c', e = .returned (.tuple #[.agg (tvL a' (didW t d)).toArray, .slice A n c', .bool (didB t d)]) ∧ Below w.heap.size w w' ∧ a'.ln ≤ a.ln + 1 ∧ TvM w' M a' (didW t d) ∧ BsM w' M A n c' (didL t d) := by
  have HW : Kp (didW t d = readW t (d.pl, d.sl) ∧ didL t d = readL t (d.pl, d.sl) ∧ didB t d = false) := ⟨by unfold didW didL didB; simp [hk]⟩
  have HZ : Kp (zeroT'.length = 10) := ⟨rfl⟩
  have HL10 : Kp _ := ⟨tvL_length a t⟩
  have HT : Kp _ := ⟨h⟩
  have HM : Kp _ := ⟨hM⟩
  have HB : Kp _ := ⟨hb⟩
  have HC : Kp (hd = hd) := ⟨rfl⟩
  have HCo : Kp (DdOk d ∧ t.tr.length ≤ 1000000 ∧ t.reads ≤ 1000000) := ⟨⟨hd, hle⟩⟩
  have HKd : Kp _ := ⟨hk⟩
  clear h hM hle hb hk HC hd
  go_enter Try.func24, Try.ntmps24
  go_wp2_with (with_reducible refine wpList_box (o := ⟨some 2, _, _, _, _, _⟩) (cs := tvL a t) rfl (.tmp 0) rfl rfl ?_)
  intro w1 hk1 hb1 hs1
  have HK1 : Kp _ := ⟨hk1⟩
  clear hk1 hs1
  go_wp2_with (with_reducible refine wpList_box (o := ⟨some 3, _, _, _, _, _⟩) (cs := ddC d B m c) rfl (.tmp 1) rfl rfl ?_)
  intro w2 hk2 hb2 hs2
  have HD2 : Kp _ := ⟨hk2⟩
  have HK2 : Kp _ := ⟨HK1.out.below hb2 HK1.out.lt⟩
  have hB2 : Below w.heap.size w w2 := hb1.trans (hb2.mono hb1.size)
  have h1 := HK1.out.lt
  clear hk2 hb2 hs2 HK1
  go_wp2_with (with_reducible refine wpList_alloc (o := ⟨some 4, _, _, _, _, _⟩) tyT rfl rfl ?_)
  intro w3 hk3 hb3 hs3
  have HR : Kp _ := ⟨hk3⟩
  have HD : Kp _ := ⟨HD2.out.below hb3 HD2.out.lt⟩
  have HK : Kp _ := ⟨HK2.out.below hb3 HK2.out.lt⟩
  have hB : Below w.heap.size w w3 := hB2.trans (hb3.mono hB2.size)
  have h2 := HD2.out.lt
  have hRl := hk3.lt
  have hge : w.heap.size ≤ w2.heap.size := hB2.size
  have HTB : Kp (TB w3 (fun j => M j ∨ j = w2.heap.size) a t B m c d.bs) := ⟨TB.start HT.out HM.out HB.out hB hge hRl⟩
  have f0 : w3.cell? ⟨w1.heap.size, 0, none⟩ = some (.int .i64 d.kind) := HD.out.cell? 0
  rw [HKd.out] at f0
  have f1 : w3.cell? ⟨w1.heap.size, 1, none⟩ = some (.int .i64 d.pl) := HD.out.cell? 1
  have f2 : w3.cell? ⟨w1.heap.size, 2, none⟩ = some (.int .i64 d.sl) := HD.out.cell? 2
  have f4 : w3.cell? ⟨w1.heap.size, 4, none⟩ = some (.slice B m c) := HD.out.cell? 4
  obtain ⟨g4, hg4⟩ : ∃ g, g = w2.heap.size := ⟨_, rfl⟩
  rw [← hg4] at HR HTB h2 hge hRl ⊢
  clear hk3 hb3 hs3 HD2 HK2 hB2 hg4 hb1 HT HB
  go_wp2_with (with_reducible refine wpList_loadAll (o := ⟨some 23, _, _, _, _, _⟩) rwT rfl (.tmp 2) rfl rfl HK.out HL10.out ?_)
  obtain ⟨hd, hle⟩ := HCo.out
  obtain ⟨M3, y1, y2, y3, y4⟩ := HTB.out.ex
  refine (rread_any y3 y2 hle.1 hle.2 d.pl d.sl hd.pl hd.sl).mono ?_
  rintro e w5 ⟨a5, A5, n5, c5, rfl, hb5, hn5, ht5, hx5⟩
  have HN5 : Kp (a5.ln ≤ a.ln + 1) := ⟨by omega⟩
  clear hn5
  obtain ⟨t5, ht5'⟩ : ∃ t5, t5 = readW t (d.pl, d.sl) := ⟨_, rfl⟩
  obtain ⟨l5, hl5⟩ : ∃ l5, l5 = readL t (d.pl, d.sl) := ⟨_, rfl⟩
  rw [← hl5] at hx5 HW
  rw [← ht5'] at ht5 HW ⊢
  have HT5 : Kp (TB w5 (fun j => M j ∨ j = g4) a5 t5 A5 n5 c5 l5) := ⟨⟨M3, y1, fun j hj => Nat.lt_of_lt_of_le (y2 j hj) hb5.size, ht5, hx5⟩⟩
  replace HR : Kp _ := ⟨HR.out.below hb5 HR.out.lt⟩
  replace hB := hB.trans (hb5.mono hB.size)
  have hR5 := HR.out.lt
  have HL5 : Kp _ := ⟨tvL_length a5 t5⟩
  have HO5 : Kp _ := ⟨tvL_one a5 t5⟩
  clear y1 y2 y3 y4 hb5 ht5 ht5' hx5 hd hle HTB HK HD f0 f1 f2 f4 h1 h2 hRl
  go_wp2_with (with_reducible refine wpList_alloc (o := ⟨some 7, _, _, _, _, _⟩) tyT rfl rfl ?_)
  intro w6 hk6 hb6 hs6
  have HV6 : Kp _ := ⟨hk6⟩
  have hl6 := hk6.lt
  replace HT5 := Kp.mk (HT5.out.add hb6 (Nat.le_refl _) hl6)
  replace HR : Kp _ := ⟨HR.out.below hb6 HR.out.lt⟩
  replace hB := hB.trans (hb6.mono hB.size)
  have hne : g4 ≠ w5.heap.size := by omega
  clear hk6 hb6 hs6 hl6
  go_wp2_with (with_reducible refine wpList_storeAll (o := ⟨none, _, _, _, _, _⟩) (vs := tvL a5 t5) rwT rfl (.tmp 7) (.tmp 29) rfl rfl HV6.out HZ.out HL5.out HO5.out rfl ?_)
  intro w7 hk7 ho7
  have HV7 : Kp _ := ⟨hk7⟩
  replace HT5 := Kp.mk (HT5.out.only ho7 (.inr rfl))
  replace HR : Kp _ := ⟨HR.out.only ho7 hne⟩
  replace hB := hB.trans (ho7.below (by omega))
  clear hk7 ho7 HV6
  go_wp2_with (first
    | (with_reducible refine wpList_loadAll (o := ⟨some 31, _, _, _, _, _⟩) rwT rfl (.tmp 7) rfl rfl HV7.out HL5.out ?_)
    | (with_reducible refine wpList_storeAll (o := ⟨none, _, _, _, _, _⟩) (vs := tvL a5 t5) rwT rfl (.tmp 4) (.tmp 31) rfl rfl HR.out HZ.out HL5.out HO5.out rfl ?_))
  intro w8 hk8 ho8
  have HK8 : Kp _ := ⟨hk8⟩
  have HF := HT5.out.only ho8 (.inl (.inr rfl))
  have HF2 : Kp _ := ⟨HF.fin (M := M) (fun j hj => .inl (.inl hj))⟩
  have hBf := hB.trans (ho8.below hge)
  clear hk8 ho8 HF HT5
  go_wp2
  refine ret_arrC rfl rwT rfl rfl rfl HK8.out (tvL_length _ _) rfl ?_
  rw [HW.out.1, HW.out.2.1, HW.out.2.2]
  exact ⟨a5, A5, n5, c5, rfl, hBf, HN5.out, HF2.out.1, HF2.out.2⟩
set_option maxRecDepth 100000 in
set_option maxHeartbeats 4000000 in
theorem rstep2 (h : TvM w M a t) (hM : ∀ k, M k → k < w.heap.size) (hle : t.tr.length ≤ 1000000 ∧ t.reads ≤ 1000000) (d : Dd) (hd : DdOk d) (B : Option Addr) (m c : Nat) (hb : BsM w M B m c d.bs) (hk : d.kind = 2) :
    Calls Try.prog 24 #[.agg (tvL a t).toArray, .agg (ddC d B m c).toArray] w fun e w' => ∃ a' A n c', e = .returned (.tuple #[.agg (tvL a' (didW t d)).toArray, .slice A n c', .bool (didB t d)]) ∧ Below w.heap.size w w' ∧ a'.ln ≤ a.ln + 1 ∧ TvM w' M a' (didW t d) ∧ BsM w' M A n c' (didL t d) := by
  have HW : Kp (didW t d = writeW t (d.pl, d.sl) d.bs ∧ didL t d = [] ∧ didB t d = writeB t (d.pl, d.sl)) := ⟨by unfold didW didL didB; simp [hk]⟩
  have HZ : Kp (zeroT'.length = 10) := ⟨rfl⟩
  have HL10 : Kp _ := ⟨tvL_length a t⟩
  have HT : Kp _ := ⟨h⟩
  have HM : Kp _ := ⟨hM⟩
  have HB : Kp _ := ⟨hb⟩
  have HC : Kp (hd = hd) := ⟨rfl⟩
  have HCo : Kp (DdOk d ∧ t.tr.length ≤ 1000000 ∧ t.reads ≤ 1000000) := ⟨⟨hd, hle⟩⟩
  have HKd : Kp _ := ⟨hk⟩
  clear h hM hle hb hk HC hd
  go_enter Try.func24, Try.ntmps24
  go_wp2_with (with_reducible refine wpList_box (o := ⟨some 2, _, _, _, _, _⟩) (cs := tvL a t) rfl (.tmp 0) rfl rfl ?_)
  intro w1 hk1 hb1 hs1
  have HK1 : Kp _ := ⟨hk1⟩
  clear hk1 hs1
  go_wp2_with (with_reducible refine wpList_box (o := ⟨some 3, _, _, _, _, _⟩) (cs := ddC d B m c) rfl (.tmp 1) rfl rfl ?_)
  intro w2 hk2 hb2 hs2
  have HD2 : Kp _ := ⟨hk2⟩
  have HK2 : Kp _ := ⟨HK1.out.below hb2 HK1.out.lt⟩
  have hB2 : Below w.heap.size w w2 := hb1.trans (hb2.mono hb1.size)
  have h1 := HK1.out.lt
  clear hk2 hb2 hs2 HK1
  go_wp2_with (with_reducible refine wpList_alloc (o := ⟨some 4, _, _, _, _, _⟩) tyT rfl rfl ?_)
  intro w3 hk3 hb3 hs3
  have HR : Kp _ := ⟨hk3⟩
  have HD : Kp _ := ⟨HD2.out.below hb3 HD2.out.lt⟩
  have HK : Kp _ := ⟨HK2.out.below hb3 HK2.out.lt⟩
  have hB : Below w.heap.size w w3 := hB2.trans (hb3.mono hB2.size)
  have h2 := HD2.out.lt
  have hRl := hk3.lt
  have hge : w.heap.size ≤ w2.heap.size := hB2.size
  have HTB : Kp (TB w3 (fun j => M j ∨ j = w2.heap.size) a t B m c d.bs) := ⟨TB.start HT.out HM.out HB.out hB hge hRl⟩
  have f0 : w3.cell? ⟨w1.heap.size, 0, none⟩ = some (.int .i64 d.kind) := HD.out.cell? 0
  rw [HKd.out] at f0
  have f1 : w3.cell? ⟨w1.heap.size, 1, none⟩ = some (.int .i64 d.pl) := HD.out.cell? 1
  have f2 : w3.cell? ⟨w1.heap.size, 2, none⟩ = some (.int .i64 d.sl) := HD.out.cell? 2
  have f4 : w3.cell? ⟨w1.heap.size, 4, none⟩ = some (.slice B m c) := HD.out.cell? 4
  obtain ⟨g4, hg4⟩ : ∃ g, g = w2.heap.size := ⟨_, rfl⟩
  rw [← hg4] at HR HTB h2 hge hRl ⊢
  clear hk3 hb3 hs3 HD2 HK2 hB2 hg4 hb1 HT HB
  go_wp2_with (with_reducible refine wpList_loadAll (o := ⟨some 36, _, _, _, _, _⟩) rwT rfl (.tmp 2) rfl rfl HK.out HL10.out ?_)
  obtain ⟨hd, hle⟩ := HCo.out
  obtain ⟨M3, y1, y2, y3, y4⟩ := HTB.out.ex
  refine (rwrite_any y3 y2 hle.1 d.pl d.sl hd.pl hd.sl B m c d.bs y4).mono ?_
  rintro e w5 ⟨a5, rfl, hb5, hn5, ht5⟩
  have HN5 : Kp (a5.ln ≤ a.ln + 1) := ⟨by omega⟩
  clear hn5
  obtain ⟨t5, ht5'⟩ : ∃ t5, t5 = writeW t (d.pl, d.sl) d.bs := ⟨_, rfl⟩
  rw [← ht5'] at ht5 HW ⊢
  have HT5 : Kp (TB w5 (fun j => M j ∨ j = g4) a5 t5 B m c d.bs) := ⟨⟨M3, y1, fun j hj => Nat.lt_of_lt_of_le (y2 j hj) hb5.size, ht5, y4.below hb5⟩⟩
  replace HR : Kp _ := ⟨HR.out.below hb5 HR.out.lt⟩
  replace hB := hB.trans (hb5.mono hB.size)
  have hR5 := HR.out.lt
  have HL5 : Kp _ := ⟨tvL_length a5 t5⟩
  have HO5 : Kp _ := ⟨tvL_one a5 t5⟩
  clear y1 y2 y3 y4 hb5 ht5 ht5' hd hle HTB HK HD f0 f1 f2 f4 h1 h2 hRl
  go_wp2_with (with_reducible refine wpList_alloc (o := ⟨some 9, _, _, _, _, _⟩) tyT rfl rfl ?_)
  intro w6 hk6 hb6 hs6
  have HV6 : Kp _ := ⟨hk6⟩
  have hl6 := hk6.lt
  replace HT5 := Kp.mk (HT5.out.add hb6 (Nat.le_refl _) hl6)
  replace HR : Kp _ := ⟨HR.out.below hb6 HR.out.lt⟩
  replace hB := hB.trans (hb6.mono hB.size)
  have hne : g4 ≠ w5.heap.size := by omega
  clear hk6 hb6 hs6 hl6
  go_wp2_with (with_reducible refine wpList_storeAll (o := ⟨none, _, _, _, _, _⟩) (vs := tvL a5 t5) rwT rfl (.tmp 9) (.tmp 44) rfl rfl HV6.out HZ.out HL5.out HO5.out rfl ?_)
  intro w7 hk7 ho7
  have HV7 : Kp _ := ⟨hk7⟩
  replace HT5 := Kp.mk (HT5.out.only ho7 (.inr rfl))
  replace HR : Kp _ := ⟨HR.out.only ho7 hne⟩
  replace hB := hB.trans (ho7.below (by omega))
  clear hk7 ho7 HV6
  go_wp2_with (first
    | (with_reducible refine wpList_loadAll (o := ⟨some 46, _, _, _, _, _⟩) rwT rfl (.tmp 9) rfl rfl HV7.out HL5.out ?_)
    | (with_reducible refine wpList_storeAll (o := ⟨none, _, _, _, _, _⟩) (vs := tvL a5 t5) rwT rfl (.tmp 4) (.tmp 46) rfl rfl HR.out HZ.out HL5.out HO5.out rfl ?_))
  intro w8 hk8 ho8
  have HK8 : Kp _ := ⟨hk8⟩
  have HF := HT5.out.only ho8 (.inl (.inr rfl))
  have HF2 : Kp _ := ⟨HF.fin (M := M) (fun j hj => .inl (.inl hj))⟩
  have hBf := hB.trans (ho8.below hge)
  clear hk8 ho8 HF HT5
  go_wp2
  refine ret_arrC rfl rwT rfl rfl rfl HK8.out (tvL_length _ _) rfl ?_
  rw [HW.out.1, HW.out.2.1, HW.out.2.2]
  exact ⟨a5, none, 0, 0, rfl, hBf, HN5.out, HF2.out.1, BsM.zero _ _⟩
set_option maxRecDepth 100000 in
set_option maxHeartbeats 4000000 in
theorem rstep3 (h : TvM w M a t) (hM : ∀ k, M k → k < w.heap.size) (hle : t.tr.length ≤ 1000000 ∧ t.reads ≤ 1000000) (d : Dd) (hd : DdOk d) (B : Option Addr) (m c : Nat) (hb : BsM w M B m c d.bs) (hk : d.kind = 3) :
    Calls Try.prog 24 #[.agg (tvL a t).toArray, .agg (ddC d B m c).toArray] w fun e w' => ∃ a' A n c', e = .returned (.tuple #[.agg (tvL a' (didW t d)).toArray, .slice A n c', .bool (didB t d)]) ∧ Below w.heap.size w w' ∧ a'.ln ≤ a.ln + 1 ∧ TvM w' M a' (didW t d) ∧ BsM w' M A n c' (didL t d) := by
  have HW : Kp (didW t d = lookW t d.pl ∧ didL t d = lookL t d.pl ∧ didB t d = false) := ⟨by unfold didW didL didB; simp [hk]⟩
  have HZ : Kp (zeroT'.length = 10) := ⟨rfl⟩
  have HL10 : Kp _ := ⟨tvL_length a t⟩
  have HT : Kp _ := ⟨h⟩
  have HM : Kp _ := ⟨hM⟩
  have HB : Kp _ := ⟨hb⟩
  have HC : Kp (hd = hd) := ⟨rfl⟩
  have HCo : Kp (DdOk d ∧ t.tr.length ≤ 1000000 ∧ t.reads ≤ 1000000) := ⟨⟨hd, hle⟩⟩
  have HKd : Kp _ := ⟨hk⟩
  clear h hM hle hb hk HC hd
  go_enter Try.func24, Try.ntmps24
  go_wp2_with (with_reducible refine wpList_box (o := ⟨some 2, _, _, _, _, _⟩) (cs := tvL a t) rfl (.tmp 0) rfl rfl ?_)
  intro w1 hk1 hb1 hs1
  have HK1 : Kp _ := ⟨hk1⟩
  clear hk1 hs1
  go_wp2_with (with_reducible refine wpList_box (o := ⟨some 3, _, _, _, _, _⟩) (cs := ddC d B m c) rfl (.tmp 1) rfl rfl ?_)
  intro w2 hk2 hb2 hs2
  have HD2 : Kp _ := ⟨hk2⟩
  have HK2 : Kp _ := ⟨HK1.out.below hb2 HK1.out.lt⟩
  have hB2 : Below w.heap.size w w2 := hb1.trans (hb2.mono hb1.size)
  have h1 := HK1.out.lt
  clear hk2 hb2 hs2 HK1
  go_wp2_with (with_reducible refine wpList_alloc (o := ⟨some 4, _, _, _, _, _⟩) tyT rfl rfl ?_)
  intro w3 hk3 hb3 hs3
  have HR : Kp _ := ⟨hk3⟩
  have HD : Kp _ := ⟨HD2.out.below hb3 HD2.out.lt⟩
  have HK : Kp _ := ⟨HK2.out.below hb3 HK2.out.lt⟩
  have hB : Below w.heap.size w w3 := hB2.trans (hb3.mono hB2.size)
  have h2 := HD2.out.lt
  have hRl := hk3.lt
  have hge : w.heap.size ≤ w2.heap.size := hB2.size
  have HTB : Kp (TB w3 (fun j => M j ∨ j = w2.heap.size) a t B m c d.bs) := ⟨TB.start HT.out HM.out HB.out hB hge hRl⟩
  have f0 : w3.cell? ⟨w1.heap.size, 0, none⟩ = some (.int .i64 d.kind) := HD.out.cell? 0
  rw [HKd.out] at f0
  have f1 : w3.cell? ⟨w1.heap.size, 1, none⟩ = some (.int .i64 d.pl) := HD.out.cell? 1
  have f2 : w3.cell? ⟨w1.heap.size, 2, none⟩ = some (.int .i64 d.sl) := HD.out.cell? 2
  have f4 : w3.cell? ⟨w1.heap.size, 4, none⟩ = some (.slice B m c) := HD.out.cell? 4
  obtain ⟨g4, hg4⟩ : ∃ g, g = w2.heap.size := ⟨_, rfl⟩
  rw [← hg4] at HR HTB h2 hge hRl ⊢
  clear hk3 hb3 hs3 HD2 HK2 hB2 hg4 hb1 HT HB
  go_wp2_with (with_reducible refine wpList_loadAll (o := ⟨some 51, _, _, _, _, _⟩) rwT rfl (.tmp 2) rfl rfl HK.out HL10.out ?_)
  obtain ⟨hd, hle⟩ := HCo.out
  obtain ⟨M3, y1, y2, y3, y4⟩ := HTB.out.ex
  refine (rlook_any y3 y2 hle.1 hle.2 d.pl hd.pl).mono ?_
  rintro e w5 ⟨a5, A5, n5, c5, rfl, hb5, hn5, ht5, hx5⟩
  have HN5 : Kp (a5.ln ≤ a.ln + 1) := ⟨by omega⟩
  clear hn5
  obtain ⟨t5, ht5'⟩ : ∃ t5, t5 = lookW t d.pl := ⟨_, rfl⟩
  obtain ⟨l5, hl5⟩ : ∃ l5, l5 = lookL t d.pl := ⟨_, rfl⟩
  rw [← hl5] at hx5 HW
  rw [← ht5'] at ht5 HW ⊢
  have HT5 : Kp (TB w5 (fun j => M j ∨ j = g4) a5 t5 A5 n5 c5 l5) := ⟨⟨M3, y1, fun j hj => Nat.lt_of_lt_of_le (y2 j hj) hb5.size, ht5, hx5⟩⟩
  replace HR : Kp _ := ⟨HR.out.below hb5 HR.out.lt⟩
  replace hB := hB.trans (hb5.mono hB.size)
  have hR5 := HR.out.lt
  have HL5 : Kp _ := ⟨tvL_length a5 t5⟩
  have HO5 : Kp _ := ⟨tvL_one a5 t5⟩
  clear y1 y2 y3 y4 hb5 ht5 ht5' hx5 hd hle HTB HK HD f0 f1 f2 f4 h1 h2 hRl
  go_wp2_with (with_reducible refine wpList_alloc (o := ⟨some 11, _, _, _, _, _⟩) tyT rfl rfl ?_)
  intro w6 hk6 hb6 hs6
  have HV6 : Kp _ := ⟨hk6⟩
  have hl6 := hk6.lt
  replace HT5 := Kp.mk (HT5.out.add hb6 (Nat.le_refl _) hl6)
  replace HR : Kp _ := ⟨HR.out.below hb6 HR.out.lt⟩
  replace hB := hB.trans (hb6.mono hB.size)
  have hne : g4 ≠ w5.heap.size := by omega
  clear hk6 hb6 hs6 hl6
  go_wp2_with (with_reducible refine wpList_storeAll (o := ⟨none, _, _, _, _, _⟩) (vs := tvL a5 t5) rwT rfl (.tmp 11) (.tmp 55) rfl rfl HV6.out HZ.out HL5.out HO5.out rfl ?_)
  intro w7 hk7 ho7
  have HV7 : Kp _ := ⟨hk7⟩
  replace HT5 := Kp.mk (HT5.out.only ho7 (.inr rfl))
  replace HR : Kp _ := ⟨HR.out.only ho7 hne⟩
  replace hB := hB.trans (ho7.below (by omega))
  clear hk7 ho7 HV6
  go_wp2_with (first
    | (with_reducible refine wpList_loadAll (o := ⟨some 57, _, _, _, _, _⟩) rwT rfl (.tmp 11) rfl rfl HV7.out HL5.out ?_)
    | (with_reducible refine wpList_storeAll (o := ⟨none, _, _, _, _, _⟩) (vs := tvL a5 t5) rwT rfl (.tmp 4) (.tmp 57) rfl rfl HR.out HZ.out HL5.out HO5.out rfl ?_))
  intro w8 hk8 ho8
  have HK8 : Kp _ := ⟨hk8⟩
  have HF := HT5.out.only ho8 (.inl (.inr rfl))
  have HF2 : Kp _ := ⟨HF.fin (M := M) (fun j hj => .inl (.inl hj))⟩
  have hBf := hB.trans (ho8.below hge)
  clear hk8 ho8 HF HT5
  go_wp2
  refine ret_arrC rfl rwT rfl rfl rfl HK8.out (tvL_length _ _) rfl ?_
  rw [HW.out.1, HW.out.2.1, HW.out.2.2]
  exact ⟨a5, A5, n5, c5, rfl, hBf, HN5.out, HF2.out.1, HF2.out.2⟩
set_option maxRecDepth 100000 in
set_option maxHeartbeats 4000000 in
theorem rstep4 (h : TvM w M a t) (hM : ∀ k, M k → k < w.heap.size) (hle : t.tr.length ≤ 1000000 ∧ t.reads ≤ 1000000) (d : Dd) (hd : DdOk d) (B : Option Addr) (m c : Nat) (hb : BsM w M B m c d.bs) (hk : d.kind = 4) :
    Calls Try.prog 24 #[.agg (tvL a t).toArray, .agg (ddC d B m c).toArray] w fun e w' => ∃ a' A n c', e = .returned (.tuple #[.agg (tvL a' (didW t d)).toArray, .slice A n c', .bool (didB t d)]) ∧ Below w.heap.size w w' ∧ a'.ln ≤ a.ln + 1 ∧ TvM w' M a' (didW t d) ∧ BsM w' M A n c' (didL t d) := by
  have HW : Kp (didW t d = sealedW t d.pl d.bs ∧ didL t d = [] ∧ didB t d = sealB t d.pl d.bs) := ⟨by unfold didW didL didB; simp [hk]⟩
  have HZ : Kp (zeroT'.length = 10) := ⟨rfl⟩
  have HL10 : Kp _ := ⟨tvL_length a t⟩
  have HT : Kp _ := ⟨h⟩
  have HM : Kp _ := ⟨hM⟩
  have HB : Kp _ := ⟨hb⟩
  have HC : Kp (hd = hd) := ⟨rfl⟩
  have HCo : Kp (DdOk d ∧ t.tr.length ≤ 1000000 ∧ t.reads ≤ 1000000) := ⟨⟨hd, hle⟩⟩
  have HKd : Kp _ := ⟨hk⟩
  clear h hM hle hb hk HC hd
  go_enter Try.func24, Try.ntmps24
  go_wp2_with (with_reducible refine wpList_box (o := ⟨some 2, _, _, _, _, _⟩) (cs := tvL a t) rfl (.tmp 0) rfl rfl ?_)
  intro w1 hk1 hb1 hs1
  have HK1 : Kp _ := ⟨hk1⟩
  clear hk1 hs1
  go_wp2_with (with_reducible refine wpList_box (o := ⟨some 3, _, _, _, _, _⟩) (cs := ddC d B m c) rfl (.tmp 1) rfl rfl ?_)
  intro w2 hk2 hb2 hs2
  have HD2 : Kp _ := ⟨hk2⟩
  have HK2 : Kp _ := ⟨HK1.out.below hb2 HK1.out.lt⟩
  have hB2 : Below w.heap.size w w2 := hb1.trans (hb2.mono hb1.size)
  have h1 := HK1.out.lt
  clear hk2 hb2 hs2 HK1
  go_wp2_with (with_reducible refine wpList_alloc (o := ⟨some 4, _, _, _, _, _⟩) tyT rfl rfl ?_)
  intro w3 hk3 hb3 hs3
  have HR : Kp _ := ⟨hk3⟩
  have HD : Kp _ := ⟨HD2.out.below hb3 HD2.out.lt⟩
  have HK : Kp _ := ⟨HK2.out.below hb3 HK2.out.lt⟩
  have hB : Below w.heap.size w w3 := hB2.trans (hb3.mono hB2.size)
  have h2 := HD2.out.lt
  have hRl := hk3.lt
  have hge : w.heap.size ≤ w2.heap.size := hB2.size
  have HTB : Kp (TB w3 (fun j => M j ∨ j = w2.heap.size) a t B m c d.bs) := ⟨TB.start HT.out HM.out HB.out hB hge hRl⟩
  have f0 : w3.cell? ⟨w1.heap.size, 0, none⟩ = some (.int .i64 d.kind) := HD.out.cell? 0
  rw [HKd.out] at f0
  have f1 : w3.cell? ⟨w1.heap.size, 1, none⟩ = some (.int .i64 d.pl) := HD.out.cell? 1
  have f2 : w3.cell? ⟨w1.heap.size, 2, none⟩ = some (.int .i64 d.sl) := HD.out.cell? 2
  have f4 : w3.cell? ⟨w1.heap.size, 4, none⟩ = some (.slice B m c) := HD.out.cell? 4
  obtain ⟨g4, hg4⟩ : ∃ g, g = w2.heap.size := ⟨_, rfl⟩
  rw [← hg4] at HR HTB h2 hge hRl ⊢
  clear hk3 hb3 hs3 HD2 HK2 hB2 hg4 hb1 HT HB
  go_wp2_with (with_reducible refine wpList_loadAll (o := ⟨some 62, _, _, _, _, _⟩) rwT rfl (.tmp 2) rfl rfl HK.out HL10.out ?_)
  obtain ⟨hd, hle⟩ := HCo.out
  obtain ⟨M3, y1, y2, y3, y4⟩ := HTB.out.ex
  refine (rseal_any y3 y2 hle.1 d.pl hd.pl B m c d.bs y4).mono ?_
  rintro e w5 ⟨a5, rfl, hb5, hn5, ht5⟩
  have HN5 : Kp (a5.ln ≤ a.ln + 1) := ⟨by omega⟩
  clear hn5
  obtain ⟨t5, ht5'⟩ : ∃ t5, t5 = sealedW t d.pl d.bs := ⟨_, rfl⟩
  rw [← ht5'] at ht5 HW ⊢
  have HT5 : Kp (TB w5 (fun j => M j ∨ j = g4) a5 t5 B m c d.bs) := ⟨⟨M3, y1, fun j hj => Nat.lt_of_lt_of_le (y2 j hj) hb5.size, ht5, y4.below hb5⟩⟩
  replace HR : Kp _ := ⟨HR.out.below hb5 HR.out.lt⟩
  replace hB := hB.trans (hb5.mono hB.size)
  have hR5 := HR.out.lt
  have HL5 : Kp _ := ⟨tvL_length a5 t5⟩
  have HO5 : Kp _ := ⟨tvL_one a5 t5⟩
  clear y1 y2 y3 y4 hb5 ht5 ht5' hd hle HTB HK HD f0 f1 f2 f4 h1 h2 hRl
  go_wp2_with (with_reducible refine wpList_alloc (o := ⟨some 13, _, _, _, _, _⟩) tyT rfl rfl ?_)
  intro w6 hk6 hb6 hs6
  have HV6 : Kp _ := ⟨hk6⟩
  have hl6 := hk6.lt
  replace HT5 := Kp.mk (HT5.out.add hb6 (Nat.le_refl _) hl6)
  replace HR : Kp _ := ⟨HR.out.below hb6 HR.out.lt⟩
  replace hB := hB.trans (hb6.mono hB.size)
  have hne : g4 ≠ w5.heap.size := by omega
  clear hk6 hb6 hs6 hl6
  go_wp2_with (with_reducible refine wpList_storeAll (o := ⟨none, _, _, _, _, _⟩) (vs := tvL a5 t5) rwT rfl (.tmp 13) (.tmp 68) rfl rfl HV6.out HZ.out HL5.out HO5.out rfl ?_)
  intro w7 hk7 ho7
  have HV7 : Kp _ := ⟨hk7⟩
  replace HT5 := Kp.mk (HT5.out.only ho7 (.inr rfl))
  replace HR : Kp _ := ⟨HR.out.only ho7 hne⟩
  replace hB := hB.trans (ho7.below (by omega))
  clear hk7 ho7 HV6
  go_wp2_with (first
    | (with_reducible refine wpList_loadAll (o := ⟨some 70, _, _, _, _, _⟩) rwT rfl (.tmp 13) rfl rfl HV7.out HL5.out ?_)
    | (with_reducible refine wpList_storeAll (o := ⟨none, _, _, _, _, _⟩) (vs := tvL a5 t5) rwT rfl (.tmp 4) (.tmp 70) rfl rfl HR.out HZ.out HL5.out HO5.out rfl ?_))
  intro w8 hk8 ho8
  have HK8 : Kp _ := ⟨hk8⟩
  have HF := HT5.out.only ho8 (.inl (.inr rfl))
  have HF2 : Kp _ := ⟨HF.fin (M := M) (fun j hj => .inl (.inl hj))⟩
  have hBf := hB.trans (ho8.below hge)
  clear hk8 ho8 HF HT5
  go_wp2
  refine ret_arrC rfl rwT rfl rfl rfl HK8.out (tvL_length _ _) rfl ?_
  rw [HW.out.1, HW.out.2.1, HW.out.2.2]
  exact ⟨a5, none, 0, 0, rfl, hBf, HN5.out, HF2.out.1, BsM.zero _ _⟩
set_option maxRecDepth 100000 in
set_option maxHeartbeats 4000000 in
theorem rstep5 (h : TvM w M a t) (hM : ∀ k, M k → k < w.heap.size) (hle : t.tr.length ≤ 1000000 ∧ t.reads ≤ 1000000) (d : Dd) (hd : DdOk d) (B : Option Addr) (m c : Nat) (hb : BsM w M B m c d.bs) (hk : d.kind = 5) :
    Calls Try.prog 24 #[.agg (tvL a t).toArray, .agg (ddC d B m c).toArray] w fun e w' => ∃ a' A n c', e = .returned (.tuple #[.agg (tvL a' (didW t d)).toArray, .slice A n c', .bool (didB t d)]) ∧ Below w.heap.size w w' ∧ a'.ln ≤ a.ln + 1 ∧ TvM w' M a' (didW t d) ∧ BsM w' M A n c' (didL t d) := by
  have HW : Kp (didW t d = bumpW t ∧ didL t d = [] ∧ didB t d = bumpB t) := ⟨by unfold didW didL didB; simp [hk]⟩
  have HZ : Kp (zeroT'.length = 10) := ⟨rfl⟩
  have HL10 : Kp _ := ⟨tvL_length a t⟩
  have HT : Kp _ := ⟨h⟩
  have HM : Kp _ := ⟨hM⟩
  have HB : Kp _ := ⟨hb⟩
  have HC : Kp (hd = hd) := ⟨rfl⟩
  have HCo : Kp (DdOk d ∧ t.tr.length ≤ 1000000 ∧ t.reads ≤ 1000000) := ⟨⟨hd, hle⟩⟩
  have HKd : Kp _ := ⟨hk⟩
  clear h hM hle hb hk HC hd
  go_enter Try.func24, Try.ntmps24
  go_wp2_with (with_reducible refine wpList_box (o := ⟨some 2, _, _, _, _, _⟩) (cs := tvL a t) rfl (.tmp 0) rfl rfl ?_)
  intro w1 hk1 hb1 hs1
  have HK1 : Kp _ := ⟨hk1⟩
  clear hk1 hs1
  go_wp2_with (with_reducible refine wpList_box (o := ⟨some 3, _, _, _, _, _⟩) (cs := ddC d B m c) rfl (.tmp 1) rfl rfl ?_)
  intro w2 hk2 hb2 hs2
  have HD2 : Kp _ := ⟨hk2⟩
  have HK2 : Kp _ := ⟨HK1.out.below hb2 HK1.out.lt⟩
  have hB2 : Below w.heap.size w w2 := hb1.trans (hb2.mono hb1.size)
  have h1 := HK1.out.lt
  clear hk2 hb2 hs2 HK1
  go_wp2_with (with_reducible refine wpList_alloc (o := ⟨some 4, _, _, _, _, _⟩) tyT rfl rfl ?_)
  intro w3 hk3 hb3 hs3
  have HR : Kp _ := ⟨hk3⟩
  have HD : Kp _ := ⟨HD2.out.below hb3 HD2.out.lt⟩
  have HK : Kp _ := ⟨HK2.out.below hb3 HK2.out.lt⟩
  have hB : Below w.heap.size w w3 := hB2.trans (hb3.mono hB2.size)
  have h2 := HD2.out.lt
  have hRl := hk3.lt
  have hge : w.heap.size ≤ w2.heap.size := hB2.size
  have HTB : Kp (TB w3 (fun j => M j ∨ j = w2.heap.size) a t B m c d.bs) := ⟨TB.start HT.out HM.out HB.out hB hge hRl⟩
  have f0 : w3.cell? ⟨w1.heap.size, 0, none⟩ = some (.int .i64 d.kind) := HD.out.cell? 0
  rw [HKd.out] at f0
  have f1 : w3.cell? ⟨w1.heap.size, 1, none⟩ = some (.int .i64 d.pl) := HD.out.cell? 1
  have f2 : w3.cell? ⟨w1.heap.size, 2, none⟩ = some (.int .i64 d.sl) := HD.out.cell? 2
  have f4 : w3.cell? ⟨w1.heap.size, 4, none⟩ = some (.slice B m c) := HD.out.cell? 4
  obtain ⟨g4, hg4⟩ : ∃ g, g = w2.heap.size := ⟨_, rfl⟩
  rw [← hg4] at HR HTB h2 hge hRl ⊢
  clear hk3 hb3 hs3 HD2 HK2 hB2 hg4 hb1 HT HB
  go_wp2_with (with_reducible refine wpList_loadAll (o := ⟨some 75, _, _, _, _, _⟩) rwT rfl (.tmp 2) rfl rfl HK.out HL10.out ?_)
  obtain ⟨hd, hle⟩ := HCo.out
  obtain ⟨M3, y1, y2, y3, y4⟩ := HTB.out.ex
  refine (rbump_any y3 y2 hle.1).mono ?_
  rintro e w5 ⟨a5, rfl, hb5, hn5, ht5⟩
  have HN5 : Kp (a5.ln ≤ a.ln + 1) := ⟨by omega⟩
  clear hn5
  obtain ⟨t5, ht5'⟩ : ∃ t5, t5 = bumpW t := ⟨_, rfl⟩
  rw [← ht5'] at ht5 HW ⊢
  have HT5 : Kp (TB w5 (fun j => M j ∨ j = g4) a5 t5 B m c d.bs) := ⟨⟨M3, y1, fun j hj => Nat.lt_of_lt_of_le (y2 j hj) hb5.size, ht5, y4.below hb5⟩⟩
  replace HR : Kp _ := ⟨HR.out.below hb5 HR.out.lt⟩
  replace hB := hB.trans (hb5.mono hB.size)
  have hR5 := HR.out.lt
  have HL5 : Kp _ := ⟨tvL_length a5 t5⟩
  have HO5 : Kp _ := ⟨tvL_one a5 t5⟩
  clear y1 y2 y3 y4 hb5 ht5 ht5' hd hle HTB HK HD f0 f1 f2 f4 h1 h2 hRl
  go_wp2_with (with_reducible refine wpList_alloc (o := ⟨some 15, _, _, _, _, _⟩) tyT rfl rfl ?_)
  intro w6 hk6 hb6 hs6
  have HV6 : Kp _ := ⟨hk6⟩
  have hl6 := hk6.lt
  replace HT5 := Kp.mk (HT5.out.add hb6 (Nat.le_refl _) hl6)
  replace HR : Kp _ := ⟨HR.out.below hb6 HR.out.lt⟩
  replace hB := hB.trans (hb6.mono hB.size)
  have hne : g4 ≠ w5.heap.size := by omega
  clear hk6 hb6 hs6 hl6
  go_wp2_with (with_reducible refine wpList_storeAll (o := ⟨none, _, _, _, _, _⟩) (vs := tvL a5 t5) rwT rfl (.tmp 15) (.tmp 77) rfl rfl HV6.out HZ.out HL5.out HO5.out rfl ?_)
  intro w7 hk7 ho7
  have HV7 : Kp _ := ⟨hk7⟩
  replace HT5 := Kp.mk (HT5.out.only ho7 (.inr rfl))
  replace HR : Kp _ := ⟨HR.out.only ho7 hne⟩
  replace hB := hB.trans (ho7.below (by omega))
  clear hk7 ho7 HV6
  go_wp2_with (first
    | (with_reducible refine wpList_loadAll (o := ⟨some 79, _, _, _, _, _⟩) rwT rfl (.tmp 15) rfl rfl HV7.out HL5.out ?_)
    | (with_reducible refine wpList_storeAll (o := ⟨none, _, _, _, _, _⟩) (vs := tvL a5 t5) rwT rfl (.tmp 4) (.tmp 79) rfl rfl HR.out HZ.out HL5.out HO5.out rfl ?_))
  intro w8 hk8 ho8
  have HK8 : Kp _ := ⟨hk8⟩
  have HF := HT5.out.only ho8 (.inl (.inr rfl))
  have HF2 : Kp _ := ⟨HF.fin (M := M) (fun j hj => .inl (.inl hj))⟩
  have hBf := hB.trans (ho8.below hge)
  clear hk8 ho8 HF HT5
  go_wp2
  refine ret_arrC rfl rwT rfl rfl rfl HK8.out (tvL_length _ _) rfl ?_
  rw [HW.out.1, HW.out.2.1, HW.out.2.2]
  exact ⟨a5, none, 0, 0, rfl, hBf, HN5.out, HF2.out.1, BsM.zero _ _⟩
end
end Go.Proofs.Ytpbpegoobgfjcaa
