/-  -/
import Derived.Test.YtcehkafddlfleaaGreatDoorG02
import Derived.Test.YtcehkafddlfleaaGreatDoorG49
import Derived.Test.YtcehkafddlfleaaGreatDoorG16
namespace Go.Proofs.YtcehkafddlfleaaGreatDoor
open Go.RowKit
abbrev tD : TypeId := 173
abbrev tS : TypeId := 63
theorem dig_built0 : (Tryz.prog).built 173 [] = some (cells8 z32).toArray := by kernel_rfl
theorem z32c_len : (cells8 z32).length = 32 := by rw [cells8_length, z32_length]
theorem two_new {W' : World} {p1 p2 B : Nat} {e1 e2 : TypeId} {c1 c2 : List Value} (h1 : Blk W' p1 e1 c1) (h2 : Blk W' p2 e2 c2) (h3 : B ≤ p1) (h4 : p1 < p2) : ∀ x ∈ [(p1, e1, c1), (p2, e2, c2)], Blk W' x.1 x.2.1 x.2.2 ∧ B ≤ x.1 := fun x hx => by
 rcases List.mem_cons.1 hx with rfl | hx
 ·exact ⟨h1, h3⟩
 ·obtain rfl := List.mem_singleton.1 hx
  exact ⟨h2, by show B ≤ p2; omega⟩
section
variable {w0 w W : World} {k : Nat} {t : Wd} {Om Ox : Nat → Prop} {hs : List Held} {g gm nm : Nat} {s : Sto} {ks : List UInt8} {rc rn : Rc} {q lim : Int} {po : Bool} {F : Nat → Option Pt}
structure AudI (w0 w W : World) (k : Nat) (Ox : Nat → Prop) (hs : List Held) (g gm nm : Nat) (s : Sto) (ks : List UInt8) (rc rn : Rc) (q lim : Int) (po : Bool) (F : Nat → Option Pt) (N m : Nat) (l : List Nat) (T' : Wd × List (List UInt8)) (gD g4 g2 cap : Nat) (A2 : Option Addr) (n2 c2 : Nat) (rest : List Value) (Lv : Gs) (j : Nat) : Prop where
 is : ∃ tj suj Fj hsj, GuW w0 w W (k + 16 * j) tj Ox hsj g gm nm s ks rc rn q lim po Fj ((gD, tD, cells8 suj.flatten ++ rest) :: (g4, tS, rcL rn.num rn.blk A2 n2 c2 (some ⟨gD, 0, none⟩) m cap) :: (g2, tS, rcZ) :: Lv) ∧ audO ks rn N F (l.drop j) tj suj = some T' ∧
  (∀ i ∈ l.drop j, Fj i = F i) ∧ suj.length = m ∧ (∀ d ∈ suj, d.length = 32) ∧ Lw tj ∧ ∀ y ∈ hs, y ∈ hsj
structure AudJ (w0 w W : World) (k : Nat) (Ox : Nat → Prop) (hs : List Held) (g gm nm : Nat) (s : Sto) (ks : List UInt8) (rc rn : Rc) (q lim : Int) (po : Bool) (F : Nat → Option Pt) (i : Nat) (x : Pt) (R : Option (Wd × List UInt8 × List UInt8)) (g1 gf gp g9 : Nat) (L : Gs) (u a top : Nat) : Prop where
 is : ∃ t2 rd d hs2, GuW w0 w W (k + (a - u)) t2 Ox hs2 g gm nm s ks rc rn q lim po (fun y => if y = i then some ⟨x.p, rd, x.wr⟩ else F y) ((g1, 119, stL s) :: (gf, 231, [.slice (some ⟨gp, 0, none⟩) 2 2]) :: (gp, 171, [.pointer (some ⟨x.p, 0, none⟩), .pointer (some ⟨g9, 0, none⟩)]) :: (g9, tD, cells8 d) :: L) ∧
  audP ks rn (List.range' a (top - a)) t2 rd d = R ∧ rd.length = 32 ∧ d.length = 32 ∧ Lw t2 ∧ ∀ y ∈ hs, y ∈ hs2
set_option maxRecDepth 100000 in
set_option maxHeartbeats 16000000 in
theorem maudit_ok (h : MemW w0 w k t Om Ox hs g gm nm s ks rc rn q lim po F) (N m : Nat) (hN : rc.blk = (N : Int)) (hN9 : N ≤ 4096) (hm : rn.su.length = m) (hm0 : 0 < m) (hm9 : m ≤ 256) (hF : ∀ i, (F i).isSome = true → i < m) (hk : k + 16 * m ≤ 999999) (hL : Lw t) (T' : Wd × List (List UInt8)) (hA : audO ks rn N F (presL F m) t rn.su = some T') :
  Calls Tryz.prog 101 #[.pointer (some ⟨g, 0, none⟩)] w fun r w' => ∃ A n c D e hs' Om' F', r = .returned (.tuple #[.agg (rcL rn.num rn.blk A n c D m e).toArray, .nilIface]) ∧ (∀ y ∈ hs, y ∈ hs') ∧ Hld hs' A n c D m e ⟨rn.num, rn.blk, rn.sl, T'.2⟩ ∧
   MemW w0 w' (k + 16 * m) T'.1 Om' Ox hs' g gm nm s ks rc rn q lim po F' ∧ Keep Ox w w' := by
 have HKy : Kp (s.hk.length = 16) := ⟨h.key⟩
 have HC : Kp (rc.blk = (N : Int) ∧ N ≤ 4096 ∧ rn.su.length = m ∧ 0 < m ∧ m ≤ 256 ∧ (∀ i, (F i).isSome = true → i < m) ∧ k + 16 * m ≤ 999999 ∧ Lw t ∧ audO ks rn N F (presL F m) t rn.su = some T' ∧ nm ≤ 100000) := ⟨hN, hN9, hm, hm0, hm9, hF, hk, hL, hA, h.small⟩
 have HG : Kp _ := ⟨GuW.start h⟩
 clear h hN hN9 hm hm0 hm9 hF hk hL hA
 go_enter Tryz.func101, Tryz.ntmps101
 go_wp2_with (with_reducible refine wpList_alloc (o := ⟨some 2, _, _, _, _, _⟩) tySeal rfl rfl ?_)
 intro w1 hk1 hb1 hs1
 have HG1 : Kp _ := ⟨HG.out.new hb1 hk1 (Nat.le_refl _)⟩
 obtain ⟨g2, hg2⟩ : ∃ z, z = w.heap.size := ⟨_, rfl⟩
 rw [← hg2] at HG1 ⊢
 clear hk1 hb1 hs1 hg2 HG
 obtain ⟨Om1, hm1⟩ := HG1.out.st
 obtain ⟨A1, n1, c1, D1, m1, e1, A2, n2, c2, D2, m2, e2, hM, h3, h4⟩ := hm1.mem
 have HM : Kp _ := ⟨hM⟩
 have H4s : Kp ((A2, n2, c2, rn.sl) ∈ hs ∧ rn.num < 18446744073709551616 ∧ (-9223372036854775808 ≤ rn.blk ∧ rn.blk < 9223372036854775808) ∧ ∀ d ∈ rn.su, d.length = 32) := ⟨h4.sl, h4.num, h4.blk, h4.wide⟩
 have HFt : Kp (23 + 4 ≤ (mmL s (rcL rc.num rc.blk A1 n1 c1 D1 m1 e1) (rcL rn.num rn.blk A2 n2 c2 D2 m2 e2) q lim (some gm) po).length) := ⟨by rw [mmL_length HKy.out rfl rfl]; decide⟩
 clear hm1 hM h3 h4
 go_wp2
 go_step3
 go_wp2_with (first
  | (with_reducible refine wpList_loadv (o := ⟨some 17, _, _, _, _, _⟩) (vs := rcL rn.num rn.blk A2 n2 c2 D2 m2 e2) rwSeal rfl (.tmp 16) rfl rfl HM.out HFt.out (mm_nowv HKy.out rfl rfl) ?_)
  | (with_reducible refine wpList_alloc (o := ⟨some 4, _, _, _, _, _⟩) tySeal rfl rfl ?_))
 intro w2 hk2 hb2 hs2
 have HG2 : Kp _ := ⟨HG1.out.new hb2 hk2 (Nat.le_refl _)⟩
 have HK2 : Kp _ := ⟨hk2⟩
 obtain ⟨g4, hg4⟩ : ∃ z, z = w1.heap.size := ⟨_, rfl⟩
 rw [← hg4] at HG2 HK2 ⊢
 clear hk2 hb2 hs2 hg4 HG1 HM HFt
 go_wp2_with (with_reducible refine wpList_storeAll (o := ⟨none, _, _, _, _, _⟩) (vs := rcL rn.num rn.blk A2 n2 c2 D2 m2 e2) rwSeal rfl (.tmp 4) (.tmp 17) rfl rfl HK2.out rfl rfl (rcL_one _ _ _ _ _ _ _ _) rfl ?_)
 intro w3 hk3 ho3
 have HG3 : Kp _ := ⟨GuW.set (L1 := []) HG2.out ho3 hk3⟩
 clear hk3 ho3 HG2 HK2
 obtain ⟨Om3, hm3⟩ := HG3.out.st
 obtain ⟨A5, n5, c5, D5, m5, e5, A6, n6, c6, D6, m6, e6, hM, h3, h4⟩ := hm3.mem
 have c26 : w3.cell? ⟨g, 26, none⟩ = some (.slice D6 m6 e6) := by rw [hM.cell? 26]; exact mm_nw HKy.out rfl rfl 3 (by decide)
 obtain rfl : m6 = m := by rw [← h4.len]; exact HC.out.2.2.1
 have HD6 : Kp _ := ⟨(h4.rs hm3.st).su⟩
 clear hM h3 h4 hm3
 go_wp2_with fail
 refine (clone32b w3.heap.size D6 m6 e6 rn.su w3 (Nat.le_refl _) HD6.out (by have := HC.out; omega)).mono ?_
 rintro x w4 ⟨v4, rfl, hown, hb4⟩
 obtain ⟨gD, cap, rest, rfl, hgD, hkD, hcap, hmax⟩ := own_blk hown HC.out.2.2.2.1
 have HG4 : Kp _ := ⟨HG3.out.new hb4 hkD hgD⟩
 have HCp : Kp (m6 ≤ cap ∧ cap ≤ maxLen) := ⟨hcap, hmax⟩
 have b4 := HG4.out.blk (g4, tS, rcL rn.num rn.blk A2 n2 c2 D2 m2 e2) (by simp)
 have q4 : w4.cell? ⟨g4, 3, none⟩ = some (.slice D2 m2 e2) := b4.cell? 3
 have f4 := b4.frozen 3
 have HB4 : Kp _ := ⟨b4.set 3 (.slice (some ⟨gD, 0, none⟩) m6 cap)⟩
 clear hown hb4 hgD hkD hcap hmax c26 HD6 HG3 b4
 go_upto_region 3 with fail
 have HG5 : Kp (GuW w0 w (w4.setCell ⟨g4, 3, none⟩ (.slice (some ⟨gD, 0, none⟩) m6 cap)) k t Ox hs g gm nm s ks rc rn q lim po F [(gD, tD, cells8 rn.su.flatten ++ rest), (g4, tS, rcL rn.num rn.blk A2 n2 c2 (some ⟨gD, 0, none⟩) m6 cap), (g2, tS, rcZ)]) := ⟨GuW.set (L1 := [_]) HG4.out (Only.setCell w4 ⟨g4, 3, none⟩ _) HB4.out⟩
 generalize w4.setCell ⟨g4, 3, none⟩ (.slice (some ⟨gD, 0, none⟩) m6 cap) = w5 at *
 clear q4 f4 HG4 HB4
 go_wp2
 try go_step3
 obtain ⟨Om5, hm5⟩ := HG5.out.st
 obtain ⟨A5, n5, c5, D5, m5, e5, A6, n6, c6, D6, m7, e6, hM, _, _⟩ := hm5.mem
 have c29 : w5.cell? ⟨g, 29, none⟩ = some (.map (some gm)) := by rw [hM.cell? 29]; exact mm_at HKy.out rfl rfl 2
 clear hM hm5
 go_wp2_with fail
 refine (pkeys_any (some gm) w5).mono ?_
 rintro x w6 ⟨rfl, hw6⟩
 have hb6 : Below w5.heap.size w5 w6 := by rw [hw6]; exact (Below.refl _ _).alloc (Nat.le_refl _) _
 have hk6 : Blk w6 w5.heap.size 122 [.map (some gm)] := by rw [hw6]; exact Blk.new w5 _ _
 have HG6 : Kp _ := ⟨HG5.out.grow hb6⟩
 have HK6 : Kp _ := ⟨hk6⟩
 obtain ⟨gk, hgk⟩ : ∃ z, z = w5.heap.size := ⟨_, rfl⟩
 rw [← hgk] at HK6 ⊢
 clear hw6 hb6 hk6 hgk c29 HG5
 go_wp2_with fail
 obtain ⟨Om6, hm6⟩ := HG6.out.st
 refine (psorted_any w6 hm6.map (by have := hm6.small; omega) m6 (by have := HC.out; omega) HC.out.2.2.2.2.2.1 gk (HK6.out.cell? 0) HK6.out.lt).mono ?_
 rintro x w7 ⟨v7, rfl, hown, hb7⟩
 obtain ⟨Av, cv, Lv, rfl, hG7, hAv⟩ := HG6.out.row hb7 hown
 have HG7 : Kp _ := ⟨hG7⟩
 have HAv : Kp _ := ⟨hAv⟩
 obtain ⟨l, hl⟩ : ∃ l, l = presL F m6 := ⟨_, rfl⟩
 have HLl : Kp (l = presL F m6) := ⟨hl⟩
 obtain ⟨M, hM⟩ : ∃ M, M = l.length := ⟨_, rfl⟩
 rw [← hl] at HAv ⊢
 rw [← hM] at HAv ⊢
 have HM : Kp (M = l.length ∧ M ≤ m6) := ⟨hM, by rw [hM, hl]; unfold presL; exact Nat.le_trans (List.length_filter_le _ _) (by rw [List.length_range]; exact Nat.le_refl _)⟩
 have hM63 : (M : Int) < 100000 := by have h1 := HM.out.2; have h2 := HC.out.2.2.2.2.1; omega
 clear hl hM hown hb7 hG7 hAv hm6 HG6 HK6
 go_wp2
 have HI0 : Kp (AudI w0 w w7 k Ox hs g gm nm s ks rc rn q lim po F N m6 l T' gD g4 g2 cap A2 n2 c2 rest Lv 0) := ⟨⟨t, rn.su, F, hs, HG7.out, by rw [List.drop_zero, HLl.out]; exact HC.out.2.2.2.2.2.2.2.2.1, fun _ _ => rfl, HC.out.2.2.1, H4s.out.2.2.2, HC.out.2.2.2.2.2.2.2.1, fun _ h => h⟩⟩
 clear HG7
 go_loopg [5, 32] M (fun gk v5 v32 wr => ∃ j : Nat, j + gk = M ∧ v5 = .nilIface ∧ v32 = .int .i64 j ∧ Kp (AudI w0 w wr k Ox hs g gm nm s ks rc rn q lim po F N m6 l T' gD g4 g2 cap A2 n2 c2 rest Lv j))
 case atStart => exact ⟨0, by omega, rfl, rfl, HI0⟩
 case round =>
  clear HI0
  obtain ⟨j, hj, rfl, rfl, HI⟩ := hrel
  cases gk with
  | zero =>
   obtain rfl : j = M := by omega
   have hlt : ¬ ((j : Int) < (j : Int)) := by omega
   obtain ⟨tj, suj, Fj, hsj, hG, hA, hFj, hsl, hwd, hLw, hsub⟩ := HI.out.is
   rw [List.drop_of_length_le (by rw [← HM.out.1]; exact Nat.le_refl _), audO_nil] at hA
   have HT : Kp (T' = (tj, suj)) := ⟨(Option.some.inj hA).symm⟩
   have HGe : Kp _ := ⟨hG⟩
   have HSu : Kp (suj.length = m6 ∧ (∀ d ∈ suj, d.length = 32) ∧ ∀ y ∈ hs, y ∈ hsj) := ⟨hsl, hwd, hsub⟩
   have B4 : Kp _ := ⟨hG.blk (g4, tS, rcL rn.num rn.blk A2 n2 c2 (some ⟨gD, 0, none⟩) m6 cap) (by simp)⟩
   have B2 : Kp _ := ⟨hG.blk (g2, tS, rcZ) (by simp)⟩
   clear hG hA hFj hsl hwd hLw hsub HI
   go_wp2_with (first
    | (with_reducible refine wpList_loadAll (o := ⟨some 111, _, _, _, _, _⟩) rwSeal rfl (.tmp 4) rfl rfl B4.out rfl ?_)
    | (with_reducible refine wpList_storeAll (o := ⟨none, _, _, _, _, _⟩) (vs := rcL rn.num rn.blk A2 n2 c2 (some ⟨gD, 0, none⟩) m6 cap) rwSeal rfl (.tmp 2) (.tmp 111) rfl rfl B2.out rfl rfl (rcL_one _ _ _ _ _ _ _ _) rfl ?_))
   intro w9 hk9 ho9
   have HK9 : Kp _ := ⟨hk9⟩
   have HG9 : Kp _ := ⟨GuW.set (L1 := [_, _]) HGe.out ho9 hk9⟩
   clear hk9 ho9 HGe B4 B2
   go_wp2
   try simp only [Exit.noGoto]
   refine ret_two rfl rwSeal rfl rfl HK9.out rfl rfl ?_
   obtain ⟨Om9, hm9⟩ := HG9.out.st
   have bD := HG9.out.blk (gD, tD, cells8 suj.flatten ++ rest) (by simp)
   have hfl := flat9_len suj HSu.out.2.1
   rw [cells8_length, HSu.out.1] at hfl
   have hm6s := HC.out.2.2.2.2.1
   have hBs : Bs w9 w9.heap.size (some ⟨gD, 0, none⟩) (32 * m6) (32 * m6) suj.flatten := ⟨by omega, Nat.le_refl _, by simp only [maxLen]; omega, (fun h => by cases h), fun _ => ⟨gD, 0, rfl, bD.lt, fun z hz => by
    rw [bD.cell?, Nat.zero_add, List.getElem?_append_left (by rw [cells8_length]; exact hz), cells8_at _ _ hz]⟩⟩
   have hd9 := hm9.disown (gD := gD) (.inr ⟨(gD, tD, cells8 suj.flatten ++ rest), by simp, rfl⟩) (fun z hz => ⟨.inl hz, fun e => HG9.out.old z hz (gD, tD, cells8 suj.flatten ++ rest) (by simp) e.symm⟩) hBs (by omega)
   rw [HT.out]
   refine ⟨A2, n2, c2, some ⟨gD, 0, none⟩, cap, _, _, Fj, rfl, fun y hy => List.mem_cons_of_mem _ (HSu.out.2.2 y hy), ⟨H4s.out.2.1, H4s.out.2.2.1, List.mem_cons_of_mem _ (HSu.out.2.2 _ H4s.out.1), by simp, HSu.out.1, HCp.out.1, HCp.out.2, (fun h => by cases h), HSu.out.2.1, by omega⟩, hd9.more (by have := HM.out.2; omega), HG9.out.keep⟩
  | succ gO =>
   have hlt : (j : Int) < (M : Int) := by omega
   have hjl : j < l.length := by rw [← HM.out.1]; omega
   obtain ⟨gv, cs, hAv', hmem, hcs⟩ := HAv.out j (by omega)
   subst hAv'
   obtain ⟨tj, suj, Fj, hsj, hG, hA, hFj, hsl, hwd, hLw, hsub⟩ := HI.out.is
   obtain ⟨i, hi⟩ : ∃ i, i = l[j] := ⟨_, rfl⟩
   have hdr : l.drop j = i :: l.drop (j + 1) := by rw [hi]; exact List.drop_eq_getElem_cons hjl
   have himem : i ∈ l := by rw [hi]; exact List.getElem_mem hjl
   rw [HLl.out] at himem
   obtain ⟨him, his⟩ := presL_mem.1 himem
   obtain ⟨x, hx⟩ := Option.isSome_iff_exists.1 his
   rw [hdr] at hA hFj
   have hFx : Fj i = some x := by rw [hFj i (by simp), hx]
   have q34 : wr.cell? ⟨gv, j, none⟩ = some (.int .i64 (i : Int)) := by
    have bv := hG.blk (gv, 3, cs) (by simp [hmem])
    rw [bv.cell? j, hcs, List.getElem?_map, List.getElem?_eq_getElem hjl, hi]; rfl
   obtain ⟨tP, dP, hP, hAr⟩ : ∃ tP dP, audP ks rn (partB N i) tj x.rd z32 = some (tP, x.wr, dP) ∧ audO ks rn N F (l.drop (j + 1)) tP (suj.set i dP) = some T' := by
    cases hP : audP ks rn (partB N i) tj x.rd z32 with
    | none => rw [audO_lost hx hP] at hA; cases hA
    | some y =>
     obtain ⟨tP, a, dP⟩ := y
     by_cases e : a = x.wr
     ·subst e; exact ⟨tP, dP, rfl, by rw [← audO_cons hx hP]; exact hA⟩
     ·rw [audO_bad hx hP e] at hA; cases hA
   have HPr : Kp (audP ks rn (partB N i) tj x.rd z32 = some (tP, x.wr, dP) ∧ audO ks rn N F (l.drop (j + 1)) tP (suj.set i dP) = some T') := ⟨hP, hAr⟩
   have HX : Kp (Fj i = some x ∧ (∀ z ∈ l.drop (j + 1), Fj z = F z) ∧ x.rd.length = 32 ∧ x.wr.length = 32) := ⟨hFx, fun z hz => hFj z (by simp [hz]), by
    obtain ⟨Omx, hmx⟩ := hG.st
    exact ⟨(hmx.pts i x hFx).2.2.2.2.1, (hmx.pts i x hFx).2.2.2.2.2⟩⟩
   have HSu : Kp (suj.length = m6 ∧ (∀ d ∈ suj, d.length = 32) ∧ (∀ y ∈ hs, y ∈ hsj) ∧ Lw tj ∧ i < m6) := ⟨hsl, hwd, hsub, hLw, him⟩
   have hi9 : i ≤ 1000 := by have := HC.out.2.2.2.2.1; omega
   have HOk : Kp (okI (i : Int)) := ⟨WalkArith.wf_i64 (by omega)⟩
   have HNd : Kp (i ∉ l.drop (j + 1)) := ⟨fun h9 => by
    have hnd : l.Nodup := by rw [HLl.out]; unfold presL; exact List.nodup_range.filter _
    have h1 := (List.drop_sublist j l).nodup hnd
    rw [hdr] at h1
    exact (List.nodup_cons.1 h1).1 h9⟩
   obtain ⟨Omr, hmr⟩ := hG.st
   have HMp : Kp _ := ⟨hmr.map⟩
   have HGp : Kp ((mpF Fj (i : Int)).getD (.pointer none) = .pointer (some ⟨x.p, 0, none⟩)) := ⟨by rw [mpF_at, hFx]; rfl⟩
   obtain ⟨Ax, nx, cx, Dx, mx, ex, Ay, ny, cy, Dy, my, ey, hM, _, _⟩ := hmr.mem
   have c29 : wr.cell? ⟨g, 29, none⟩ = some (.map (some gm)) := by rw [hM.cell? 29]; exact mm_at HKy.out rfl rfl 2
   obtain ⟨Lr, hLr⟩ : ∃ Lr, Lr = (gD, tD, cells8 suj.flatten ++ rest) :: (g4, tS, rcL rn.num rn.blk A2 n2 c2 (some ⟨gD, 0, none⟩) m6 cap) :: (g2, tS, rcZ) :: Lv := ⟨_, rfl⟩
   have HLr : Kp _ := ⟨hLr⟩
   rw [← hLr] at hG
   have HG : Kp _ := ⟨hG⟩
   clear hLr hG hA hFj hsl hwd hLw hsub HI hi hdr himem his hx hFx hP hAr hmr hM hmem hcs hjl him
   go_wp2_with (first
    | ((with_reducible refine wpList_lookI (o := ⟨some 41, _, _, _, _, _⟩) HMp.out keyI rfl (.tmp 39) (.tmp 40) rfl Tryz.underlying122 (z := .pointer none) (by kernel_rfl) rfl (i : Int) HOk.out rfl ?_); rw [HGp.out])
    | (with_reducible refine wpList_build0 (o := ⟨some 42, _, _, _, _, _⟩) rfl rfl (cs := cells8 z32) dig_built0 ?_)
    | (with_reducible refine wpList_alloc (o := ⟨some 9, _, _, _, _, _⟩) tyDig rfl rfl ?_))
   intro w8 hk8 hb8 hs8
   have HG8 : Kp _ := ⟨HG.out.new hb8 hk8 (Nat.le_refl _)⟩
   have HK8 : Kp _ := ⟨hk8⟩
   obtain ⟨g9, hg9⟩ : ∃ z, z = wr.heap.size := ⟨_, rfl⟩
   rw [← hg9] at HG8 HK8 ⊢
   clear hk8 hb8 hs8 hg9 HG q34 c29 HMp HGp HOk
   go_wp2_with (with_reducible refine wpList_storeAll (o := ⟨none, _, _, _, _, _⟩) (vs := cells8 z32) rwDig rfl (.tmp 9) (.tmp 42) rfl rfl HK8.out rfl z32c_len (cells8_one _) rfl ?_)
   intro w9 hk9 ho9
   have HG9 : Kp _ := ⟨GuW.set (L1 := []) HG8.out ho9 hk9⟩
   clear hk9 ho9 HG8 HK8
   go_upto_region 8 with fail
   go_cut [10] from 43 to 51 (fun v10 wx => ∃ g1 gf gp, v10 = .func (.func 142) #[] #[.pointer (some ⟨g1, 0, none⟩), .pointer (some ⟨gf, 0, none⟩)] ∧ Kp (GuW w0 w wx (k + 16 * j) tj Ox hsj g gm nm s ks rc rn q lim po Fj ((g1, 119, stL s) :: (gf, 231, [.slice (some ⟨gp, 0, none⟩) 2 2]) :: (gp, 171, [.pointer (some ⟨x.p, 0, none⟩), .pointer (some ⟨g9, 0, none⟩)]) :: (g9, tD, cells8 z32) :: Lr)))
   case first =>
    have HG : Kp _ := ⟨HG9.out⟩
    clear HG9
    go_wp2_with fail
    refine wp_region_any (by kernel_rfl) ?_
    change wpAny _ _ _ _ _ _ _ w9.drew
    replace HG : Kp _ := ⟨HG.out.drew⟩
    generalize w9.drew = wS at *
    refine wT 0 43 ?_ rfl ?_
    try simp only [Act.put, sA, sB, sC]
    refine wT 1 44 ?_ rfl ?_
    try simp only [Act.put, sA, sB, sC]
    refine wT 2 45 ?_ rfl ?_
    try simp only [Act.put, sA, sB, sC]
    refine wT 4 47 ?_ rfl ?_
    try simp only [Act.put, sA, sB, sC]
    refine wT 5 48 ?_ rfl ?_
    try simp only [Act.put, sA, sB, sC]
    refine wT 6 49 ?_ rfl ?_
    try simp only [Act.put, sA, sB, sC]
    repeat' (first
     | ((with_reducible change ite (Region.wanted ⟨some 46, _, _, _, _, _⟩ _ = true) _ _); obtain ⟨Om9, hm9⟩ := HG.out.st; obtain ⟨A9, n9, c9, D9, m9, e9, A8, n8, c8, D8, m8, e8, hMx, hL3, hL4⟩ := hm9.mem; refine step_load rwSto rfl (.tmp 45) rfl rfl hMx (by rw [mmL_length HKy.out rfl rfl]; decide) (mm_store HKy.out) ?_; clear hMx hL3 hL4 hm9; refine hK _ _ ?_; clear hK K; (try simp only [Act.put, sA, sB, sC]))
     | ((with_reducible change ite (Region.wanted ⟨some 50, _, _, _, _, _⟩ _ = true) _ _); go_simp; have hb' : Below wS.heap.size wS (wS.alloc (.cells #[.pointer (some ⟨x.p, 0, none⟩), .pointer (some ⟨g9, 0, none⟩)] 171)) := (Below.refl _ _).alloc (Nat.le_refl _) _; replace HG : Kp _ := ⟨HG.out.new hb' (Blk.new wS _ _) (Nat.le_refl _)⟩; obtain ⟨gp, hgp⟩ : ∃ z, z = wS.heap.size := ⟨_, rfl⟩; rw [← hgp] at HG ⊢; clear hb' hgp; refine hK _ _ ?_; clear hK K; (try simp only [Act.put, sA, sB, sC]); generalize wS.alloc (.cells #[.pointer (some ⟨x.p, 0, none⟩), .pointer (some ⟨g9, 0, none⟩)] 171) = wZ at *; obtain ⟨wS, rfl⟩ : ∃ x, x = wZ := ⟨_, rfl⟩)
     | ((with_reducible change ite (Region.wanted ⟨some 51, _, _, _, _, _⟩ _ = true) _ _); go_simp; refine (folder_any (s := s) (some ⟨gp, 0, none⟩) 2 2 wS).mono ?_; rintro e wZ ⟨g1, gf, rfl, hg1, hg2, hk1, hk2, hb'⟩; replace HG : Kp _ := ⟨HG.out.newS (Ln := [(g1, 119, stL s), (gf, 231, [.slice (some ⟨gp, 0, none⟩) 2 2])]) hb' (two_new hk1 hk2 hg1 hg2) (by simp; omega)⟩; clear hk1 hk2 hg1 hg2 hb'; refine hK _ _ ?_; clear hK K; (try simp only [Act.put, sA, sB, sC]); obtain ⟨wS, rfl⟩ : ∃ x, x = wZ := ⟨_, rfl⟩; refine wT 9 10 ?_ rfl ?_; (try simp only [Act.put, sA, sB, sC]))
     | (refine rD [3, 7] ?_; refine aS 46 50 rfl rfl (fun K hK => ?_) fun K hK => ?_)
     | (refine rD [3] ?_; refine aR 46 rfl fun K hK => ?_)
     | (refine rD [7] ?_; refine aR 50 rfl fun K hK => ?_)
     | (refine rD [8] ?_; refine aR 51 rfl fun K hK => ?_)
     | (refine wpAny_done (by decide +kernel) ?_ _; go_wp2_with fail; go_meet; case rel => exact ⟨g1, gf, gp, rfl, HG⟩)
     | fail)
   case rest =>
    obtain ⟨g1, gf, gp, rfl, HG⟩ := hcut
    clear HG9
    obtain ⟨u, hu⟩ : ∃ u : Nat, u = i * 16 := ⟨_, rfl⟩
    have hui : (i : Int) * 16 = (u : Int) := by omega
    have hu9 : u ≤ 16000 := by omega
    obtain ⟨top, htop⟩ : ∃ top, top = min (u + 16) N := ⟨_, rfl⟩
    have HTop : Kp (top = min (u + 16) N ∧ u = i * 16) := ⟨htop, hu⟩
    have htop9 : top ≤ u + 16 := by rw [htop]; exact Nat.min_le_left _ _
    have htopN : top ≤ N := by rw [htop]; exact Nat.min_le_right _ _
    obtain ⟨cnt, hcnt⟩ : ∃ c, c = top - u := ⟨_, rfl⟩
    have HCn : Kp (cnt = top - u ∧ top ≤ u + 16 ∧ top ≤ N ∧ u ≤ 16000) := ⟨hcnt, htop9, htopN, hu9⟩
    have HJ0 : Kp (AudJ w0 w wc (k + 16 * j) Ox hsj g gm nm s ks rc rn q lim po Fj i x (some (tP, x.wr, dP)) g1 gf gp g9 Lr u u top) := ⟨⟨tj, x.rd, z32, hsj, by
     rw [Nat.sub_self, Nat.add_zero]
     exact HG.out.congrF (funext fun y => by
      by_cases e : y = i
      ·rw [if_pos e, e, HX.out.1]
      ·rw [if_neg e]), by
     rw [← HPr.out.1, partB_range, HTop.out.1, HTop.out.2, show (i + 1) * 16 = i * 16 + 16 by omega], HX.out.2.2.1, z32_length, HSu.out.2.2.2.1, fun _ h => h⟩⟩
    clear HG htop hcnt htop9 htopN hu
    go_wp2
    go_loopg [5, 11] cnt (fun g3 v5 v11 wx => ∃ b : Nat, b + g3 = cnt ∧ v5 = .nilIface ∧ v11 = .int .i64 ((u + b : Nat) : Int) ∧ Kp (AudJ w0 w wx (k + 16 * j) Ox hsj g gm nm s ks rc rn q lim po Fj i x (some (tP, x.wr, dP)) g1 gf gp g9 Lr u (u + b) top))
    case atStart => exact ⟨0, by omega, rfl, rfl, HJ0⟩
    case round =>
     clear HJ0
     obtain ⟨b, hb, rfl, rfl, HJ⟩ := hrel
     obtain ⟨a, ha⟩ : ∃ a, a = u + b := ⟨_, rfl⟩
     rw [← ha] at HJ ⊢
     have HAb : Kp (a = u + b ∧ b + gk = cnt) := ⟨ha, hb⟩
     have ha9 : a ≤ 16016 := by have := HCn.out; omega
     clear ha hb
     obtain ⟨t2, rd, d, hs2, hG, hR, hrd, hdl, hLw, hsub⟩ := HJ.out.is
     obtain ⟨Omc, hmc⟩ := hG.st
     obtain ⟨A5, n5, c5, D5, m5, e5, A6, n6, c6, D6, m7, e6, hM, _, _⟩ := hmc.mem
     have c20 : wr.cell? ⟨g, 20, none⟩ = some (.int .i64 (N : Int)) := by rw [hM.cell? 20, ← HC.out.1]; exact mm_cn HKy.out rfl 1 (by decide)
     have HG : Kp _ := ⟨hG⟩
     have HR : Kp (audP ks rn (List.range' a (top - a)) t2 rd d = some (tP, x.wr, dP) ∧ rd.length = 32 ∧ d.length = 32 ∧ Lw t2 ∧ ∀ y ∈ hsj, y ∈ hs2) := ⟨hR, hrd, hdl, hLw, hsub⟩
     clear hM hmc hG hR hrd hdl hLw hsub HJ
     obtain ⟨i1, hi1⟩ : ∃ z : Nat, z = i + 1 := ⟨_, rfl⟩
     have e1 : (i : Int) + 1 = (i1 : Int) := by omega
     have hi19 : i1 ≤ 1001 := by omega
     obtain ⟨v16, hv16⟩ : ∃ z : Nat, z = u + 16 := ⟨_, rfl⟩
     have HV : Kp (v16 = u + 16) := ⟨hv16⟩
     have e2 : (i1 : Int) * 16 = (v16 : Int) := by have := HTop.out.2; omega
     have hv169 : v16 ≤ 16016 := by have := HCn.out; omega
     have hN63 : (N : Int) ≤ 4096 := by have := HC.out.2.1; omega
     have hmin : min (v16 : Int) (N : Int) = (top : Int) := by
      have h1 := HTop.out.1
      have h2 := HV.out
      omega
     clear hi1 hv16
     cases gk with
     | zero =>
      have hge : ¬ (a < top) := by have h1 := HAb.out; have h2 := HCn.out; omega
      have hlt : ¬ ((a : Int) < (top : Int)) := by omega
      have hR := HR.out.1
      rw [show top - a = 0 by omega, List.range'_zero, audP_nil] at hR
      obtain ⟨rfl, rfl, rfl⟩ : t2 = tP ∧ rd = x.wr ∧ d = dP := by
       have h9 := Option.some.inj hR
       exact ⟨congrArg Prod.fst h9, congrArg (fun z => z.2.1) h9, congrArg (fun z => z.2.2) h9⟩
      clear hR hge hui
      go_upto_region 16 with fail
      clear c20 e1 e2 hmin hlt
      go_cut [97] from 89 to 97 (fun v97 wy => v97 = .bool false ∧ Kp (GuW w0 w wy (k + 16 * j + (a - u)) t2 Ox hs2 g gm nm s ks rc rn q lim po (fun y => if y = i then some ⟨x.p, x.wr, x.wr⟩ else Fj y) ((g1, 119, stL s) :: (gf, 231, [.slice (some ⟨gp, 0, none⟩) 2 2]) :: (gp, 171, [.pointer (some ⟨x.p, 0, none⟩), .pointer (some ⟨g9, 0, none⟩)]) :: (g9, tD, cells8 d) :: Lr)))
      case first =>
       obtain ⟨Omp, hmp⟩ := HG.out.st
       have HP : Kp (Blk wr x.p 184 (cells8 x.wr ++ cells8 x.wr)) := ⟨(hmp.pts i ⟨x.p, x.wr, x.wr⟩ (by simp)).2.2.2.1⟩
       have HXl : Kp (x.wr.length = 32 ∧ (cells8 x.wr).length = 32) := ⟨HX.out.2.2.2, by rw [cells8_length]; exact HX.out.2.2.2⟩
       clear hmp
       go_wp2_with fail
       refine wp_region_any (by kernel_rfl) ?_
       change wpAny _ _ _ _ _ _ _ wr.drew
       replace HG : Kp _ := ⟨HG.out.drew⟩
       replace HP : Kp _ := ⟨HP.out.drew⟩
       generalize wr.drew = wS at *
       refine wT 0 89 ?_ rfl ?_
       try simp only [Act.put, sA, sB, sC]
       refine wT 1 90 ?_ rfl ?_
       try simp only [Act.put, sA, sB, sC]
       refine wT 2 91 ?_ rfl ?_
       try simp only [Act.put, sA, sB, sC]
       refine wT 4 93 ?_ rfl ?_
       try simp only [Act.put, sA, sB, sC]
       refine wT 5 94 ?_ rfl ?_
       try simp only [Act.put, sA, sB, sC]
       refine wT 6 95 ?_ rfl ?_
       try simp only [Act.put, sA, sB, sC]
       repeat' (first
        | ((with_reducible change ite (Region.wanted ⟨some 92, _, _, _, _, _⟩ _ = true) _ _); refine step_load rwDig rfl (.tmp 91) rfl rfl HP.out (by rw [List.length_append, HXl.out.2]; decide) (vs := cells8 x.wr) (by rw [List.drop_zero, List.take_left' HXl.out.2]) ?_; refine hK _ _ ?_; clear hK K; (try simp only [Act.put, sA, sB, sC]); (try (refine wpAny_take (i := 8) (oi := ⟨some 97, _, _, _, _, _⟩) (v := _) rfl (by kernel_rfl) (by kernel_rfl) (by decide +kernel) (fun _ _ _ h => h) (yields_neq (by rfl) eqDig (by kernel_rfl) (.tmp 92) (.tmp 96) rfl x.wr x.wr rfl rfl HXl.out.1 HXl.out.1 (b := false) (by simp)) ?_; (try simp only [Act.put, sA, sB, sC]))))
        | ((with_reducible change ite (Region.wanted ⟨some 96, _, _, _, _, _⟩ _ = true) _ _); refine step_load rwDig rfl (.tmp 95) rfl rfl HP.out (by rw [List.length_append, HXl.out.2]; decide) (vs := cells8 x.wr) (by rw [List.drop_left' HXl.out.2, List.take_of_length_le (Nat.le_of_eq HXl.out.2)]) ?_; refine hK _ _ ?_; clear hK K; (try simp only [Act.put, sA, sB, sC]); (try (refine wpAny_take (i := 8) (oi := ⟨some 97, _, _, _, _, _⟩) (v := _) rfl (by kernel_rfl) (by kernel_rfl) (by decide +kernel) (fun _ _ _ h => h) (yields_neq (by rfl) eqDig (by kernel_rfl) (.tmp 92) (.tmp 96) rfl x.wr x.wr rfl rfl HXl.out.1 HXl.out.1 (b := false) (by simp)) ?_; (try simp only [Act.put, sA, sB, sC]))))
        | (refine rD [3, 7] ?_; refine aS 92 96 rfl rfl (fun K hK => ?_) fun K hK => ?_)
        | (refine rD [3] ?_; refine aR 92 rfl fun K hK => ?_)
        | (refine rD [7] ?_; refine aR 96 rfl fun K hK => ?_)
        | (refine wpAny_done (by decide +kernel) ?_ _; go_wp2_with fail; go_meet; case rel => exact ⟨rfl, HG⟩)
        | fail)
      case rest =>
       obtain ⟨rfl, HG9⟩ := hcut
       clear HG
       have B4 := HG9.out.blk (g4, tS, rcL rn.num rn.blk A2 n2 c2 (some ⟨gD, 0, none⟩) m6 cap) (by rw [HLr.out]; simp)
       have q43 : wc.cell? ⟨g4, 3, none⟩ = some (.slice (some ⟨gD, 0, none⟩) m6 cap) := B4.cell? 3
       have BD : Kp (Blk wc gD tD (cells8 suj.flatten ++ rest)) := ⟨HG9.out.blk (gD, tD, cells8 suj.flatten ++ rest) (by rw [HLr.out]; simp)⟩
       have B9 : Kp (Blk wc g9 tD (cells8 d)) := ⟨HG9.out.blk (g9, tD, cells8 d) (by simp)⟩
       have HDl : Kp ((cells8 d).length = 32 ∧ i * 32 + 32 ≤ (cells8 suj.flatten ++ rest).length) := ⟨by rw [cells8_length]; exact HR.out.2.2.1, by
        have h1 := flat9_len suj HSu.out.2.1
        have h2 := HSu.out.2.2.2.2
        rw [HSu.out.1] at h1
        rw [List.length_append, h1]; omega⟩
       have hlt2 : (i : Int) < (m6 : Int) := by have := HSu.out.2.2.2.2; omega
       clear B4
       go_upto_region 18 with fail
       go_wp2_with (first
        | (with_reducible refine wpList_loadAll (o := ⟨some 104, _, _, _, _, _⟩) rwDig rfl (.tmp 9) rfl rfl B9.out HDl.out.1 ?_)
        | (with_reducible refine wpList_store (o := ⟨none, _, _, _, _, _⟩) (vs := cells8 d) (off := i * 32) rwDig rfl (.tmp 105) (.tmp 104) rfl rfl rfl BD.out HDl.out.1 HDl.out.2 (cells8_one _) ?_))
       intro w9 hk9 ho9
       have hG9 := HG9.out.pop.pop.pop.pop
       rw [HLr.out] at hG9
       have HG10 : Kp _ := ⟨GuW.set (L1 := []) hG9 ho9 hk9⟩
       clear hk9 ho9 hG9 HG9 BD B9 q43 hlt2
       go_wp2
       go_roundg gO
       case measure => omega
       case rel =>
        refine ⟨j + 1, by omega, rfl, by go_num, ⟨⟨t2, suj.set i d, fun y => if y = i then some ⟨x.p, x.wr, x.wr⟩ else Fj y, hs2, ?_, HPr.out.2, fun z hz => ?_, by rw [List.length_set]; exact HSu.out.1, fun y hy => (List.mem_or_eq_of_mem_set hy).elim (HSu.out.2.1 y) (fun e => by rw [e]; exact HR.out.2.2.1), HR.out.2.2.2.1, fun y hy => HR.out.2.2.2.2 y (HSu.out.2.2.1 y hy)⟩⟩⟩
        ·have h1 := HG10.out
         rw [List.nil_append, ← List.append_assoc, flat_set suj i HSu.out.2.1 (by rw [HSu.out.1]; exact HSu.out.2.2.2.2)] at h1
         exact h1.more (by have h2 := HAb.out; have h3 := HCn.out; omega)
        ·have hne : ¬ z = i := fun e => HNd.out (e ▸ hz)
         simp only [hne, if_false]
         exact HX.out.2.1 z hz
     | succ g3 =>
      have hge : a < top := by have h1 := HAb.out; have h2 := HCn.out; omega
      have hlt : (a : Int) < (top : Int) := by omega
      clear hge hui
      go_upto_region 12 with fail
      clear c20 e1 e2 hmin hlt
      obtain ⟨s2, hs2'⟩ : ∃ z, z = slotI rn.sl (a : Int) := ⟨_, rfl⟩
      have HS : Kp (s2 = slotI rn.sl (a : Int)) := ⟨hs2'⟩
      have hs29 : s2 ≤ 1 := by rw [hs2']; exact slotI_le _ _
      clear hs2'
      obtain ⟨HL, HRn⟩ : Kp ((readW t2 ((a : Int), (s2 : Int))).lost = false) ∧ Kp (audP ks rn (List.range' (a + 1) (top - (a + 1))) (readW t2 ((a : Int), (s2 : Int))) (addL rd (ofL ks (a : Int) (readLw t2 ((a : Int), (s2 : Int))))) (addL d (ofL ks (a : Int) (readLw t2 ((a : Int), (s2 : Int))))) = some (tP, x.wr, dP)) := by
       have h1 := HR.out.1
       rw [show top - a = (top - (a + 1)) + 1 by have h2 := HAb.out; have h3 := HCn.out; omega, List.range'_succ] at h1
       rw [HS.out]
       cases e : (readW t2 ((a : Int), (slotI rn.sl (a : Int) : Int))).lost with
       | true => rw [audP_lost e] at h1; cases h1
       | false => exact ⟨⟨rfl⟩, ⟨by rw [← audP_cons e]; exact h1⟩⟩
      have HNb : Kp ((readLw t2 ((a : Int), (s2 : Int))).length ≤ 500000 ∧ Lw (readW t2 ((a : Int), (s2 : Int)))) := ⟨(HR.out.2.2.2.1.read _).2, (HR.out.2.2.2.1.read _).1⟩
      have HPre : Kp (k + 16 * j + (a - u) ≤ 1000000 ∧ okP ((a : Int), (s2 : Int)) ∧ (-9223372036854775808 ≤ (a : Int) ∧ (a : Int) < 9223372036854775808)) := ⟨by have h1 := HC.out.2.2.2.2.2.2.1; have h2 := HM.out.2; have h3 := HAb.out; have h4 := HCn.out; omega, ⟨WalkArith.wf_i64 (by omega), WalkArith.wf_i64 (by omega)⟩, by omega⟩
      go_cut [12, 13] from 68 to 81 (fun v12 v13 wy => ∃ A n c, v12 = .slice A n c ∧ v13 = .nilIface ∧ Kp (n ≤ 500000) ∧ Kp (GuW w0 w wy (k + 16 * j + (a - u) + 1) (readW t2 ((a : Int), (s2 : Int))) Ox ((A, n, c, readLw t2 ((a : Int), (s2 : Int))) :: hs2) g gm nm s ks rc rn q lim po (fun y => if y = i then some ⟨x.p, rd, x.wr⟩ else Fj y) ((g1, 119, stL s) :: (gf, 231, [.slice (some ⟨gp, 0, none⟩) 2 2]) :: (gp, 171, [.pointer (some ⟨x.p, 0, none⟩), .pointer (some ⟨g9, 0, none⟩)]) :: (g9, tD, cells8 d) :: Lr)))
      case first =>
       go_wp2_with fail
       refine wp_region_any (by kernel_rfl) ?_
       change wpAny _ _ _ _ _ _ _ wr.drew
       replace HG : Kp _ := ⟨HG.out.drew⟩
       generalize wr.drew = wS at *
       refine wT 0 68 ?_ rfl ?_
       try simp only [Act.put, sA, sB, sC]
       refine wT 1 69 ?_ rfl ?_
       try simp only [Act.put, sA, sB, sC]
       refine wT 2 70 ?_ rfl ?_
       try simp only [Act.put, sA, sB, sC]
       refine wT 4 72 ?_ rfl ?_
       try simp only [Act.put, sA, sB, sC]
       refine wT 5 73 ?_ rfl ?_
       try simp only [Act.put, sA, sB, sC]
       refine wT 6 74 ?_ rfl ?_
       try simp only [Act.put, sA, sB, sC]
       refine wT 7 75 ?_ rfl ?_
       try simp only [Act.put, sA, sB, sC]
       refine wT 9 77 ?_ rfl ?_
       try simp only [Act.put, sA, sB, sC]
       repeat' (first
        | ((with_reducible change ite (Region.wanted ⟨some 71, _, _, _, _, _⟩ _ = true) _ _); obtain ⟨Om9, hm9⟩ := HG.out.st; obtain ⟨A9, n9, c9, D9, m9, e9, A7, n7, c7, D7, m7, e7, hMx, hL3, hL4⟩ := hm9.mem; refine step_load rwSto rfl (.tmp 70) rfl rfl hMx (by rw [mmL_length HKy.out rfl rfl]; decide) (mm_store HKy.out) ?_; clear hMx hL3 hL4 hm9; refine hK _ _ ?_; clear hK K; (try simp only [Act.put, sA, sB, sC]))
        | ((with_reducible change ite (Region.wanted ⟨some 76, _, _, _, _, _⟩ _ = true) _ _); obtain ⟨Om9, hm9⟩ := HG.out.st; obtain ⟨A9, n9, c9, D9, m9, e9, A8, n8, c8, D8, m8, e8, hMx, hL3, hL4⟩ := hm9.mem; have H4 : Kp _ := ⟨hL4⟩; refine step_load rwSeal rfl (.tmp 75) rfl rfl hMx (by rw [mmL_length HKy.out rfl rfl]; decide) (mm_nowv HKy.out rfl rfl) ?_; clear hMx hL3 hL4 hm9; refine hK _ _ ?_; clear hK K; (try simp only [Act.put, sA, sB, sC]))
        | ((with_reducible change ite (Region.wanted ⟨some 78, _, _, _, _, _⟩ _ = true) _ _); go_simp; obtain ⟨Om9, hm9⟩ := HG.out.st; have hsa := slot_any rn A8 n8 c8 D8 m8 e8 (a : Int) wS (H4.out.rs hm9.st) HPre.out.2.2; rw [← HS.out] at hsa; refine hsa.mono ?_; rintro e wZ ⟨rfl, hb'⟩; replace HG : Kp _ := ⟨HG.out.grow hb'⟩; clear hsa hb' H4 hm9; refine hK _ _ ?_; clear hK K; (try simp only [Act.put, sA, sB, sC]); obtain ⟨wS, rfl⟩ : ∃ x, x = wZ := ⟨_, rfl⟩)
        | ((with_reducible change ite (Region.wanted ⟨some 79, _, _, _, _, _⟩ _ = true) _ _); go_simp; obtain ⟨Om9, hm9⟩ := HG.out.st; refine (sread_any hm9.st HPre.out.1 (a : Int) (s2 : Int) HPre.out.2.1 HL.out).mono ?_; rintro e wZ ⟨A, n, c, rfl, h9, k9⟩; have HN : Kp (n ≤ 500000) := ⟨by have h1 := (h9.held (A := A) (n := n) (c := c) (l := readLw t2 ((a : Int), (s2 : Int))) (by simp)).1.len; have h2 := HNb.out.1; omega⟩; replace HG : Kp _ := ⟨HG.out.step (hm9.keep h9 k9 (fun _ h => List.mem_cons_of_mem _ h)) (k9.less fun z hz => (hm9.oth z hz).1)⟩; clear h9 k9 hm9; refine hK _ _ ?_; clear hK K; (try simp only [Act.put, sA, sB, sC]); obtain ⟨wS, rfl⟩ : ∃ x, x = wZ := ⟨_, rfl⟩; refine wT 12 67 ?_ rfl ?_; (try simp only [Act.put, sA, sB, sC]); refine wT 13 80 ?_ rfl ?_; (try simp only [Act.put, sA, sB, sC]); refine wT 14 81 ?_ rfl ?_; (try simp only [Act.put, sA, sB, sC]); refine wT 15 12 ?_ rfl ?_; (try simp only [Act.put, sA, sB, sC]); refine wT 16 13 ?_ rfl ?_; (try simp only [Act.put, sA, sB, sC]))
        | (refine rD [3, 8] ?_; refine aS 71 76 rfl rfl (fun K hK => ?_) fun K hK => ?_)
        | (refine rD [3, 10] ?_; refine aS 71 78 rfl rfl (fun K hK => ?_) fun K hK => ?_)
        | (refine rD [3] ?_; refine aR 71 rfl fun K hK => ?_)
        | (refine rD [8] ?_; refine aR 76 rfl fun K hK => ?_)
        | (refine rD [10] ?_; refine aR 78 rfl fun K hK => ?_)
        | (refine rD [11] ?_; refine aR 79 rfl fun K hK => ?_)
        | (refine wpAny_done (by decide +kernel) ?_ _; go_wp2_with fail; go_meet; case rel => exact ⟨A, n, c, rfl, rfl, HN, HG⟩)
        | fail)
      case rest =>
       obtain ⟨A, n, c, rfl, rfl, HN, HG9⟩ := hcut
       clear HG
       go_wp2_with fail
       refine (gu_fold2 HG9.out (i := i) (x := ⟨x.p, rd, x.wr⟩) (by simp) HR.out.2.2.1 A n c _ (List.mem_cons_self) (by have := HN.out; omega) (a : Int)).mono ?_
       rintro y w9 ⟨rfl, hG9⟩
       have HG10 : Kp _ := ⟨hG9⟩
       clear hG9 HG9
       go_wp2
       go_roundg g3
       case measure => omega
       case rel =>
        have hab := HAb.out
        have e9 : u + (b + 1) = a + 1 := by omega
        refine ⟨b + 1, by omega, rfl, by rw [e9]; go_num, ⟨⟨readW t2 ((a : Int), (s2 : Int)), addL rd (ofL ks (a : Int) (readLw t2 ((a : Int), (s2 : Int)))), addL d (ofL ks (a : Int) (readLw t2 ((a : Int), (s2 : Int)))), (A, n, c, readLw t2 ((a : Int), (s2 : Int))) :: hs2, ?_, by rw [e9]; exact HRn.out, addL_length _ _, addL_length _ _, HNb.out.2, fun y hy => List.mem_cons_of_mem _ (HR.out.2.2.2.2 y hy)⟩⟩⟩
        rw [e9]
        refine (HG10.out.more (by have h3 := HCn.out; omega)).congrF (funext fun y => ?_)
        by_cases e : y = i
        ·simp only [e, if_true]
        ·simp only [e, if_false]
end
end Go.Proofs.YtcehkafddlfleaaGreatDoor
