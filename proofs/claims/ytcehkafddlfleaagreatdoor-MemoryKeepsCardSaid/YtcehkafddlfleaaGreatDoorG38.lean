/- 
    -/
import Derived.Test.YtcehkafddlfleaaGreatDoorG36
import Derived.Test.YtcehkafddlfleaaGreatDoorG05
namespace Go.Proofs.YtcehkafddlfleaaGreatDoor
open Go.RowKit
section
variable {P : Program} {w : World} {a : Act} {t : TypeId}
theorem ret_two {fn : Func} {R : Ending → World → Prop} {p q : Tmp} {d : TypeDesc} {n : Nat} (hr : fn.results = #[.cell p t, .tmp q]) (E : Rw P t d n) {g : Nat} {t' : TypeId} {cs : List Value} {v2 : Value} (hx : a.tmps.getD p undef = .pointer (some ⟨g, 0, none⟩)) (hq : a.tmps.getD q undef = v2) (hb : Blk w g t' cs) (hn : cs.length = n) (hd : a.defers = [])
  (h : R (.returned (.tuple #[.agg cs.toArray, v2])) w) : bodyPost P fn R .ret a w := by
 have hl := run_load_rw (w := w) E hb (off := 0) (by omega)
 simp only [Instr.loadAt, Instr.sureAddr, Sem.run_bind, Sem.run_pure, Result.andThen_ok] at hl
 have e : (cs.drop 0).take n = cs := by rw [List.drop_zero, List.take_of_length_le (by omega)]
 rw [e] at hl
 have hx' : a.tmps[p]?.getD undef = .pointer (some ⟨g, 0, none⟩) := by simpa using hx
 have hq' : a.tmps[q]?.getD undef = v2 := by simpa using hq
 exact bodyPost_ret (v := .tuple #[.agg cs.toArray, v2]) (by simp only [results, hr]; simp [hx', hq', asAddr, hl]) hd h
end
def decR (o : Option Rc) : Rc := match o with | some r => r | none => rc0
def decF (o : Option Rc) : Int := match o with | some _ => 0 | none => 5
theorem rg_of {w : World} {B : Nat} {A D : Option Addr} {n c m e : Nat} {r : Rc} (h : Rs w B A n c D m e r) : Rg r := ⟨h.num, h.su.wide⟩
theorem dec_no {key l : List UInt8} (h : ¬ IsEnc key l (readL l)) : decO key l = none := by
 rcases decO_read key l with ⟨h1, _⟩ | ⟨_, h2⟩
 ·exact h1
 ·exact absurd h2 h
theorem Ds.over {w w' : World} {B g n c num n2 c2 m e : Nat} {t : TypeId} {A A2 D : Option Addr} {blk : Int} {ds : List (List UInt8)} (h : Ds w B A n c ds) (ho : Only g w w') (hk : Blk w g t (rcL num blk A2 n2 c2 D m e)) : Ds w' B A n c ds :=
 ⟨h.len, h.cap, h.max, h.nil, h.wide, fun h0 => by
  obtain ⟨b, o, hA, hb, hc⟩ := h.cells h0
  refine ⟨b, o, hA, hb, fun i hi j u hu => ?_⟩
  rw [← hc i hi j u hu]
  refine World.cell?_of_block (w := w) (ho.block b fun e => ?_)
  have h1 := hc 0 (by omega) 0 _ (cells8_at _ 0 (by rw [h.wide _ (List.getElem_mem _)]; omega))
  rw [e, hk.cell?] at h1
  match o, h1 with
  | 0, h1 => simp at h1
  | 1, h1 => simp at h1
  | 2, h1 => simp at h1
  | 3, h1 => simp at h1
  | o + 4, h1 => simp at h1⟩
theorem Rs.over {w w' : World} {g n c num n2 c2 m e m2 e2 : Nat} {t : TypeId} {A A2 D D2 : Option Addr} {blk : Int} {r : Rc} (h : Rs w w.heap.size A n c D m e r) (ho : Only g w w') (hk : Blk w g t (rcL num blk A2 n2 c2 D2 m2 e2)) : Rs w' w'.heap.size A n c D m e r :=
 ⟨h.num, h.blk, (h.sl.over' ho hk).more (by rw [ho.size]; exact Nat.le_refl _), (h.su.over ho hk).more (by rw [ho.size]; exact Nat.le_refl _)⟩
theorem RsN.over {L : Nat} {w w' : World} {g n c num n2 c2 m e m2 e2 : Nat} {t : TypeId} {A A2 D D2 : Option Addr} {blk : Int} {r : Rc} (h : RsN L w A n c D m e r) (ho : Only g w w') (hk : Blk w g t (rcL num blk A2 n2 c2 D2 m2 e2)) : RsN L w' A n c D m e r := ⟨h.toRs.over ho hk, h.fa, h.fd⟩
set_option maxRecDepth 100000 in
set_option maxHeartbeats 4000000 in
theorem decode_any (key : List UInt8) (KA : Option Addr) (kn kc : Nat) (A : Option Addr) (n c : Nat) (l : List UInt8) (w : World) (hK : Bs w w.heap.size KA kn kc key) (ha : Bs w w.heap.size A n c l) (hkn : kn ≤ 524288) (hn : n ≤ 1000000) :
  Calls Tryz.prog 149 #[.slice KA kn kc, .slice A n c] w fun x w' => ∃ A' n' c' D m e, x = .returned (.tuple #[rcV (decR (decO key l)) A' n' c' D m e, .int .i64 (decF (decO key l))]) ∧ RsN w.heap.size w' A' n' c' D m e (decR (decO key l)) ∧ n' ≤ 1000000 ∧ m ≤ 1000000 ∧ Below w.heap.size w w' := by
 have HK : Kp _ := ⟨hK⟩
 have HA : Kp _ := ⟨ha⟩
 have HN : Kp _ := ⟨hn⟩
 have HKn : Kp _ := ⟨hkn⟩
 clear hK ha hn hkn
 go_enter Tryz.func149, Tryz.ntmps149
 go_wp2_with (with_reducible refine wpList_alloc (o := ⟨some 4, _, _, _, _, _⟩) tySeal rfl rfl ?_)
 intro w1 hk1 hb1 hs1
 have HK1 : Kp _ := ⟨HK.out.next hb1 (Nat.le_refl _)⟩
 have HA1 : Kp _ := ⟨HA.out.next hb1 (Nat.le_refl _)⟩
 have HKr : Kp _ := ⟨hk1⟩
 have HB1 : Kp _ := ⟨hb1⟩
 clear hk1 hb1 hs1 HK HA
 go_wp2_with fail
 refine (read_any A n c l w1 HA1.out HN.out).mono ?_
 rintro x w2 ⟨A2, n2, c2, D2, m2, e2, rfl, hr2, hn2, hm2, hb2⟩
 have HK2 : Kp _ := ⟨HK1.out.next hb2 (Nat.le_refl _)⟩
 have HA2 : Kp _ := ⟨HA1.out.next hb2 (Nat.le_refl _)⟩
 have HKr2 : Kp _ := ⟨HKr.out.below hb2 HKr.out.lt⟩
 have HB2 : Kp (Below w.heap.size w w2) := ⟨HB1.out.trans (hb2.mono HB1.out.size)⟩
 have HR2 : Kp _ := ⟨hr2.low HB1.out.size⟩
 have HN2 : Kp (n2 ≤ 1000000 ∧ m2 ≤ 1000000) := ⟨by have := HN.out; omega, by have := HN.out; omega⟩
 have HE : Kp (¬ IsEnc key l (readL l) → decO key l = none) := ⟨dec_no⟩
 have HI : Kp (Rg (readL l) → Rt (readL l) → encL key (readL l) = l → decO key l = some (readL l)) := ⟨fun h1 h2 h3 => decO_of key l _ ⟨h1, h2, h3⟩⟩
 clear hr2 hn2 hm2 hb2 HK1 HA1 HKr HB1
 generalize readL l = r at *
 go_wp2_with (with_reducible refine wpList_alloc (o := ⟨some 6, _, _, _, _, _⟩) tySeal rfl rfl ?_)
 intro w3 hk3 hb3 hs3
 have HK3 : Kp _ := ⟨hk3⟩
 have HB3 : Kp _ := ⟨hb3⟩
 clear hk3 hb3 hs3
 go_wp2_with (with_reducible refine wpList_storeAll (o := ⟨none, _, _, _, _, _⟩) (vs := rcL r.num r.blk A2 n2 c2 D2 m2 e2) rwSeal rfl (.tmp 6) (.tmp 10) rfl rfl HK3.out rfl rfl (rcL_one _ _ _ _ _ _ _ _) rfl ?_)
 intro w4 hk4 ho4
 have hb24 : Below w2.heap.size w2 w4 := HB3.out.trans (ho4.below (Nat.le_refl _))
 have HKx : Kp _ := ⟨hk4⟩
 have HK4 : Kp _ := ⟨HK2.out.next hb24 (Nat.le_refl _)⟩
 have HA4 : Kp _ := ⟨HA2.out.next hb24 (Nat.le_refl _)⟩
 have HR4 : Kp _ := ⟨HR2.out.next hb24 (Nat.le_refl _)⟩
 have HKr4 : Kp _ := ⟨HKr2.out.below hb24 HKr2.out.lt⟩
 have HB4 : Kp (Below w.heap.size w w4) := ⟨HB2.out.trans (hb24.mono HB2.out.size)⟩
 clear hk4 ho4 hb24 HK3 HB3 HK2 HA2 HR2 HKr2 HB2
 go_wp2_with (with_reducible refine wpList_loadAll (o := ⟨some 13, _, _, _, _, _⟩) rwSeal rfl (.tmp 6) rfl rfl HKx.out rfl ?_)
 refine (encode_any key KA kn kc r A2 n2 c2 D2 m2 e2 w4 HK4.out HR4.out.toRs HKn.out).mono ?_
 rintro x w5 ⟨hb5, hcase⟩
 have HKx5 : Kp _ := ⟨HKx.out.below hb5 HKx.out.lt⟩
 have HA5 : Kp _ := ⟨HA4.out.next hb5 (Nat.le_refl _)⟩
 have HR5 : Kp _ := ⟨HR4.out.next hb5 (Nat.le_refl _)⟩
 have HKr5 : Kp _ := ⟨HKr4.out.below hb5 HKr4.out.lt⟩
 have HB5 : Kp (Below w.heap.size w w5) := ⟨HB4.out.trans (hb5.mono HB4.out.size)⟩
 clear hb5 HKx HK4 HA4 HR4 HKr4 HB4
 rcases hcase with ⟨ht, rfl⟩ | ⟨ht, Ae, ce, rfl, hbe⟩
 ·have HD : Kp (decO key l = none) := ⟨HE.out fun h => ht h.2.1⟩
  clear ht
  go_wp2_with (with_reducible refine wpList_storeAll (o := ⟨none, _, _, _, _, _⟩) (vs := rcZ) rwSeal rfl (.tmp 4) (.tmp 25) rfl rfl HKr5.out rfl rfl (rcL_one _ _ _ _ _ _ _ _) rfl ?_)
  intro w9 hk9 ho9
  have HK9 : Kp _ := ⟨hk9⟩
  have HB9 : Kp (Below w.heap.size w w9) := ⟨HB5.out.trans (ho9.below (Nat.le_refl _))⟩
  clear hk9 ho9
  go_wp2
  refine ret_two rfl rwSeal rfl rfl HK9.out rfl rfl ?_
  rw [HD.out]
  exact ⟨none, 0, 0, none, 0, 0, rfl, RsN.zero _ _, by omega, by omega, HB9.out⟩
 ·have HT : Kp _ := ⟨ht⟩
  have HBe : Kp _ := ⟨hbe⟩
  clear ht hbe
  go_wp2_with fail
  refine (equal_any Ae A _ ce n c (encL key r) l w5 HBe.out HA5.out).mono ?_
  rintro x w6 ⟨rfl, hb6⟩
  have HKx6 : Kp _ := ⟨HKx5.out.below hb6 HKx5.out.lt⟩
  have HR6 : Kp _ := ⟨HR5.out.next hb6 (Nat.le_refl _)⟩
  have HKr6 : Kp _ := ⟨HKr5.out.below hb6 HKr5.out.lt⟩
  have HB6 : Kp (Below w.heap.size w w6) := ⟨HB5.out.trans (hb6.mono HB5.out.size)⟩
  clear hb6 HKx5 HR5 HKr5 HB5 HA5 HBe
  by_cases hq : encL key r = l
  ·have HD : Kp (decO key l = some r) := ⟨HI.out (rg_of HR6.out.toRs) HT.out hq⟩
   have hbq : (encL key r == l) = true := by rw [hq]; simp
   rw [hbq]
   clear hbq hq
   go_wp2_with (first
    | (with_reducible refine wpList_loadAll (o := ⟨some 26, _, _, _, _, _⟩) rwSeal rfl (.tmp 6) rfl rfl HKx6.out rfl ?_)
    | (with_reducible refine wpList_storeAll (o := ⟨none, _, _, _, _, _⟩) (vs := rcL r.num r.blk A2 n2 c2 D2 m2 e2) rwSeal rfl (.tmp 4) (.tmp 26) rfl rfl HKr6.out rfl rfl (rcL_one _ _ _ _ _ _ _ _) rfl ?_))
   intro w9 hk9 ho9
   have HK9 : Kp _ := ⟨hk9⟩
   have HB9 : Kp (Below w.heap.size w w9) := ⟨HB6.out.trans (ho9.below (Nat.le_refl _))⟩
   have HR9 : Kp (RsN w.heap.size w9 A2 n2 c2 D2 m2 e2 r) := ⟨HR6.out.over ho9 HKr6.out⟩
   clear hk9 ho9
   go_wp2
   refine ret_two rfl rwSeal rfl rfl HK9.out rfl rfl ?_
   rw [HD.out]
   exact ⟨A2, n2, c2, D2, m2, e2, rfl, HR9.out, HN2.out.1, HN2.out.2, HB9.out⟩
  ·have HD : Kp (decO key l = none) := ⟨HE.out fun h => hq h.2.2⟩
   have hbq : (encL key r == l) = false := by rw [Bool.eq_false_iff]; exact fun h => hq (eq_of_beq h)
   rw [hbq]
   clear hbq hq
   go_wp2_with (with_reducible refine wpList_storeAll (o := ⟨none, _, _, _, _, _⟩) (vs := rcZ) rwSeal rfl (.tmp 4) (.tmp 25) rfl rfl HKr6.out rfl rfl (rcL_one _ _ _ _ _ _ _ _) rfl ?_)
   intro w9 hk9 ho9
   have HK9 : Kp _ := ⟨hk9⟩
   have HB9 : Kp (Below w.heap.size w w9) := ⟨HB6.out.trans (ho9.below (Nat.le_refl _))⟩
   clear hk9 ho9
   go_wp2
   refine ret_two rfl rwSeal rfl rfl HK9.out rfl rfl ?_
   rw [HD.out]
   exact ⟨none, 0, 0, none, 0, 0, rfl, RsN.zero _ _, by omega, by omega, HB9.out⟩
end Go.Proofs.YtcehkafddlfleaaGreatDoor

namespace Go.Proofs.YtcehkafddlfleaaGreatDoor
open Go.RowKit
theorem pickO_succ (key : List UInt8) (n : Nat) (ls : List (List UInt8)) (k : Nat) (h : k < ls.length) :
  pickO key n (ls.take (k + 1)) = (pickO key n (ls.take k)).or (match decO key ls[k] with | some r => if r.num = n then some r else none | none => none) := by
 unfold pickO
 rw [List.take_succ_eq_append_getElem h, List.filterMap_append, List.find?_append]
 congr 1
 cases hd : decO key ls[k] with
 | none => simp [List.filterMap, hd]
 | some r =>
  simp only [List.filterMap_cons, List.filterMap_nil, hd, List.find?_cons, List.find?_nil]
  by_cases hn : r.num = n
  ·simp [hn]
  ·simp [hn]
theorem pickO_all {key : List UInt8} {n : Nat} {ls : List (List UInt8)} {k : Nat} {r : Rc} (h : pickO key n (ls.take k) = some r) : pickO key n ls = some r := by
 unfold pickO at *
 rw [← List.take_append_drop k ls, List.filterMap_append, List.find?_append, h]
 rfl
noncomputable def nextO (key : List UInt8) (n : Nat) (l : List (List UInt8)) : Option Rc := if n + 1 < 18446744073709551616 then pickO key (n + 1) l else none
theorem chooseO_next {key : List UInt8} {n : Nat} {ls : List (List UInt8)} {k : Nat} {r : Rc} (h : nextO key n (ls.take k) = some r) : chooseO key n ls = some r := by
 unfold nextO at h
 unfold chooseO
 split at h
 ·rename_i hn
  rw [if_pos hn, pickO_all h]; rfl
 ·cases h
theorem chooseO_end {key : List UInt8} {n : Nat} {ls : List (List UInt8)} {k : Nat} (hk : ls.length ≤ k) (h : nextO key n (ls.take k) = none) : chooseO key n ls = pickO key n (ls.take k) := by
 rw [List.take_of_length_le hk] at *
 unfold nextO at h
 unfold chooseO
 rw [h]; rfl
theorem nextO_succ (key : List UInt8) (n : Nat) (ls : List (List UInt8)) (k : Nat) (h : k < ls.length) (h0 : nextO key n (ls.take k) = none) :
  nextO key n (ls.take (k + 1)) = (match decO key ls[k] with | some r => if n + 1 < 18446744073709551616 ∧ r.num = n + 1 then some r else none | none => none) := by
 unfold nextO at *
 split at h0
 ·rename_i hn
  rw [if_pos hn, pickO_succ key (n + 1) ls k h, h0]
  cases decO key ls[k] with
  | none => rfl
  | some r => simp [hn]
 ·rename_i hn
  rw [if_neg hn]
  cases decO key ls[k] with
  | none => rfl
  | some r => simp [hn]
theorem nextO_zero (key : List UInt8) (n : Nat) (ls : List (List UInt8)) : nextO key n (ls.take 0) = none := by
 unfold nextO pickO; simp
theorem pickO_zero (key : List UInt8) (n : Nat) (ls : List (List UInt8)) : pickO key n (ls.take 0) = none := by
 unfold pickO; simp
set_option maxRecDepth 100000 in
set_option maxHeartbeats 8000000 in
theorem pick8_any (key : List UInt8) (KA : Option Addr) (kn kc : Nat) (ctr : Nat) (B : Option Addr) (m d : Nat) (ls : List (List UInt8)) (w : World) (hK : Bs w w.heap.size KA kn kc key) (hB : Ls w w.heap.size B m d ls) (hkn : kn ≤ 524288) (hc : ctr < 18446744073709551616) (hl : ∀ x ∈ ls, x.length ≤ 1000000) :
  Calls Tryz.prog 90 #[.slice KA kn kc, .int .u64 ctr, .slice B m d] w fun x w' => ∃ A' n' c' D m' e', x = .returned (.tuple #[rcV (decR (chooseO key ctr ls)) A' n' c' D m' e', .int .i64 (decF (chooseO key ctr ls))]) ∧ RsN w.heap.size w' A' n' c' D m' e' (decR (chooseO key ctr ls)) ∧ Below w.heap.size w w' := by
 have HK : Kp _ := ⟨hK⟩
 have HB : Kp _ := ⟨hB⟩
 have HKn : Kp _ := ⟨hkn⟩
 have HLl : Kp _ := ⟨hl⟩
 have HLm : Kp (ls.length = m) := ⟨hB.len⟩
 have hm63 := hB.le
 have HCt : Kp _ := ⟨hc⟩
 clear hK hB hkn hl hc
 go_enter Tryz.func90, Tryz.ntmps90
 first | go_step3 | skip
 go_wp2_with (with_reducible refine wpList_alloc (o := ⟨some 6, _, _, _, _, _⟩) tySeal rfl rfl ?_)
 intro w1 hk1 hb1 hs1
 have HKr : Kp _ := ⟨hk1⟩
 have HB1 : Kp (Below w.heap.size w w1) := ⟨hb1⟩
 clear hk1 hb1 hs1
 go_wp2_with fail
 first | go_step3 | skip
 go_wp2_with (with_reducible refine wpList_alloc (o := ⟨some 8, _, _, _, _, _⟩) tySeal rfl rfl ?_)
 intro w2 hk2 hb2 hs2
 have HC2 : Kp _ := ⟨hk2⟩
 have HW2 : Kp (Below w1.heap.size w1 w2) := ⟨hb2⟩
 obtain ⟨g, hg⟩ : ∃ g, g = w1.heap.size := ⟨_, rfl⟩
 rw [← hg] at HC2 HW2 ⊢
 have HG : Kp (w.heap.size < g) := ⟨by rw [hg]; exact HKr.out.lt⟩
 have HKo : Kp (∀ W, Below g w1 W → Bs W W.heap.size KA kn kc key) := ⟨fun W h => HK.out.next (HB1.out.trans (h.mono (Nat.le_of_lt HG.out))) (Nat.le_refl _)⟩
 have HLo : Kp (∀ W, Below g w1 W → Ls W W.heap.size B m d ls) := ⟨fun W h => HB.out.next (HB1.out.trans (h.mono (Nat.le_of_lt HG.out))) (Nat.le_refl _)⟩
 have HS0 : Kp (w.heap.size ≤ w1.heap.size) := ⟨HB1.out.size⟩
 clear hk2 hb2 hs2 hg HK HB
 go_wp2
 try go_step3
 go_wp2
 go_loopg [9, 11, 12, 13, 16, 26, 29, 40] m (fun gk v9 v11 v12 v13 v16 v26 v29 v40 wr => ∃ (k : Nat) (f : Int) (p : Option Rc) (A' : Option Addr) (n' c' : Nat) (D : Option Addr) (m' e' : Nat), k + gk = m ∧ v9 = .int .i64 f ∧ v16 = .int .i64 k ∧ Kp (nextO key ctr (ls.take k) = none) ∧ Kp (pickO key ctr (ls.take k) = p) ∧ Kp (f = decF p) ∧
  Kp (Blk wr g 63 (rcL (decR p).num (decR p).blk A' n' c' D m' e')) ∧ Kp (RsN w.heap.size wr A' n' c' D m' e' (decR p)) ∧ Kp (Below g w1 wr))
 case atStart => exact ⟨0, 5, none, none, 0, 0, none, 0, 0, by omega, rfl, rfl, ⟨nextO_zero _ _ _⟩, ⟨pickO_zero _ _ _⟩, ⟨rfl⟩, HC2, ⟨RsN.zero _ _⟩, HW2⟩
 case round =>
  clear HC2 HW2
  obtain ⟨k, f, p, A', n', c', D, m', e', hkg, rfl, rfl, HNx, HPk, HF, HC, HR, HW⟩ := hrel
  cases gk with
  | zero =>
   obtain rfl : k = m := by omega
   have HRes : Kp (chooseO key ctr ls = p) := ⟨by rw [chooseO_end (by rw [HLm.out]; exact Nat.le_refl _) HNx.out]; exact HPk.out⟩
   have HKr4 : Kp _ := ⟨HKr.out.below HW.out HG.out⟩
   go_wp2_with (first
    | (with_reducible refine wpList_loadAll (o := ⟨some 51, _, _, _, _, _⟩) rwSeal rfl (.tmp 8) rfl rfl HC.out rfl ?_)
    | (with_reducible refine wpList_storeAll (o := ⟨none, _, _, _, _, _⟩) (vs := rcL (decR p).num (decR p).blk A' n' c' D m' e') rwSeal rfl (.tmp 6) (.tmp 51) rfl rfl HKr4.out rfl rfl (rcL_one _ _ _ _ _ _ _ _) rfl ?_))
   intro w9 hk9 ho9
   have HK9 : Kp _ := ⟨hk9⟩
   have HB9 : Kp (Below w.heap.size w w9) := ⟨(HB1.out.trans (HW.out.mono (Nat.le_of_lt HG.out))).trans (ho9.below (Nat.le_refl _))⟩
   have HR9 : Kp _ := ⟨HR.out.over ho9 HKr4.out⟩
   clear hk9 ho9
   go_wp2
   simp only [Exit.noGoto]
   refine ret_two rfl rwSeal rfl rfl HK9.out rfl rfl ?_
   rw [HRes.out]
   exact ⟨A', n', c', D, m', e', by rw [HF.out]; rfl, HR9.out, HB9.out⟩
  | succ g2 =>
   have hlt : k < m := by omega
   have hkl : k < ls.length := by rw [HLm.out]; exact hlt
   obtain ⟨b1, o1, A1, n1, c1, rfl, _, hcell, hbs⟩ := (HLo.out wr HW.out).at hlt
   have HBs : Kp _ := ⟨hbs⟩
   have HN1 : Kp (n1 ≤ 1000000) := ⟨by have h1 := hbs.len; have h2 := HLl.out _ (List.getElem_mem hkl); omega⟩
   have HKw : Kp _ := ⟨HKo.out wr HW.out⟩
   have HNs : Kp _ := ⟨nextO_succ key ctr ls k hkl HNx.out⟩
   have HPs : Kp _ := ⟨pickO_succ key ctr ls k hkl⟩
   generalize ls[k] = x at *
   clear hbs
   go_wp2_with fail
   refine (decode_any key KA kn kc A1 n1 c1 x wr HKw.out HBs.out HKn.out HN1.out).mono ?_
   rintro xx w3 ⟨A3, n3, c3, D3, m3, e3, rfl, hr3, _, _, hb3⟩
   have HR3 : Kp _ := ⟨hr3.low (Nat.le_trans HS0.out HW.out.size)⟩
   have HC3 : Kp _ := ⟨HC.out.below hb3 HC.out.lt⟩
   have HRp3 : Kp _ := ⟨HR.out.next hb3 (Nat.le_refl _)⟩
   have HW3 : Kp (Below g w1 w3) := ⟨HW.out.trans (hb3.mono (Nat.le_of_lt HC.out.lt))⟩
   clear hr3 hb3 HC HR HW HKw HBs hcell
   go_wp2_with (with_reducible refine wpList_alloc (o := ⟨some 12, _, _, _, _, _⟩) tySeal rfl rfl ?_)
   intro w4 hk4 hb4 hs4
   have HK4 : Kp _ := ⟨hk4⟩
   have HB4 : Kp _ := ⟨hb4⟩
   clear hk4 hb4 hs4
   go_wp2_with (with_reducible refine wpList_storeAll (o := ⟨none, _, _, _, _, _⟩) (vs := rcL (decR (decO key x)).num (decR (decO key x)).blk A3 n3 c3 D3 m3 e3) rwSeal rfl (.tmp 12) (.tmp 24) rfl rfl HK4.out rfl rfl (rcL_one _ _ _ _ _ _ _ _) rfl ?_)
   intro w5 hk5 ho5
   have hb35 : Below w3.heap.size w3 w5 := HB4.out.trans (ho5.below (Nat.le_refl _))
   have HX5 : Kp _ := ⟨hk5⟩
   have HR5 : Kp _ := ⟨HR3.out.next hb35 (Nat.le_refl _)⟩
   have HC5 : Kp _ := ⟨HC3.out.below hb35 HC3.out.lt⟩
   have HRp5 : Kp _ := ⟨HRp3.out.next hb35 (Nat.le_refl _)⟩
   have HW5 : Kp (Below g w1 w5) := ⟨HW3.out.trans (hb35.mono (Nat.le_of_lt HC3.out.lt))⟩
   clear hk5 ho5 hb35 HK4 HB4 HR3 HC3 HRp3 HW3
   cases hd : decO key x with
   | none =>
    rw [hd] at HNs HPs HX5 HR5
    have HN2 : Kp (nextO key ctr (ls.take (k + 1)) = none) := ⟨HNs.out⟩
    have HP2 : Kp (pickO key ctr (ls.take (k + 1)) = p) := ⟨by rw [HPs.out, HPk.out]; simp⟩
    have hf5 : (decF none : Int) = 5 := rfl
    rw [hf5]
    clear hd hf5 HNs HPs
    go_wp2
    go_roundg g2
    case measure => omega
    case rel => exact ⟨k + 1, f, p, A', n', c', D, m', e', by omega, rfl, by go_num, HN2, HP2, HF, HC5, HRp5, HW5⟩
   | some r =>
    rw [hd] at HNs HPs HX5 HR5
    have hf0 : (decF (some r) : Int) = 0 := rfl
    rw [hf0]
    have HX : Kp (Blk w5 w3.heap.size 63 (rcL r.num r.blk A3 n3 c3 D3 m3 e3)) := ⟨HX5.out⟩
    have HRr : Kp (RsN w.heap.size w5 A3 n3 c3 D3 m3 e3 r) := ⟨HR5.out⟩
    have x0 : w5.cell? ⟨w3.heap.size, 0, none⟩ = some (.int .u64 r.num) := HX.out.cell? 0
    have HCt2 : Kp _ := ⟨HCt.out⟩
    have hct : ctr < 18446744073709551616 := HCt.out
    clear hd hf0 HX5 HR5
    by_cases hnx : ctr + 1 < 18446744073709551616 ∧ r.num = ctr + 1
    ·have HRes : Kp (chooseO key ctr ls = some r) := ⟨chooseO_next (k := k + 1) (by rw [HNs.out]; exact if_pos hnx)⟩
     have d1 : decide ((ctr : Int) < 18446744073709551615) = true := decide_eq_true (by omega)
     have wc1 : IntKind.u64.wrap ((ctr : Int) + 1) = (r.num : Int) := by rw [IntKind.wrap_u64]; omega
     have d2 : ((r.num : Int) == (r.num : Int)) = true := by simp
     clear hnx HNs HPs hct
     go_wp2_with (first
      | (with_reducible refine wpList_loadAll (o := ⟨some 39, _, _, _, _, _⟩) rwSeal rfl (.tmp 12) rfl rfl HX.out rfl ?_)
      | (with_reducible refine wpList_storeAll (o := ⟨none, _, _, _, _, _⟩) (vs := rcL r.num r.blk A3 n3 c3 D3 m3 e3) rwSeal rfl (.tmp 8) (.tmp 39) rfl rfl HC5.out rfl rfl (rcL_one _ _ _ _ _ _ _ _) rfl ?_))
     intro w6 hk6 ho6
     have HC6 : Kp _ := ⟨hk6⟩
     have HR6 : Kp (RsN w.heap.size w6 A3 n3 c3 D3 m3 e3 r) := ⟨HRr.out.over ho6 HC5.out⟩
     have HW6 : Kp (Below g w1 w6) := ⟨HW5.out.trans (ho6.below (Nat.le_refl _))⟩
     clear hk6 ho6 x0 d1 d2 wc1
     have HKr4 : Kp _ := ⟨HKr.out.below HW6.out HG.out⟩
     go_wp2_with (first
      | (with_reducible refine wpList_loadAll (o := ⟨some 51, _, _, _, _, _⟩) rwSeal rfl (.tmp 8) rfl rfl HC6.out rfl ?_)
      | (with_reducible refine wpList_storeAll (o := ⟨none, _, _, _, _, _⟩) (vs := rcL r.num r.blk A3 n3 c3 D3 m3 e3) rwSeal rfl (.tmp 6) (.tmp 51) rfl rfl HKr4.out rfl rfl (rcL_one _ _ _ _ _ _ _ _) rfl ?_))
     intro w9 hk9 ho9
     have HK9 : Kp _ := ⟨hk9⟩
     have HB9 : Kp (Below w.heap.size w w9) := ⟨(HB1.out.trans (HW6.out.mono (Nat.le_of_lt HG.out))).trans (ho9.below (Nat.le_refl _))⟩
     have HR9 : Kp _ := ⟨HR6.out.over ho9 HKr4.out⟩
     clear hk9 ho9
     go_wp2
     simp only [Exit.noGoto]
     refine ret_two rfl rwSeal rfl rfl HK9.out rfl rfl ?_
     rw [HRes.out]
     exact ⟨A3, n3, c3, D3, m3, e3, rfl, HR9.out, HB9.out⟩
    ·have HN2 : Kp (nextO key ctr (ls.take (k + 1)) = none) := ⟨by rw [HNs.out]; exact if_neg hnx⟩
     by_cases hq : r.num = ctr
     ·cases hp : p with
      | none =>
       have HP2 : Kp (pickO key ctr (ls.take (k + 1)) = some r) := ⟨by rw [HPs.out, HPk.out, hp]; simp [hq]⟩
       have HF5 : Kp (f = 5) := ⟨by rw [HF.out, hp]; rfl⟩
       obtain rfl : f = 5 := HF5.out
       rw [hp] at HC5
       by_cases hmx : ctr + 1 < 18446744073709551616
       ·have d1 : decide ((ctr : Int) < 18446744073709551615) = true := decide_eq_true (by omega)
        have wc1 : IntKind.u64.wrap ((ctr : Int) + 1) = ((ctr + 1 : Nat) : Int) := by rw [IntKind.wrap_u64]; omega
        have d2 : ((r.num : Int) == ((ctr + 1 : Nat) : Int)) = false := by simp; omega
        have d2' : ((r.num : Int) == (ctr : Int) + 1) = false := by simp; omega
        have q1 : ((r.num : Int) == (ctr : Int)) = true := by simp; omega
        clear hnx HNs HPs hct hmx hq
        go_wp2_with (first
         | (with_reducible refine wpList_loadAll (o := ⟨some 49, _, _, _, _, _⟩) rwSeal rfl (.tmp 12) rfl rfl HX.out rfl ?_)
         | (with_reducible refine wpList_storeAll (o := ⟨none, _, _, _, _, _⟩) (vs := rcL r.num r.blk A3 n3 c3 D3 m3 e3) rwSeal rfl (.tmp 8) (.tmp 49) rfl rfl HC5.out rfl rfl (rcL_one _ _ _ _ _ _ _ _) rfl ?_))
        intro w6 hk6 ho6
        have HC6 : Kp _ := ⟨hk6⟩
        have HR6 : Kp (RsN w.heap.size w6 A3 n3 c3 D3 m3 e3 r) := ⟨HRr.out.over ho6 HC5.out⟩
        have HW6 : Kp (Below g w1 w6) := ⟨HW5.out.trans (ho6.below (Nat.le_refl _))⟩
        clear hk6 ho6 x0
        go_wp2
        go_roundg g2
        case measure => omega
        case rel => exact ⟨k + 1, 0, some r, A3, n3, c3, D3, m3, e3, by omega, rfl, by go_num, HN2, HP2, ⟨rfl⟩, HC6, HR6, HW6⟩
       ·have d1 : decide ((ctr : Int) < 18446744073709551615) = false := decide_eq_false (by omega)
        have q1 : ((r.num : Int) == (ctr : Int)) = true := by simp; omega
        clear hnx HNs HPs hct hmx hq
        go_wp2_with (first
         | (with_reducible refine wpList_loadAll (o := ⟨some 49, _, _, _, _, _⟩) rwSeal rfl (.tmp 12) rfl rfl HX.out rfl ?_)
         | (with_reducible refine wpList_storeAll (o := ⟨none, _, _, _, _, _⟩) (vs := rcL r.num r.blk A3 n3 c3 D3 m3 e3) rwSeal rfl (.tmp 8) (.tmp 49) rfl rfl HC5.out rfl rfl (rcL_one _ _ _ _ _ _ _ _) rfl ?_))
        intro w6 hk6 ho6
        have HC6 : Kp _ := ⟨hk6⟩
        have HR6 : Kp (RsN w.heap.size w6 A3 n3 c3 D3 m3 e3 r) := ⟨HRr.out.over ho6 HC5.out⟩
        have HW6 : Kp (Below g w1 w6) := ⟨HW5.out.trans (ho6.below (Nat.le_refl _))⟩
        clear hk6 ho6 x0
        go_wp2
        go_roundg g2
        case measure => omega
        case rel => exact ⟨k + 1, 0, some r, A3, n3, c3, D3, m3, e3, by omega, rfl, by go_num, HN2, HP2, ⟨rfl⟩, HC6, HR6, HW6⟩
      | some p2 =>
       have HP2 : Kp (pickO key ctr (ls.take (k + 1)) = p) := ⟨by rw [HPs.out, HPk.out, hp]; simp⟩
       have HF0 : f = 0 := by rw [HF.out, hp]; rfl
       subst HF0
       by_cases hmx : ctr + 1 < 18446744073709551616
       ·have d1 : decide ((ctr : Int) < 18446744073709551615) = true := decide_eq_true (by omega)
        have wc1 : IntKind.u64.wrap ((ctr : Int) + 1) = ((ctr + 1 : Nat) : Int) := by rw [IntKind.wrap_u64]; omega
        have d2 : ((r.num : Int) == ((ctr + 1 : Nat) : Int)) = false := by simp; omega
        have d2' : ((r.num : Int) == (ctr : Int) + 1) = false := by simp; omega
        have q1 : ((r.num : Int) == (ctr : Int)) = true := by simp; omega
        clear hnx HNs HPs hct hmx hq
        go_wp2
        go_roundg g2
        case measure => omega
        case rel => exact ⟨k + 1, 0, p, A', n', c', D, m', e', by omega, rfl, by go_num, HN2, HP2, HF, HC5, HRp5, HW5⟩
       ·have d1 : decide ((ctr : Int) < 18446744073709551615) = false := decide_eq_false (by omega)
        have q1 : ((r.num : Int) == (ctr : Int)) = true := by simp; omega
        clear hnx HNs HPs hct hmx hq
        go_wp2
        go_roundg g2
        case measure => omega
        case rel => exact ⟨k + 1, 0, p, A', n', c', D, m', e', by omega, rfl, by go_num, HN2, HP2, HF, HC5, HRp5, HW5⟩
     ·have HP2 : Kp (pickO key ctr (ls.take (k + 1)) = p) := ⟨by rw [HPs.out, HPk.out]; simp [hq]⟩
      by_cases hmx : ctr + 1 < 18446744073709551616
      ·have d1 : decide ((ctr : Int) < 18446744073709551615) = true := decide_eq_true (by omega)
       have wc1 : IntKind.u64.wrap ((ctr : Int) + 1) = ((ctr + 1 : Nat) : Int) := by rw [IntKind.wrap_u64]; omega
       have d2 : ((r.num : Int) == ((ctr + 1 : Nat) : Int)) = false := by simp; omega
       have d2' : ((r.num : Int) == (ctr : Int) + 1) = false := by simp; omega
       have q1 : ((r.num : Int) == (ctr : Int)) = false := by simp; omega
       clear hnx HNs HPs hct hmx hq
       go_wp2
       go_roundg g2
       case measure => omega
       case rel => exact ⟨k + 1, f, p, A', n', c', D, m', e', by omega, rfl, by go_num, HN2, HP2, HF, HC5, HRp5, HW5⟩
      ·have d1 : decide ((ctr : Int) < 18446744073709551615) = false := decide_eq_false (by omega)
       have q1 : ((r.num : Int) == (ctr : Int)) = false := by simp; omega
       clear hnx HNs HPs hct hmx hq
       go_wp2
       go_roundg g2
       case measure => omega
       case rel => exact ⟨k + 1, f, p, A', n', c', D, m', e', by omega, rfl, by go_num, HN2, HP2, HF, HC5, HRp5, HW5⟩
end Go.Proofs.YtcehkafddlfleaaGreatDoor
