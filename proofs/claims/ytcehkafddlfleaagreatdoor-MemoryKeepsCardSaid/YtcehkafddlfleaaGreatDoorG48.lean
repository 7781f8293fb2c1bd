/- 
   
   
   
    -/
import Derived.Test.YtcehkafddlfleaaGreatDoorG47
import Derived.Test.YtcehkafddlfleaaGreatDoorG34
namespace Go.Proofs.YtcehkafddlfleaaGreatDoor
open Go.RowKit
structure Cont (hk : List UInt8) (f : Int × Int → List UInt8) (rc rn : Rc) (q N : Nat) (c : Nat → List UInt8) : Prop where
 at_ : ∀ i, i < N → (c i).length ≤ 256 ∧ ∃ e s, f ((i : Int), (slotI rn.sl (i : Int) : Int)) = hideL hk e s (c i) ∧ e < 18446744073709551616 ∧ s < 4294967296 ∧ (e < rc.num ∨ e = rc.num ∧ s ≤ q)
structure Sea (kt : List UInt8) (t : Wd) (rc : Rc) : Prop where
 ctr : rc.num = t.ctr
 cur : sealL t ((rc.num % 2 : Nat) : Int) = encL kt rc
 old : decO kt (sealL t (1 - ((rc.num % 2 : Nat) : Int))) = none ∨ ∃ r2, decO kt (sealL t (1 - ((rc.num % 2 : Nat) : Int))) = some r2 ∧ r2.num < rc.num
 lens : t.s0.length ≤ 1000000 ∧ t.s1.length ≤ 1000000
 rg : Rg rc
theorem Sea.same {kt : List UInt8} {t t' : Wd} {rc : Rc} (h : Sea kt t rc) (e0 : t'.s0 = t.s0) (e1 : t'.s1 = t.s1) (ec : t'.ctr = t.ctr) : Sea kt t' rc := by
 have e : ∀ i, sealL t' i = sealL t i := fun i => by unfold sealL; rw [e0, e1]
 exact ⟨by rw [ec]; exact h.ctr, by rw [e]; exact h.cur, by rw [e]; exact h.old, by rw [e0, e1]; exact h.lens, h.rg⟩
theorem Sea.access {kt : List UInt8} {t : Wd} {rc rn : Rc} {N k : Nat} {b : List UInt8} (h : Sea kt t rc) (hh : Hon9 t rc rn N) (hk : k < N) (hb : b.length = 272) :
  Sea kt (writeW (readW t ((k : Int), (slotI rn.sl (k : Int) : Int))) ((k : Int), ((1 - slotI rc.sl (k : Int) : Nat) : Int)) b) rc := by
 obtain ⟨_, h2, h3⟩ := hw_read hh.hw (x := ((k : Int), (slotI rn.sl (k : Int) : Int))) (by rw [hh.n]; exact in_slot hk (slotI_le _ _))
 have hx : inR N ((k : Int), ((1 - slotI rc.sl (k : Int) : Nat) : Int)) = true := in_slot hk (by omega)
 obtain ⟨_, _, _, _, g5, g6, g7⟩ := hw_write h2 (x := ((k : Int), ((1 - slotI rc.sl (k : Int) : Nat) : Int))) (l := b) (by rw [h3.n, hh.n]; exact hx) (by rw [h3.sl]; exact hh.len _ hx) hb
 exact h.same (g5.trans h3.s0) (g6.trans h3.s1) (g7.trans h3.ctr)
structure HonM (w0 w : World) (k : Nat) (t : Wd) (Om Ox : Nat → Prop) (hs : List Held) (g gm nm : Nat) (s : Sto) (ks kt : List UInt8) (rc rn : Rc) (q : Nat) (lim : Int) (F : Nat → Option Pt) (N : Nat) (c : Nat → List UInt8) : Prop where
 mem : MemW w0 w k t Om Ox hs g gm nm s ks rc rn (q : Int) lim false F
 hon : Hon9 t rc rn N
 bal : Bal ks rc rn t.sl N F
 cont : Cont s.hk t.sl rc rn q N c
 num : rc.num < 18446744073709551616
 same : rn.su = rc.su ∧ rn.num = rc.num
 sea : Sea kt t rc
 tkey : (s.TA, 32, s.tc, kt) ∈ hs
 inn : ∀ i, (F i).isSome = true → i * 16 < N
structure HonA (w0 w w' : World) (k : Nat) (Ox : Nat → Prop) (hs : List Held) (g gm nm : Nat) (s : Sto) (ks kt : List UInt8) (rc : Rc) (q : Nat) (lim : Int) (N : Nat) (c : Nat → List UInt8) (A : Option Addr) (ca : Nat) (shown : List UInt8) : Prop where
 is : ∃ t' Om' hs' nm' rn' F', (∀ y ∈ hs, y ∈ hs') ∧ (A, 256, ca, shown) ∈ hs' ∧ nm' ≤ nm + 1 ∧ HonM w0 w' (k + 2) t' Om' Ox hs' g gm nm' s ks kt rc rn' (q + 1) lim F' N c
 keep : Keep Ox w w'
section
variable {w0 w w' : World} {k : Nat} {t : Wd} {Om Ox : Nat → Prop} {hs : List Held} {g gm nm : Nat} {s : Sto} {ks kt : List UInt8} {rc rn : Rc} {q : Nat} {lim : Int} {F : Nat → Option Pt} {N : Nat} {c : Nat → List UInt8} {at' ca : Nat} {A : Option Addr}
theorem hideL_len {key : List UInt8} {e s : Nat} {b : List UInt8} : (hideL key e s b).length = 272 := wrong_len (hideL_right _ _ _ _)
theorem HonM.acc (h : HonM w0 w k t Om Ox hs g gm nm s ks kt rc rn q lim F N c) (ha : at' < N) (hq : q + 1 < 4294967296) (body : List UInt8) (hb : body.length ≤ 256)
  (hI : AccI w0 w w' k (writeW (readW t ((at' : Int), (slotI rn.sl (at' : Int) : Int))) ((at' : Int), ((1 - slotI rc.sl (at' : Int) : Nat) : Int)) (hideL s.hk rc.num (q + 1) body)) Ox hs g gm nm s ks rc rn (q + 1) lim F at' (t.sl ((at' : Int), (slotI rn.sl (at' : Int) : Int))) (hideL s.hk rc.num (q + 1) body) A ca) :
  HonA w0 w w' k Ox hs g gm nm s ks kt rc q lim N (fun i => if i = at' then body else c i) A ca (pad256 (c at')) := by
 obtain ⟨x, Om', nm', hs', h1, h2, h3, h4, h5⟩ := hI.is
 obtain ⟨_, _, _, a4, a5, _⟩ := h.hon.access (b := hideL s.hk rc.num (q + 1) body) ha hideL_len
 obtain ⟨c1, e, s1, c2, c3, c4, c5⟩ := h.cont.at_ at' ha
 have hB := h.bal.access (f' := fun y => if y = ((at' : Int), ((1 - slotI rc.sl (at' : Int) : Nat) : Int)) then hideL s.hk rc.num (q + 1) body else t.sl y) (rn' := nowR rc rn (at' : Int)) ha h1 (fun i hi => h.hon.others ha hi)
 rw [h.hon.this ha, ← a5] at hB
 rw [c2, show_hide _ _ _ _ c1] at h3
 have hin : ∀ i, (folded F (at' / 16) x.p (addL x.rd (ofL ks (at' : Int) (t.sl ((at' : Int), (slotI rn.sl (at' : Int) : Int))))) (addL x.wr (ofL ks (at' : Int) (hideL s.hk rc.num (q + 1) body))) i).isSome = true → i * 16 < N := fun i hi => by
  unfold folded at hi
  by_cases e : i = at' / 16
  ·omega
  ·rw [if_neg e] at hi; exact h.inn i hi
 refine ⟨⟨_, Om', hs', nm', nowR rc rn (at' : Int), _, h2, h3, h4, h5, a4, hB, ⟨fun i hi => ?_⟩, h.num, ⟨(nowR_blk _).2.2.trans h.same.1, (nowR_blk _).2.1.trans h.same.2⟩, h.sea.access h.hon ha hideL_len, h2 _ h.tkey, hin⟩, hI.keep⟩
 rw [a5]
 by_cases ei : i = at'
 ·subst ei
  have hr := nowR_at (rc := rc) h.hon.rtn (k := i) (by rw [h.hon.bn]; omega)
  rw [hr]
  simp only [if_true]
  exact ⟨hb, rc.num, q + 1, rfl, h.num, hq, .inr ⟨rfl, Nat.le_refl _⟩⟩
 ·have hr := nowR_ne (rc := rc) h.hon.rtn (k := at') (by rw [h.hon.bn]; omega) ei
  rw [hr]
  obtain ⟨d1, e2, s2, d2, d3, d4, d5⟩ := h.cont.at_ i hi
  have hne : ¬ (((i : Int), (slotI rn.sl (i : Int) : Int)) = ((at' : Int), ((1 - slotI rc.sl (at' : Int) : Nat) : Int))) := fun e => ei (by have := congrArg Prod.fst e; simp at this; omega)
  simp only [hne, ei, if_false]
  exact ⟨d1, e2, s2, d2, d3, d4, by omega⟩
theorem HonM.past (h : HonM w0 w k t Om Ox hs g gm nm s ks kt rc rn q lim F N c) (ha : at' < N) : ¬ wrongL (t.sl ((at' : Int), (slotI rn.sl (at' : Int) : Int))) ∧ Past rc.num q (t.sl ((at' : Int), (slotI rn.sl (at' : Int) : Int))) ∧ showL s.hk (t.sl ((at' : Int), (slotI rn.sl (at' : Int) : Int))) = pad256 (c at') := by
 obtain ⟨c1, e, s1, c2, c3, c4, c5⟩ := h.cont.at_ at' ha
 rw [c2]
 exact ⟨hideL_right _ _ _ _, ⟨by rw [hideL_epoch _ _ _ _ c3, hideL_seq _ _ _ _ c4]; exact c5⟩, show_hide _ _ _ _ c1⟩
theorem mRead_hon (h : HonM w0 w k t Om Ox hs g gm nm s ks kt rc rn q lim F N c) (hk : k + 2 ≤ 1000000) (ha : at' < N) (hN : N ≤ 4096) (hq : (q : Int) < lim) (hq2 : q ≤ 1048576) (hnm : nm + 1 ≤ 100000) :
  Calls Tryz.prog 17 #[.pointer (some ⟨g, 0, none⟩), .int .i64 (at' : Int)] w fun r w' => ∃ A ca, r = .returned (.tuple #[.slice A 256 ca, .int .i64 0]) ∧ HonA w0 w w' k Ox hs g gm nm s ks kt rc q lim N (fun i => if i = at' then pad256 (c at') else c i) A ca (pad256 (c at')) := by
 obtain ⟨p1, p2, p3⟩ := h.past ha
 have hc1 := (h.cont.at_ at' ha).1
 have hi : at' / 16 < rc.su.length := by rw [h.hon.rtc.su, h.hon.bc, Int.toNat_natCast]; omega
 obtain ⟨a1, a2, a3, _⟩ := h.hon.access (b := hideL s.hk rc.num (q + 1) (pad256 (c at'))) ha hideL_len
 refine (mRead_any h.mem hk at' (by omega) (by rw [h.hon.bc]; omega) hq hq2 hi hnm _ _ rfl rfl a1 _ a2 p1 p2 a3 (hideL s.hk rc.num (q + 1) (pad256 (c at'))) (by rw [p3])).mono ?_
 rintro r w' ⟨A, ca, rfl, hI⟩
 exact ⟨A, ca, rfl, h.acc ha (by omega) _ (by rw [pad256_length _ hc1]; exact Nat.le_refl _) hI⟩
theorem mWrite_hon (h : HonM w0 w k t Om Ox hs g gm nm s ks kt rc rn q lim F N c) (hk : k + 2 ≤ 1000000) (ha : at' < N) (hN : N ≤ 4096) (hq : (q : Int) < lim) (hq2 : q ≤ 1048576) (hnm : nm + 1 ≤ 100000) (A0 : Option Addr) (n0 c0 : Nat) (body : List UInt8) (hba : (A0, n0, c0, body) ∈ hs) (hn0 : n0 ≤ 256) :
  Calls Tryz.prog 19 #[.pointer (some ⟨g, 0, none⟩), .int .i64 (at' : Int), .slice A0 n0 c0] w fun r w' => r = .returned (.int .i64 0) ∧ ∃ A ca, HonA w0 w w' k Ox hs g gm nm s ks kt rc q lim N (fun i => if i = at' then body else c i) A ca (pad256 (c at')) := by
 obtain ⟨p1, p2, p3⟩ := h.past ha
 have hi : at' / 16 < rc.su.length := by rw [h.hon.rtc.su, h.hon.bc, Int.toNat_natCast]; omega
 have hbl : body.length ≤ 256 := by rw [(h.mem.held hba).len]; exact hn0
 obtain ⟨a1, a2, a3, _⟩ := h.hon.access (b := hideL s.hk rc.num (q + 1) body) ha hideL_len
 refine (mWrite_any h.mem hk at' (by omega) (by rw [h.hon.bc]; omega) hq hq2 hi hnm _ _ rfl rfl a1 _ a2 p1 p2 a3 A0 n0 c0 body hba hn0 (hideL s.hk rc.num (q + 1) body) rfl).mono ?_
 rintro r w' ⟨rfl, A, ca, hI⟩
 exact ⟨rfl, A, ca, h.acc ha (by omega) _ hbl hI⟩
end
end Go.Proofs.YtcehkafddlfleaaGreatDoor

namespace Go.Proofs.YtcehkafddlfleaaGreatDoor
open Go.RowKit
theorem dec_nil (key : List UInt8) : decO key [] = none := by
 unfold decO
 rw [dif_neg]
 rintro ⟨r, h1, _, h3⟩
 have := encL_len key r h1
 rw [h3] at this
 simp at this
 omega
theorem choose_two {key : List UInt8} {n : Nat} {a b : List UInt8} {r : Rc} (ha : decO key a = some r) (hr : r.num = n) (hb : decO key b = none ∨ ∃ r2, decO key b = some r2 ∧ r2.num < n) : chooseO key n [a, b] = some r ∧ chooseO key n [b, a] = some r := by
 have h1 : ¬ r.num = n + 1 := by omega
 unfold chooseO pickO
 rcases hb with hb | ⟨r2, hb, h2⟩
 ·constructor <;> (simp only [List.filterMap_cons, List.filterMap_nil, ha, hb]; split <;> simp [hr])
 ·have h3 : ¬ r2.num = n + 1 := by omega
  have h4 : ¬ r2.num = n := by omega
  constructor <;> (simp only [List.filterMap_cons, List.filterMap_nil, ha, hb]; split <;> simp [h3, h4, hr])
theorem enc_fits (kt : List UInt8) {r : Rc} (h : Rg r) (hR : Rt r) : (encL kt r).length ≤ 1000000 := by
 have h1 := hR.hi
 rw [encL_len kt r h, hR.sl, hR.su]
 omega
theorem Sea.pick {kt : List UInt8} {t : Wd} {r : Rc} (h : Sea kt t r) (hRt : Rt r) : chooseO kt t.ctr [t.s0, t.s1] = some r := by
 have hc := decO_of kt _ r ⟨h.rg, hRt, rfl⟩
 have h1 := h.cur
 have h2 := h.old
 rw [← h.ctr]
 rcases Nat.mod_two_eq_zero_or_one r.num with e | e
 ·rw [e] at h1 h2
  have a1 : t.s0 = encL kt r := by simpa [sealL] using h1
  have a2 : sealL t (1 - ((0 : Nat) : Int)) = t.s1 := by simp [sealL]
  rw [a2] at h2
  rw [← a1] at hc
  exact (choose_two hc rfl h2).1
 ·rw [e] at h1 h2
  have a1 : t.s1 = encL kt r := by simpa [sealL] using h1
  have a2 : sealL t (1 - ((1 : Nat) : Int)) = t.s0 := by simp [sealL]
  rw [a2] at h2
  rw [← a1] at hc
  exact (choose_two hc rfl h2).2
theorem Sea.next {kt : List UInt8} {t : Wd} {r r' : Rc} (h : Sea kt t r) (hh : Hw t) (hRt : Rt r) (hn : r'.num = r.num + 1) (hRg : Rg r') (hRt' : Rt r') (hc : t.ctr < 18446744073709551615) :
  sealB t ((r'.num % 2 : Nat) : Int) (encL kt r') = true ∧ bumpB (sealedW t ((r'.num % 2 : Nat) : Int) (encL kt r')) = true ∧ Hw (bumpW (sealedW t ((r'.num % 2 : Nat) : Int) (encL kt r'))) ∧ Sea kt (bumpW (sealedW t ((r'.num % 2 : Nat) : Int) (encL kt r'))) r' ∧
   (bumpW (sealedW t ((r'.num % 2 : Nat) : Int) (encL kt r'))).n = t.n ∧ (bumpW (sealedW t ((r'.num % 2 : Nat) : Int) (encL kt r'))).sl = t.sl := by
 have hi : ((r'.num % 2 : Nat) : Int) = 0 ∨ ((r'.num % 2 : Nat) : Int) = 1 := by omega
 have e9 : (1 : Int) - ((r'.num % 2 : Nat) : Int) = ((r.num % 2 : Nat) : Int) := by rw [hn]; omega
 have hl := enc_fits kt hRg hRt'
 obtain ⟨q0, q1, q2, q3, q4, q5, q6⟩ := hw_seal hh hi (encL kt r')
 obtain ⟨p0, p1, p2, p3, p4, p5, p6⟩ := hw_bump q1 (by rw [q4]; exact hc)
 have e : ∀ i, sealL (bumpW (sealedW t ((r'.num % 2 : Nat) : Int) (encL kt r'))) i = sealL (sealedW t ((r'.num % 2 : Nat) : Int) (encL kt r')) i := fun i => by unfold sealL; rw [p5, p6]
 refine ⟨q0, p0, p1, ⟨?_, ?_, ?_, ?_, hRg⟩, p3.trans q2, p4.trans q3⟩
 ·rw [p2, q4, hn, h.ctr]
 ·rw [e]; exact q5
 ·rw [e, q6, e9, h.cur]
  exact .inr ⟨r, decO_of kt _ r ⟨h.rg, hRt, rfl⟩, by omega⟩
 ·rw [p5, p6]
  have h3 := h.lens
  rcases hi with e1 | e1
  ·rw [e1] at q5 q6 ⊢
   have a1 : (sealedW t 0 (encL kt r')).s0 = encL kt r' := by simpa [sealL] using q5
   have a2 : (sealedW t 0 (encL kt r')).s1 = t.s1 := by simpa [sealL] using q6
   rw [a1, a2]
   exact ⟨hl, h3.2⟩
  ·rw [e1] at q5 q6 ⊢
   have a1 : (sealedW t 1 (encL kt r')).s1 = encL kt r' := by simpa [sealL] using q5
   have a2 : (sealedW t 1 (encL kt r')).s0 = t.s0 := by simpa [sealL] using q6
   rw [a1, a2]
   exact ⟨h3.1, hl⟩
structure CertW (hk ks kt : List UInt8) (t : Wd) (r : Rc) (N : Nat) (c : Nat → List UInt8) : Prop where
 hon : Hon9 t r r N
 sea : Sea kt t r
 bal : ∀ i, i * 16 < N → r.su.getD i [] = foldV (curV ks r t.sl) (partB N i) z32
 cont : Cont hk t.sl ⟨r.num + 1, r.blk, r.sl, r.su⟩ r 0 N c
section
variable {w0 w : World} {k b : Nat} {t : Wd} {Om : Nat → Prop} {hs : List Held} {r : Rc} {N : Nat} {c : Nat → List UInt8}
theorem mpF_none : mpF (fun _ => none) = fun _ => none := by funext y; unfold mpF; split <;> rfl
theorem mount_hon (h : StM w0 w k b t Om hs) (hk : k + 4 ≤ 1000000) (A : Option Addr) (a ca : Nat) (m : List UInt8) (ha : Bs w w.heap.size A a ca m) (ha9 : a ≤ 524288) (hC : CertW (hideK m) (sumK m) (sealK m) t r N c) (hc : t.ctr + 1 < 18446744073709551615) :
  Calls Tryz.prog 16 #[.pointer (some ⟨b, 0, none⟩), .slice A a ca] w fun x w' => ∃ g mp s hs' t' Om', x = .returned (.tuple #[.pointer (some ⟨g, 0, none⟩), .int .i64 0]) ∧ s.b = b ∧ s.hk = hideK m ∧ (∀ y ∈ hs, y ∈ hs') ∧ Keep Om w w' ∧
   HonM w0 w' (k + 4) t' Om' Om hs' g mp 0 s (sumK m) (sealK m) ⟨t.ctr + 1, r.blk, r.sl, r.su⟩ ⟨t.ctr + 1, r.blk, r.sl, r.su⟩ 0 1048576 (fun _ => none) N c ∧ t' = mntW m r (t.ctr + 1) t := by
 have hbn := hC.hon.bn
 refine (mmount_any h hk A a ca m ha ha9 hC.hon.hw hc r (hC.sea.pick hC.hon.rtc) hC.sea.ctr (by rw [hbn, hC.hon.n]) hC.hon.rtn hC.sea.lens.1 hC.sea.lens.2).mono ?_
 rintro x w' ⟨g, mp, s, A', n', c', D', m', e', rfl, rfl, hkk, hg, hgm, hK, hS, hB, hI, hR⟩
 obtain ⟨_, l1, l2⟩ := hw_look hC.hon.hw (i := 0) (.inl rfl)
 obtain ⟨_, l3, l4⟩ := hw_look l1 (i := 1) (.inr rfl)
 have l5 := l2.trans l4
 have hRg9 : Rg ⟨t.ctr + 1, r.blk, r.sl, r.su⟩ := ⟨by show t.ctr + 1 < _; omega, hC.sea.rg.wide⟩
 have hRt9 : Rt ⟨t.ctr + 1, r.blk, r.sl, r.su⟩ := rt_num hC.hon.rtc
 obtain ⟨_, _, p1, pS, p3, p4⟩ := Sea.next (r' := ⟨t.ctr + 1, r.blk, r.sl, r.su⟩) (hC.sea.same l5.s0 l5.s1 l5.ctr) l3 hC.hon.rtc (by show t.ctr + 1 = r.num + 1; rw [hC.sea.ctr]) hRg9 hRt9 (by rw [l5.ctr]; omega)
 have hsl : (mntW m r (t.ctr + 1) t).sl = t.sl := by unfold mntW; exact p4.trans l5.sl
 have hn : (mntW m r (t.ctr + 1) t).n = t.n := by unfold mntW; exact p3.trans l5.n
 have hm' : m' ≤ 1000000 := by
  have h1 := hR.su.len
  have h2 := hC.hon.rtn.su
  have h3 := hC.hon.rtn.hi
  have h4 : r.su.length = m' := h1
  omega
 have hx := fun j (hj : Om j) => (h.lt hj).2
 refine ⟨g, mp, s, _, _, _, rfl, rfl, hkk, fun y hy => by simp [hy], hK, ⟨⟨hS, ⟨.inl (.inr rfl), .inr rfl, by omega⟩, fun j hj => ⟨.inl (.inl hj), by have := hx j hj; omega, by have := hx j hj; omega, fun i x hx => (by cases hx)⟩, by rw [hkk]; exact hideK_length m, by simp, ⟨A', n', c', D', m', e', A', n', c', D', m', e', hB, Hld.of_rs hR (by simp) (by simp) hm', Hld.of_rs hR (by simp) (by simp) hm'⟩, by rw [mpF_none]; exact hI, fun i x hx => (by cases hx), fun i j x y hx => (by cases hx), by omega⟩, ⟨?_, ?_, rt_num hC.hon.rtc, rt_num hC.hon.rtn, hbn, hbn, ?_⟩, ⟨fun i x hx => (by cases hx), fun i _ hi => ?_⟩, ⟨fun i hi => ?_⟩, by show t.ctr + 1 < _; omega, ⟨rfl, rfl⟩, pS, by simp, fun i hi => (by cases hi)⟩, rfl⟩
 ·exact p1
 ·rw [hn, hC.hon.n]
 ·rw [hsl]; exact hC.hon.len
 ·rw [hsl]; exact hC.bal i hi
 ·rw [hsl, hkk]
  have h9 := hC.cont.at_ i hi
  rw [hC.sea.ctr] at h9
  exact h9
end
end Go.Proofs.YtcehkafddlfleaaGreatDoor

namespace Go.Proofs.YtcehkafddlfleaaGreatDoor
open Go.RowKit
theorem slot_zero (n i : Nat) : slotN (List.replicate n 0) i = 0 := by
 unfold slotN
 have h : (List.replicate n (0 : UInt8)).getD (i / 8) 0 = 0 := by
  rw [List.getD_eq_getElem?_getD, List.getElem?_replicate]
  split <;> rfl
 rw [h]
 simp
theorem partB_snoc_eq {n i : Nat} (h : n / 16 = i) : partB (n + 1) i = partB n i ++ [n] := by
 have h1 : min ((i + 1) * 16) (n + 1) - i * 16 = (n - i * 16) + 1 := by omega
 have h2 : min ((i + 1) * 16) n - i * 16 = n - i * 16 := by omega
 unfold partB
 rw [h1, h2, List.range_succ, List.map_append, List.map_cons, List.map_nil]
 rw [show i * 16 + (n - i * 16) = n by omega]
theorem partB_snoc_ne {n i : Nat} (h : n / 16 ≠ i) : partB (n + 1) i = partB n i := by
 have h1 : min ((i + 1) * 16) (n + 1) - i * 16 = min ((i + 1) * 16) n - i * 16 := by omega
 unfold partB
 rw [h1]
theorem foldV_snoc {v : Nat → List UInt8} {l : List Nat} {i : Nat} {d : List UInt8} : foldV v (l ++ [i]) d = addL (foldV v l d) (v i) := by simp only [foldV, List.foldl_append, List.foldl_cons, List.foldl_nil]
theorem sumF_part (hk ks : List UInt8) (E P : Nat) : ∀ n i, i < P → n ≤ 16 * P → (sumF hk ks E P n).getD i [] = foldV (fun j => ofL ks (j : Int) (hideL hk E j [])) (partB n i) z32 := by
 intro n
 induction n with
 | zero =>
  intro i hi _
  have e : partB 0 i = [] := by simp [partB]
  rw [e, foldV_nil, sumF, List.getD_eq_getElem?_getD, List.getElem?_replicate, if_pos hi]
  rfl
 | succ n ih =>
  intro i hi hn
  rw [sumF]
  by_cases e : n / 16 = i
  ·rw [partB_snoc_eq e, foldV_snoc, ← ih i hi (by omega), e, List.getD_eq_getElem?_getD, List.getElem?_set_self (by rw [sumF_len]; exact hi)]
   rfl
  ·rw [partB_snoc_ne e, ← ih i hi (by omega), List.getD_eq_getElem?_getD, List.getElem?_set_ne e, ← List.getD_eq_getElem?_getD]
def formR (m : List UInt8) (N : Nat) : Rc := ⟨2, (N : Int), List.replicate ((N + 7) / 8) 0, sumF (hideK m) (sumK m) 1 ((N + 15) / 16) N⟩
theorem formR_rt (m : List UInt8) (N : Nat) (hN : N ≤ 4096) : Rt (formR m N) := by
 refine ⟨?_, ?_, ?_, ?_, fun i _ _ => slot_zero _ _⟩
 ·show 0 ≤ (N : Int); omega
 ·show (N : Int) ≤ 4096; omega
 ·show (List.replicate ((N + 7) / 8) (0 : UInt8)).length = ((N : Int).toNat + 7) / 8
  rw [List.length_replicate, Int.toNat_natCast]
 ·show (sumF (hideK m) (sumK m) 1 ((N + 15) / 16) N).length = ((N : Int).toNat + 15) / 16
  rw [sumF_len, Int.toNat_natCast]
theorem z272_len : z272.length = 272 := by decide +kernel
set_option maxRecDepth 100000 in
theorem format_hon (m : List UInt8) (N : Nat) (hN : N ≤ 4096) : CertW (hideK m) (sumK m) (sealK m) (formW m (newW N)) (formR m N) N (fun _ => []) := by
 obtain ⟨_, b1, b2, b3, b4, b5, b6⟩ := hw_bump (hw_new N) (by show 0 < 18446744073709551615; omega)
 obtain ⟨f1, f2, f3, f4, f5, f6⟩ := fmt_hon b1 (fun x _ => by rw [b4]; exact z272_len) (hideK m) 1 N (by rw [b3]; exact Nat.le_refl _)
 obtain ⟨_, s1, s2, s3, s4, s5, s6⟩ := hw_seal f1 (i := 0) (.inl rfl) (encL (sealK m) (formR m N))
 obtain ⟨_, q1, q2, q3, q4, q5, q6⟩ := hw_bump s1 (by rw [s4, f5, b2]; show 0 + 1 < _; omega)
 have hW : formW m (newW N) = bumpW (sealedW (fmtW (hideK m) 1 (bumpW (newW N)) N) 0 (encL (sealK m) (formR m N))) := by
  have e : ((((newW N).ctr + 1 + 1) % 2 : Nat) : Int) = 0 := by
   show (((0 + 1 + 1) % 2 : Nat) : Int) = 0
   decide
  unfold formW
  rw [e]
  rfl
 rw [← hW] at q1 q2 q3 q4 q5 q6
 have hn : (formW m (newW N)).n = N := by rw [q3, s2, f2, b3]; rfl
 have hc : (formW m (newW N)).ctr = 2 := by rw [q2, s4, f5, b2]; rfl
 have hsl : (formW m (newW N)).sl = fun y => if y.2 = 0 ∧ 0 ≤ y.1 ∧ y.1 < (N : Int) then hideL (hideK m) 1 y.1.toNat [] else z272 := by rw [q4, s3, f6, b4]; rfl
 have h0 : (formW m (newW N)).s0 = encL (sealK m) (formR m N) := by rw [q5]; exact s5
 have h1 : (formW m (newW N)).s1 = [] := by rw [q6]; exact s6.trans (f4.trans b6)
 have hRt := formR_rt m N hN
 have hRg : Rg (formR m N) := ⟨by show 2 < _; omega, fun d hd => sumF_wide _ _ _ _ _ d hd⟩
 have hz : ∀ i : Nat, slotI (formR m N).sl (i : Int) = 0 := fun i => by rw [slotI_nat]; exact slot_zero _ _
 have hat : ∀ i : Nat, i < N → (formW m (newW N)).sl ((i : Int), (slotI (formR m N).sl (i : Int) : Int)) = hideL (hideK m) 1 i [] := fun i hi => by
  rw [hsl, hz i]
  show (if ((0 : Nat) : Int) = 0 ∧ 0 ≤ (i : Int) ∧ (i : Int) < (N : Int) then hideL (hideK m) 1 (i : Int).toNat [] else z272) = _
  rw [if_pos ⟨rfl, by omega, by omega⟩, Int.toNat_natCast]
 have hl := encL_len (sealK m) (formR m N) hRg
 refine ⟨⟨q1, hn, hRt, hRt, rfl, rfl, fun x hx => ?_⟩, ⟨hc.symm, ?_, .inl ?_, ?_, hRg⟩, fun i hi => ?_, ⟨fun i hi => ⟨Nat.zero_le _, 1, i, hat i hi, by omega, by omega, .inl ?_⟩⟩⟩
 ·rw [hsl]
  show (if x.2 = 0 ∧ 0 ≤ x.1 ∧ x.1 < (N : Int) then hideL (hideK m) 1 x.1.toNat [] else z272).length = 272
  split
  ·exact hideL_len
  ·exact z272_len
 ·have e2 : (((formR m N).num % 2 : Nat) : Int) = 0 := by show ((2 % 2 : Nat) : Int) = 0; decide
  rw [e2]
  show (if (0 : Int) = 0 then _ else _) = _
  rw [if_pos rfl, h0]
 ·have e2 : (1 : Int) - (((formR m N).num % 2 : Nat) : Int) = 1 := by show (1 : Int) - ((2 % 2 : Nat) : Int) = 1; decide
  rw [e2]
  show decO _ (if (1 : Int) = 0 then _ else _) = none
  rw [if_neg (by decide), h1]
  exact dec_nil _
 ·rw [h0, h1, hl, hRt.sl, hRt.su]
  show 48 + ((N : Int).toNat + 7) / 8 + 32 * (((N : Int).toNat + 15) / 16) ≤ 1000000 ∧ 0 ≤ 1000000
  rw [Int.toNat_natCast]
  omega
 ·show (sumF (hideK m) (sumK m) 1 ((N + 15) / 16) N).getD i [] = _
  rw [sumF_part (hideK m) (sumK m) 1 ((N + 15) / 16) N i (by omega) (by omega)]
  refine (foldV_congr _ _ (fun j hj => ?_)).symm
  show ofL (sumK m) (j : Int) _ = _
  rw [hat j (partB_mem.1 hj).2.2]
 ·show 1 < 2 + 1; omega
end Go.Proofs.YtcehkafddlfleaaGreatDoor

namespace Go.Proofs.YtcehkafddlfleaaGreatDoor
open Go.RowKit
theorem sync_deferred (u : FrameMode) (w : World) (g1 g2 g : Nat) (hk1 : Blk w g1 30 [.pointer (some ⟨g, 0, none⟩)]) (hk2 : Blk w g2 117 [.nilIface]) :
  CallsD Tryz.prog 99 #[.pointer (some ⟨g1, 0, none⟩), .pointer (some ⟨g2, 0, none⟩)] u w fun e u' w' => u' = u ∧ (e = .returned (.tuple #[]) ∧ Below w.heap.size w w') := by
 have c1 : w.cell? ⟨g1, 0, none⟩ = some (.pointer (some ⟨g, 0, none⟩)) := hk1.cell? 0
 have c2 : w.cell? ⟨g2, 0, none⟩ = some .nilIface := hk2.cell? 0
 clear hk1 hk2
 go_enter_d Tryz.func99, Tryz.ntmps99
 go_wp2_with fail
 refine (msettle_ok w g).mono ?_
 rintro e w2 ⟨rfl, hb2⟩
 have HB : Kp _ := ⟨hb2⟩
 clear hb2 c1 c2
 go_wp2
 go_end0
 exact ⟨rfl, HB.out⟩
theorem mSync_nil (w : World) : Calls Tryz.prog 21 #[.pointer none] w fun e w' => e = .returned (.int .i64 1) ∧ w' = w := by
 go_enter Tryz.func21, Tryz.ntmps21
 go_wp2
 go_ret
 exact ⟨rfl, rfl⟩
theorem HonM.number {w0 w : World} {k : Nat} {t : Wd} {Om Ox : Nat → Prop} {hs : List Held} {g gm nm : Nat} {s : Sto} {ks kt : List UInt8} {rc rn : Rc} {q : Nat} {lim : Int} {F : Nat → Option Pt} {N : Nat} {c : Nat → List UInt8} (h : HonM w0 w k t Om Ox hs g gm nm s ks kt rc rn q lim F N c) :
  Calls Tryz.prog 20 #[.pointer (some ⟨g, 0, none⟩)] w fun e w' => e = .returned (.int .u64 (rc.num : Int)) ∧ w' = w := by
 obtain ⟨A, n, c, D, m, e, A2, n2, c2, D2, m2, e2, hM, _, _⟩ := h.mem.mem
 exact mmNumber_any hM h.mem.key rfl rc.num rfl
end Go.Proofs.YtcehkafddlfleaaGreatDoor

namespace Go.Proofs.YtcehkafddlfleaaGreatDoor
open Go.RowKit
def audP (ks : List UInt8) (r : Rc) : List Nat → Wd → List UInt8 → List UInt8 → Option (Wd × List UInt8 × List UInt8)
 | [], t, a, d => some (t, a, d)
 | i :: l, t, a, d => if (readW t ((i : Int), (slotI r.sl (i : Int) : Int))).lost = true then none else
   audP ks r l (readW t ((i : Int), (slotI r.sl (i : Int) : Int))) (addL a (ofL ks (i : Int) (readLw t ((i : Int), (slotI r.sl (i : Int) : Int))))) (addL d (ofL ks (i : Int) (readLw t ((i : Int), (slotI r.sl (i : Int) : Int)))))
def audO (ks : List UInt8) (r : Rc) (N : Nat) (F : Nat → Option Pt) : List Nat → Wd → List (List UInt8) → Option (Wd × List (List UInt8))
 | [], t, su => some (t, su)
 | i :: l, t, su => match F i with
  | none => none
  | some x => match audP ks r (partB N i) t x.rd z32 with
   | none => none
   | some y => if y.2.1 = x.wr then audO ks r N F l y.1 (su.set i y.2.2) else none
section
variable {ks : List UInt8} {r rc : Rc} {N : Nat} {F : Nat → Option Pt} {i : Nat} {l : List Nat} {t t' : Wd} {a d : List UInt8} {su : List (List UInt8)}
theorem audP_nil : audP ks r [] t a d = some (t, a, d) := by simp only [audP]
theorem audP_lost (h : (readW t ((i : Int), (slotI r.sl (i : Int) : Int))).lost = true) : audP ks r (i :: l) t a d = none := by simp only [audP]; rw [if_pos h]
theorem audP_cons (h : (readW t ((i : Int), (slotI r.sl (i : Int) : Int))).lost = false) : audP ks r (i :: l) t a d = audP ks r l (readW t ((i : Int), (slotI r.sl (i : Int) : Int))) (addL a (ofL ks (i : Int) (readLw t ((i : Int), (slotI r.sl (i : Int) : Int))))) (addL d (ofL ks (i : Int) (readLw t ((i : Int), (slotI r.sl (i : Int) : Int))))) := by
 simp only [audP]; rw [if_neg (by rw [h]; simp)]
theorem audO_nil : audO ks r N F [] t su = some (t, su) := by simp only [audO]
theorem audO_cons {x : Pt} (h : F i = some x) (hp : audP ks r (partB N i) t x.rd z32 = some (t', x.wr, d)) : audO ks r N F (i :: l) t su = audO ks r N F l t' (su.set i d) := by
 simp only [audO, h, hp, if_true]
theorem audO_lost {x : Pt} (h : F i = some x) (hp : audP ks r (partB N i) t x.rd z32 = none) : audO ks r N F (i :: l) t su = none := by
 simp only [audO, h, hp]
theorem audO_bad {x : Pt} (h : F i = some x) (hp : audP ks r (partB N i) t x.rd z32 = some (t', a, d)) (hne : a ≠ x.wr) : audO ks r N F (i :: l) t su = none := by
 simp only [audO, h, hp, if_neg hne]
theorem partB_range (N i : Nat) : partB N i = List.range' (i * 16) (min ((i + 1) * 16) N - i * 16) := by
 unfold partB
 rw [List.range'_eq_map_range]
theorem audP_hw : ∀ (l : List Nat) (t : Wd) (a d : List UInt8), Hw t → (∀ i ∈ l, inR t.n ((i : Int), (slotI r.sl (i : Int) : Int)) = true) →
  ∃ t', audP ks r l t a d = some (t', foldV (curV ks r t.sl) l a, foldV (curV ks r t.sl) l d) ∧ Hw t' ∧ SameW t t' := by
 intro l
 induction l with
 | nil => intro t a d h _; exact ⟨t, by rw [audP_nil, foldV_nil, foldV_nil], h, ⟨rfl, rfl, rfl, rfl, rfl⟩⟩
 | cons i l ih =>
  intro t a d h hl
  obtain ⟨h1, h2, h3⟩ := hw_read h (hl i (by simp))
  obtain ⟨t', h4, h5, h6⟩ := ih _ (addL a (ofL ks (i : Int) (readLw t ((i : Int), (slotI r.sl (i : Int) : Int))))) (addL d (ofL ks (i : Int) (readLw t ((i : Int), (slotI r.sl (i : Int) : Int))))) h2 (fun j hj => by rw [h3.n]; exact hl j (by simp [hj]))
  refine ⟨t', ?_, h5, h3.trans h6⟩
  rw [audP_cons h2.lost, h4, h3.sl, foldV_cons, foldV_cons, h1]
  rfl
def setsL (v : Nat → List UInt8) (l : List Nat) (su : List (List UInt8)) : List (List UInt8) := l.foldl (fun su i => su.set i (v i)) su
theorem setsL_nil {v : Nat → List UInt8} : setsL v [] su = su := by simp only [setsL, List.foldl_nil]
theorem setsL_cons {v : Nat → List UInt8} : setsL v (i :: l) su = setsL v l (su.set i (v i)) := by simp only [setsL, List.foldl_cons]
theorem setsL_len {v : Nat → List UInt8} : ∀ (l : List Nat) (su : List (List UInt8)), (setsL v l su).length = su.length := by
 intro l
 induction l with
 | nil => intro su; rw [setsL_nil]
 | cons i l ih => intro su; rw [setsL_cons, ih, List.length_set]
theorem setsL_wide {v : Nat → List UInt8} (hv : ∀ i, (v i).length = 32) : ∀ (l : List Nat) (su : List (List UInt8)), (∀ d ∈ su, d.length = 32) → ∀ d ∈ setsL v l su, d.length = 32 := by
 intro l
 induction l with
 | nil => intro su h; rw [setsL_nil]; exact h
 | cons i l ih =>
  intro su h
  rw [setsL_cons]
  exact ih _ (fun d hd => (List.mem_or_eq_of_mem_set hd).elim (h d) (fun e => by rw [e]; exact hv i))
theorem setsL_out {v : Nat → List UInt8} {j : Nat} : ∀ (l : List Nat) (su : List (List UInt8)), j ∉ l → (setsL v l su).getD j [] = su.getD j [] := by
 intro l
 induction l with
 | nil => intro su _; rw [setsL_nil]
 | cons i l ih =>
  intro su h
  rw [setsL_cons, ih _ (fun h9 => h (by simp [h9])), List.getD_eq_getElem?_getD, List.getElem?_set_ne (fun e => h (by simp [e])), ← List.getD_eq_getElem?_getD]
theorem setsL_in {v : Nat → List UInt8} {j : Nat} : ∀ (l : List Nat) (su : List (List UInt8)), j ∈ l → j < su.length → (setsL v l su).getD j [] = v j := by
 intro l
 induction l with
 | nil => intro su h _; cases h
 | cons i l ih =>
  intro su h hj
  rw [setsL_cons]
  by_cases h9 : j ∈ l
  ·exact ih _ h9 (by rw [List.length_set]; exact hj)
  ·obtain rfl : j = i := by rcases List.mem_cons.1 h with e | e; exact e; exact absurd e h9
   rw [setsL_out _ _ h9, List.getD_eq_getElem?_getD, List.getElem?_set_self hj]
   rfl
theorem audO_hon : ∀ (l : List Nat) (t : Wd) (su : List (List UInt8)), Hon9 t rc r N → Bal ks rc r t.sl N F → (∀ i ∈ l, (F i).isSome = true) →
  ∃ t', audO ks r N F l t su = some (t', setsL (fun i => foldV (curV ks r t.sl) (partB N i) z32) l su) ∧ Hw t' ∧ SameW t t' := by
 intro l
 induction l with
 | nil => intro t su h _ _; exact ⟨t, by rw [audO_nil, setsL_nil], h.hw, ⟨rfl, rfl, rfl, rfl, rfl⟩⟩
 | cons i l ih =>
  intro t su h hb hl
  obtain ⟨x, hx⟩ := Option.isSome_iff_exists.1 (hl i (by simp))
  obtain ⟨t1, h1, h2, h3⟩ := audP_hw (ks := ks) (r := r) (partB N i) t x.rd z32 h.hw (fun j hj => by rw [h.n]; exact in_slot (partB_mem.1 hj).2.2 (slotI_le _ _))
  rw [← hb.touched i x hx] at h1
  obtain ⟨t', h4, h5, h6⟩ := ih t1 (su.set i (foldV (curV ks r t.sl) (partB N i) z32)) ⟨h2, by rw [h3.n]; exact h.n, h.rtc, h.rtn, h.bc, h.bn, by rw [h3.sl]; exact h.len⟩ (by rw [h3.sl]; exact hb) (fun j hj => hl j (by simp [hj]))
  refine ⟨t', ?_, h5, h3.trans h6⟩
  rw [audO_cons hx h1, h4, h3.sl, setsL_cons]
end
end Go.Proofs.YtcehkafddlfleaaGreatDoor
