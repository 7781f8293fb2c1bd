/-  -/
import Derived.Test.YtcehkafddlfleaaGreatDoorG02
import Derived.Test.YtcehkafddlfleaaGreatDoorG20
import Derived.Test.YtcehkafddlfleaaGreatDoorG04
namespace Go.Proofs.YtcehkafddlfleaaGreatDoor
open Go.RowKit
theorem rcL_one (num : Nat) (blk : Int) (A : Option Addr) (n c : Nat) (D : Option Addr) (m e : Nat) : ∀ v ∈ rcL num blk A n c D m e, v.oneCell' = true := by
 intro v hv; simp at hv; rcases hv with rfl | rfl | rfl | rfl <;> rfl
theorem own_le {w : World} {B B' n size : Nat} {e : TypeId} {v : Value} {xs : List Value} (h : w.ownsRow B e size v n xs) (hb : B' ≤ B) : w.ownsRow B' e size v n xs := by
 refine ⟨h.1, ?_⟩
 rcases h.2 with ⟨rfl, rfl⟩ | ⟨g', cap, cur, rfl, hg', hr⟩
 ·exact .inl ⟨rfl, rfl⟩
 ·exact .inr ⟨g', cap, cur, rfl, Nat.le_trans hb hg', hr⟩
theorem clone8b (B : Nat) (A : Option Addr) (n c : Nat) (l : List UInt8) (w : World) (hB : B ≤ w.heap.size) (ha : Bs w w.heap.size A n c l) (hn : n ≤ 4294967296) :
  Calls Tryz.prog 209 #[.slice A n c] w fun e w' => ∃ v, e = .returned v ∧ w'.ownsRow B 5 1 v n (cells8 l) ∧ Below w.heap.size w w' :=
 (clone8_any A n c l w ha hn).mono fun _ _ ⟨v, h1, h2, h3⟩ => ⟨v, h1, own_le h2 hB, h3⟩
theorem clone32b (B : Nat) (A : Option Addr) (n c : Nat) (l : List (List UInt8)) (w : World) (hB : B ≤ w.heap.size) (ha : Ds w w.heap.size A n c l) (hn : n ≤ 1000000) :
  Calls Tryz.prog 154 #[.slice A n c] w fun e w' => ∃ v, e = .returned v ∧ w'.ownsRow B 173 32 v n (cells8 l.flatten) ∧ Below w.heap.size w w' :=
 (clone32_any A n c l w ha hn).mono fun _ _ ⟨v, h1, h2, h3⟩ => ⟨v, h1, own_le h2 hB, h3⟩
theorem own_apart {w : World} {B g : Nat} {v : Value} {n m cap : Nat} {xs ys : List Value} {z : Value} (h : w.ownsRow B 173 32 v n xs) (h2 : w.ownsRow B 5 1 (.slice (some ⟨g, 0, none⟩) m cap) m ys) (j : Nat) : (w.setCell ⟨g, j, none⟩ z).ownsRow B 173 32 v n xs := by
 refine ownsRow_setCell_other h (fun hg => ?_) z
 rcases h2.2 with ⟨h', _⟩ | ⟨g2, _, c2, h', _, e2, _⟩
 ·cases h'
 ·cases h'
  rcases h.2 with ⟨rfl, _⟩ | ⟨g1, _, c1, rfl, _, e1, _⟩
  ·cases hg
  ·cases hg
   rw [e1] at e2
   cases e2
theorem flipL_far (l : List UInt8) (k : Nat) (h : l.length ≤ k / 8) : flipL l k = l := by unfold flipL; rw [List.set_eq_of_length_le h]
theorem flipL_at (l : List UInt8) (k q j : Nat) (hq : k / 8 = q) (hj : k % 8 = j) (h : q < l.length) : flipL l k = l.set q (flip8 l[q] j) := by
 subst hq hj
 unfold flipL flip8
 simp [List.getD, List.getElem?_eq_getElem h]
theorem own_only {w w' : World} {B g n size : Nat} {e : TypeId} {v : Value} {xs : List Value} (h : w.ownsRow B e size v n xs) (ho : Only g w w') (hg : g < B) : w'.ownsRow B e size v n xs := by
 refine ⟨h.1, ?_⟩
 rcases h.2 with ⟨rfl, rfl⟩ | ⟨g', cap, cur, rfl, hg', hh, hn, hm, hs, ht⟩
 ·exact .inl ⟨rfl, rfl⟩
 ·exact .inr ⟨g', cap, cur, rfl, hg', (ho.block g' (by omega)).trans hh, hn, hm, hs, ht⟩
theorem own_sl {w : World} {B n size : Nat} {e : TypeId} {v : Value} {xs : List Value} (h : w.ownsRow B e size v n xs) : ∃ A c, v = .slice A n c := by
 rcases h.2 with ⟨rfl, rfl⟩ | ⟨g', cap, cur, rfl, _⟩
 ·exact ⟨_, _, rfl⟩
 ·exact ⟨_, _, rfl⟩
theorem Bs.of_own' {w : World} {B n c : Nat} {e : TypeId} {A : Option Addr} {l : List UInt8} (h : w.ownsRow B e 1 (.slice A n c) n (cells8 l)) : Bs w w.heap.size A n c l := by
 obtain ⟨A', c', e1, h1⟩ := Bs.of_own h
 cases e1
 exact h1
theorem Ds.of_own' {w : World} {B n c : Nat} {e : TypeId} {A : Option Addr} {ds : List (List UInt8)} (hd : ∀ d ∈ ds, d.length = 32) (h : w.ownsRow B e 32 (.slice A n c) n (cells8 ds.flatten)) : Ds w w.heap.size A n c ds := by
 obtain ⟨A', c', e1, h1⟩ := Ds.of_own hd h
 cases e1
 exact h1
set_option maxRecDepth 100000 in
set_option maxHeartbeats 4000000 in
theorem flip_any (r : Rc) (A : Option Addr) (n c : Nat) (D : Option Addr) (m e : Nat) (a : Int) (w : World) (hR : Rs w w.heap.size A n c D m e r) (ha : -9223372036854775808 ≤ a ∧ a < 9223372036854775808) (hn : n ≤ 4294967296) (hm : m ≤ 1000000) :
  Calls Tryz.prog 153 #[rcV r A n c D m e, .int .i64 a] w fun x w' => ∃ A' c' D' e', x = .returned (rcV (flipR r a) A' n c' D' m e') ∧ RsN w.heap.size w' A' n c' D' m e' (flipR r a) ∧ Below w.heap.size w w' := by
 obtain ⟨num, blk, sl, su⟩ := r
 have HR : Kp _ := ⟨hR⟩
 have HL : Kp (sl.length = n) := ⟨hR.sl.len⟩
 have HWd : Kp (∀ d ∈ su, d.length = 32) := ⟨hR.su.wide⟩
 have HNB : Kp (num < 18446744073709551616 ∧ -9223372036854775808 ≤ blk ∧ blk < 9223372036854775808) := ⟨hR.num, hR.blk⟩
 have HN8 : Kp (n ≤ 4294967296) := ⟨hn⟩
 have HM8 : Kp (m ≤ 1000000) := ⟨hm⟩
 clear hR
 have HC : Kp (a < 0 ∨ (0 ≤ a ∧ blk ≤ a) ∨ (∃ k : Nat, a = (k : Int) ∧ (k : Int) < blk ∧ n ≤ k / 8) ∨ (∃ k : Nat, a = (k : Int) ∧ (k : Int) < blk ∧ k / 8 < n)) := ⟨by
  rcases Int.lt_or_le a 0 with h | h
  ·exact .inl h
  ·rcases Int.lt_or_le a blk with h2 | h2
   ·obtain ⟨k, rfl⟩ : ∃ k : Nat, a = (k : Int) := ⟨a.toNat, by omega⟩
    rcases Nat.lt_or_ge (k / 8) n with h3 | h3
    ·exact .inr (.inr (.inr ⟨k, rfl, h2, h3⟩))
    ·exact .inr (.inr (.inl ⟨k, rfl, h2, h3⟩))
   ·exact .inr (.inl ⟨h, h2⟩)⟩
 obtain ⟨ha1, ha2⟩ := ha
 clear hn hm
 go_enter Tryz.func153, Tryz.ntmps153
 go_wp2_with (with_reducible refine wpList_box (o := ⟨some 2, _, _, _, _, _⟩) (cs := rcL num blk A n c D m e) rfl (.tmp 0) rfl rfl ?_)
 intro w1 hk1 hb1 hs1
 have HK1 : Kp _ := ⟨hk1⟩
 have HB1 : Kp _ := ⟨hb1⟩
 clear hk1 hb1 hs1
 go_wp2_with (with_reducible refine wpList_alloc (o := ⟨some 4, _, _, _, _, _⟩) tySeal rfl rfl ?_)
 intro w2 hk2 hb2 hs2
 have HKr : Kp _ := ⟨hk2⟩
 have HB2 : Kp (Below w.heap.size w w2) := ⟨HB1.out.trans (hb2.mono HB1.out.size)⟩
 have HKa : Kp (Blk w2 w.heap.size 63 (rcL num blk A n c D m e)) := ⟨HK1.out.below hb2 HK1.out.lt⟩
 have HZ : Kp (w.heap.size < w1.heap.size ∧ w1.heap.size < w2.heap.size) := ⟨HK1.out.lt, HKr.out.lt⟩
 have H8o : Kp (∀ W, Below w2.heap.size w2 W → Bs W W.heap.size A n c sl) := ⟨fun W h => HR.out.sl.next (HB2.out.trans (h.mono HB2.out.size)) (Nat.le_refl _)⟩
 have H32o : Kp (∀ W, Below w2.heap.size w2 W → Ds W W.heap.size D m e su) := ⟨fun W h => HR.out.su.next (HB2.out.trans (h.mono HB2.out.size)) (Nat.le_refl _)⟩
 have hBW : Below w2.heap.size w2 w2 := Below.refl _ _
 clear hk2 hb2 hs2 HK1 HR HB1
 go_wp2_with fail
 refine wp_region_any (by kernel_rfl) ?_
 change wpAny _ _ _ _ _ _ _ w2.drew
 replace HKa : Kp _ := ⟨HKa.out.drew⟩
 replace HKr : Kp _ := ⟨HKr.out.drew⟩
 replace hBW := hBW.drew
 generalize w2.drew = wS at *
 refine wT 0 5 ?_ rfl ?_
 try simp only [Act.put, sA, sB, sC]
 refine wT 3 8 ?_ rfl ?_
 try simp only [Act.put, sA, sB, sC]
 refine rK [1, 4] ?_
 refine aS 6 9 rfl rfl (fun K hK => ?_) fun K hK => ?_
 ·have ce : wS.cell? ⟨w.heap.size, 2, none⟩ = some (.slice A n c) := HKa.out.cell? 2
  go_simp
  refine hK _ _ ?_
  clear hK K ce
  try simp only [Act.put, sA, sB, sC]
  refine rK [2, 4] ?_
  refine aS 7 9 rfl rfl (fun K hK => ?_) fun K hK => ?_
  ·go_simp
   refine (clone8b w2.heap.size A n c sl wS hBW.size (H8o.out wS hBW) HN8.out).mono ?_
   rintro e w62 ⟨v8, rfl, hown8, hb'⟩
   refine hK _ _ ?_
   clear hK K
   try simp only [Act.put, sA, sB, sC]
   replace HKa : Kp _ := ⟨HKa.out.below hb' HKa.out.lt⟩
   replace HKr : Kp _ := ⟨HKr.out.below hb' HKr.out.lt⟩
   replace hBW := hBW.trans (hb'.mono hBW.size)
   obtain ⟨A8, c8, rfl⟩ := own_sl hown8
   have H8 : Kp _ := ⟨hown8⟩
   clear hown8
   clear hb'
   refine rK [4] ?_
   refine aR 9 rfl fun K hK => ?_
   have ce : w62.cell? ⟨w.heap.size, 3, none⟩ = some (.slice D m e) := HKa.out.cell? 3
   go_simp
   refine hK _ _ ?_
   clear hK K ce
   try simp only [Act.put, sA, sB, sC]
   refine wT 6 11 ?_ rfl ?_
   try simp only [Act.put, sA, sB, sC]
   refine rK [5] ?_
   refine aR 10 rfl fun K hK => ?_
   go_simp
   refine (clone32b w2.heap.size D m e su w62 hBW.size (H32o.out w62 hBW) HM8.out).mono ?_
   rintro e w64 ⟨v32, rfl, hown32, hb'⟩
   refine hK _ _ ?_
   clear hK K
   try simp only [Act.put, sA, sB, sC]
   replace HKa : Kp _ := ⟨HKa.out.below hb' HKa.out.lt⟩
   replace HKr : Kp _ := ⟨HKr.out.below hb' HKr.out.lt⟩
   replace hBW := hBW.trans (hb'.mono hBW.size)
   replace H8 : Kp _ := ⟨own_below H8.out hb'⟩
   obtain ⟨D32, c32, rfl⟩ := own_sl hown32
   have H32 : Kp _ := ⟨hown32⟩
   clear hown32
   clear hb'
   refine rK [7] ?_
   refine AllReady.cons (o := ⟨none, _, _, _, _, _⟩) rfl (fun K hK => ?_) AllReady.nil
   have ce : w64.cell? ⟨w.heap.size, 2, none⟩ = some (.slice A n c) := HKa.out.cell? 2
   have fe := HKa.out.frozen 2
   go_simp
   refine hK _ _ ?_
   clear hK K ce fe
   try simp only [Act.put]
   replace HKa : Kp _ := ⟨HKa.out.set 2 (.slice A8 n c8)⟩
   replace HKr : Kp _ := ⟨HKr.out.other (p := ⟨w.heap.size, 2, none⟩) (by show w1.heap.size ≠ w.heap.size; have := HZ.out.1; omega) (.slice A8 n c8)⟩
   replace H8 : Kp _ := ⟨ownsRow_setCell_below H8.out (a := ⟨w.heap.size, 2, none⟩) (by show w.heap.size < w2.heap.size; have := HZ.out; omega) (.slice A8 n c8)⟩
   replace H32 : Kp _ := ⟨ownsRow_setCell_below H32.out (a := ⟨w.heap.size, 2, none⟩) (by show w.heap.size < w2.heap.size; have := HZ.out; omega) (.slice A8 n c8)⟩
   have hBZ : Below w.heap.size w _ := (HB2.out.trans (hBW.mono HB2.out.size)).setCell (p := ⟨w.heap.size, 2, none⟩) (Nat.le_refl _) (.slice A8 n c8)
   clear hBW
   generalize w64.setCell ⟨w.heap.size, 2, none⟩ (.slice A8 n c8) = w65 at *
   refine wT 8 12 ?_ rfl ?_
   try simp only [Act.put, sA, sB, sC]
   refine rK [9] ?_
   refine AllReady.cons (o := ⟨none, _, _, _, _, _⟩) rfl (fun K hK => ?_) AllReady.nil
   have ce : w65.cell? ⟨w.heap.size, 3, none⟩ = some (.slice D m e) := HKa.out.cell? 3
   have fe := HKa.out.frozen 3
   go_simp
   refine hK _ _ ?_
   clear hK K ce fe
   try simp only [Act.put]
   replace HKa : Kp _ := ⟨HKa.out.set 3 (.slice D32 m c32)⟩
   replace HKr : Kp _ := ⟨HKr.out.other (p := ⟨w.heap.size, 3, none⟩) (by show w1.heap.size ≠ w.heap.size; have := HZ.out.1; omega) (.slice D32 m c32)⟩
   replace H8 : Kp _ := ⟨ownsRow_setCell_below H8.out (a := ⟨w.heap.size, 3, none⟩) (by show w.heap.size < w2.heap.size; have := HZ.out; omega) (.slice D32 m c32)⟩
   replace H32 : Kp _ := ⟨ownsRow_setCell_below H32.out (a := ⟨w.heap.size, 3, none⟩) (by show w.heap.size < w2.heap.size; have := HZ.out; omega) (.slice D32 m c32)⟩
   replace hBZ := hBZ.setCell (p := ⟨w.heap.size, 3, none⟩) (Nat.le_refl _) (.slice D32 m c32)
   generalize w65.setCell ⟨w.heap.size, 3, none⟩ (.slice D32 m c32) = w66 at *
   refine wpAny_done (by kernel_rfl) ?_ _
   have HBZ : Kp _ := ⟨hBZ⟩
   clear hBZ
   have a1 : w66.cell? ⟨w.heap.size, 1, none⟩ = some (.int .i64 blk) := HKa.out.cell? 1
   have a2 : w66.cell? ⟨w.heap.size, 2, none⟩ = some (.slice A8 n c8) := HKa.out.cell? 2
   have hn63 : n ≤ 4294967296 := HN8.out
   rcases HC.out with hc | ⟨hc0, hc⟩ | ⟨k, rfl, hkb, hc⟩ | ⟨k, rfl, hkb, hc⟩
   ·have HF : Kp (flipR ⟨num, blk, sl, su⟩ a = ⟨num, blk, sl, su⟩) := ⟨by unfold flipR; rw [if_neg (by omega)]⟩
    go_wp2_with (first
     | (with_reducible refine wpList_loadAll (o := ⟨some 40, _, _, _, _, _⟩) rwSeal rfl (.tmp 2) rfl rfl HKa.out rfl ?_)
     | (with_reducible refine wpList_storeAll (o := ⟨none, _, _, _, _, _⟩) (vs := rcL num blk A8 n c8 D32 m c32) rwSeal rfl (.tmp 4) (.tmp 40) rfl rfl HKr.out rfl rfl (rcL_one _ _ _ _ _ _ _ _) rfl ?_))
    intro w9 hk9 ho9
    have HK9 : Kp _ := ⟨hk9⟩
    have HB9 : Kp (Below w.heap.size w w9) := ⟨HBZ.out.trans (ho9.below (by have := HZ.out; omega))⟩
    have F9 : Kp _ := ⟨And.intro (Fr.low (Fr.own H8.out) (by have := HZ.out; omega : w.heap.size ≤ _)) (Fr.low (Fr.own H32.out) (by have := HZ.out; omega : w.heap.size ≤ _))⟩
    have X8 : Kp _ := ⟨Bs.of_own' (own_only H8.out ho9 HZ.out.2)⟩
    have X32 : Kp _ := ⟨Ds.of_own' HWd.out (own_only H32.out ho9 HZ.out.2)⟩
    clear hk9 ho9 H8 H32
    go_wp2
    refine ret_arr rfl rwSeal rfl HK9.out rfl rfl ?_
    refine ⟨A8, c8, D32, c32, by rw [HF.out], ?_, HB9.out⟩
    rw [HF.out]
    exact ⟨⟨HNB.out.1, HNB.out.2, X8.out, X32.out⟩, F9.out.1, F9.out.2⟩
   ·have HF : Kp (flipR ⟨num, blk, sl, su⟩ a = ⟨num, blk, sl, su⟩) := ⟨by unfold flipR; rw [if_neg (by simp only; omega)]⟩
    go_wp2_with (first
     | (with_reducible refine wpList_loadAll (o := ⟨some 40, _, _, _, _, _⟩) rwSeal rfl (.tmp 2) rfl rfl HKa.out rfl ?_)
     | (with_reducible refine wpList_storeAll (o := ⟨none, _, _, _, _, _⟩) (vs := rcL num blk A8 n c8 D32 m c32) rwSeal rfl (.tmp 4) (.tmp 40) rfl rfl HKr.out rfl rfl (rcL_one _ _ _ _ _ _ _ _) rfl ?_))
    intro w9 hk9 ho9
    have HK9 : Kp _ := ⟨hk9⟩
    have HB9 : Kp (Below w.heap.size w w9) := ⟨HBZ.out.trans (ho9.below (by have := HZ.out; omega))⟩
    have F9 : Kp _ := ⟨And.intro (Fr.low (Fr.own H8.out) (by have := HZ.out; omega : w.heap.size ≤ _)) (Fr.low (Fr.own H32.out) (by have := HZ.out; omega : w.heap.size ≤ _))⟩
    have X8 : Kp _ := ⟨Bs.of_own' (own_only H8.out ho9 HZ.out.2)⟩
    have X32 : Kp _ := ⟨Ds.of_own' HWd.out (own_only H32.out ho9 HZ.out.2)⟩
    clear hk9 ho9 H8 H32
    go_wp2
    refine ret_arr rfl rwSeal rfl HK9.out rfl rfl ?_
    refine ⟨A8, c8, D32, c32, by rw [HF.out], ?_, HB9.out⟩
    rw [HF.out]
    exact ⟨⟨HNB.out.1, HNB.out.2, X8.out, X32.out⟩, F9.out.1, F9.out.2⟩
   ·have HF : Kp (flipR ⟨num, blk, sl, su⟩ (k : Int) = ⟨num, blk, sl, su⟩) := ⟨by unfold flipR; rw [if_pos ⟨by omega, hkb⟩, Int.toNat_natCast, flipL_far _ _ (by rw [HL.out]; exact hc)]⟩
    obtain ⟨q, hq⟩ : ∃ q, k / 8 = q := ⟨_, rfl⟩
    have hk0 : (0 : Int) ≤ (k : Int) := by omega
    have kq : ((k : Int)).tdiv 8 = (q : Int) := by rw [Int.tdiv_eq_ediv_of_nonneg (by omega)]; omega
    have kq2 : (k : Int) / 8 = (q : Int) := by omega
    have hqn : ¬ ((q : Int) < (n : Int)) := by omega
    go_wp2_with (first
     | (with_reducible refine wpList_loadAll (o := ⟨some 40, _, _, _, _, _⟩) rwSeal rfl (.tmp 2) rfl rfl HKa.out rfl ?_)
     | (with_reducible refine wpList_storeAll (o := ⟨none, _, _, _, _, _⟩) (vs := rcL num blk A8 n c8 D32 m c32) rwSeal rfl (.tmp 4) (.tmp 40) rfl rfl HKr.out rfl rfl (rcL_one _ _ _ _ _ _ _ _) rfl ?_))
    intro w9 hk9 ho9
    have HK9 : Kp _ := ⟨hk9⟩
    have HB9 : Kp (Below w.heap.size w w9) := ⟨HBZ.out.trans (ho9.below (by have := HZ.out; omega))⟩
    have F9 : Kp _ := ⟨And.intro (Fr.low (Fr.own H8.out) (by have := HZ.out; omega : w.heap.size ≤ _)) (Fr.low (Fr.own H32.out) (by have := HZ.out; omega : w.heap.size ≤ _))⟩
    have X8 : Kp _ := ⟨Bs.of_own' (own_only H8.out ho9 HZ.out.2)⟩
    have X32 : Kp _ := ⟨Ds.of_own' HWd.out (own_only H32.out ho9 HZ.out.2)⟩
    clear hk9 ho9 H8 H32
    go_wp2
    refine ret_arr rfl rwSeal rfl HK9.out rfl rfl ?_
    refine ⟨A8, c8, D32, c32, by rw [HF.out], ?_, HB9.out⟩
    rw [HF.out]
    exact ⟨⟨HNB.out.1, HNB.out.2, X8.out, X32.out⟩, F9.out.1, F9.out.2⟩
   ·have HF : Kp (flipR ⟨num, blk, sl, su⟩ (k : Int) = ⟨num, blk, flipL sl k, su⟩) := ⟨by unfold flipR; rw [if_pos ⟨by omega, hkb⟩, Int.toNat_natCast]⟩
    obtain ⟨q, hq⟩ : ∃ q, k / 8 = q := ⟨_, rfl⟩
    have hk0 : (0 : Int) ≤ (k : Int) := by omega
    have kq : ((k : Int)).tdiv 8 = (q : Int) := by rw [Int.tdiv_eq_ediv_of_nonneg (by omega)]; omega
    have kq2 : (k : Int) / 8 = (q : Int) := by omega
    obtain ⟨j, hj⟩ : ∃ j, k % 8 = j := ⟨_, rfl⟩
    have hj8 : j < 8 := by omega
    have kj : ((k : Int)).tmod 8 = (j : Int) := by rw [Int.tmod_eq_emod_of_nonneg (by omega)]; omega
    have kj2 : (k : Int) % 8 = (j : Int) := by omega
    have hqn : (q : Int) < (n : Int) := by omega
    have hqs : q < sl.length := by rw [HL.out]; omega
    obtain ⟨g, c8', e8, _, hg2, hgl⟩ := own_some H8.out (by omega)
    cases e8
    have HC8 : Kp (cells8 (flipL sl k) = (cells8 sl).set q (.int .u8 ((flip8 sl[q] j).toNat : Int))) := ⟨by rw [flipL_at sl k q j hq hj hqs, cells8_set]⟩
    have HV : Kp _ := ⟨flip8_val sl[q] (j : Int)⟩
    have c1 : w66.cell? ⟨g, q, none⟩ = some (.int .u8 (sl[q].toNat : Int)) := by rw [World.ownsRow.cellAt H8.out q (by omega)]; exact cells8_at sl q hqs
    have f1 : w66.frozen? ⟨g, q, none⟩ = false := World.ownsRow.frozenAt H8.out q
    have c2 : w66.drew.cell? ⟨g, q, none⟩ = some (.int .u8 (sl[q].toNat : Int)) := c1
    have f2 : w66.drew.frozen? ⟨g, q, none⟩ = false := f1
    have hx8 : sl[q].toNat < 256 := sl[q].toNat_lt
    have HG2 : Kp (g ≠ w.heap.size ∧ g ≠ w1.heap.size) := ⟨by have := HZ.out; omega, by have := HZ.out; omega⟩
    have wq : IntKind.i64.wrap (q : Int) = (q : Int) := by rw [IntKind.wrap_i64]; omega
    have wj : IntKind.i64.wrap (j : Int) = (j : Int) := by rw [IntKind.wrap_i64]; omega
    generalize hy : (flip8 sl[q] j).toNat = y at *
    have hv : bits .xor .u8 (sl[q].toNat : Int) (2 ^ j % 256) = (y : Int) := by rw [← hy]; exact flip8_val sl[q] (j : Int)
    have hv2 : bits .xor .u8 (sl[q].toNat : Int) (IntKind.u8.wrap (2 ^ j)) = (y : Int) := by rw [← hv]; rfl
    generalize sl[q].toNat = x at *
    clear hy HV
    go_wp2_with fail
    go_still_tail 11, (by kernel_rfl)
    change wpList _ _ _ _ _ w66.drew
    clear ha1 ha2 hn63 kq kq2 kj kj2 wq wj hx8 hqn c1 f1 a1 a2 hk0
    replace HKa : Kp _ := ⟨(HKa.out.other (p := ⟨g, q, none⟩) (by show w.heap.size ≠ g; exact fun h => HG2.out.1 h.symm) (.int .u8 (y : Int))).drew⟩
    replace HKr : Kp _ := ⟨(HKr.out.other (p := ⟨g, q, none⟩) (by show w1.heap.size ≠ g; exact fun h => HG2.out.2 h.symm) (.int .u8 (y : Int))).drew⟩
    replace H32 : Kp _ := ⟨World.ownsRow.drew (own_apart H32.out H8.out q (z := .int .u8 (y : Int)))⟩
    replace H8 : Kp _ := ⟨World.ownsRow.drew (H8.out.stored q (.int .u8 (y : Int))).1⟩
    rw [← HC8.out] at H8
    have HGs : Kp (w2.heap.size ≤ g) := ⟨hg2⟩
    replace HBZ : Kp _ := ⟨(HBZ.out.setCell (p := ⟨g, q, none⟩) (by show w.heap.size ≤ g; have := HZ.out; omega) (.int .u8 (y : Int))).drew⟩
    clear hg2 hgl
    go_wp2_with (first
     | (with_reducible refine wpList_loadAll (o := ⟨some 40, _, _, _, _, _⟩) rwSeal rfl (.tmp 2) rfl rfl HKa.out rfl ?_)
     | (with_reducible refine wpList_storeAll (o := ⟨none, _, _, _, _, _⟩) (vs := rcL num blk (some ⟨g, 0, none⟩) n c8 D32 m c32) rwSeal rfl (.tmp 4) (.tmp 40) rfl rfl HKr.out rfl rfl (rcL_one _ _ _ _ _ _ _ _) rfl ?_))
    intro w9 hk9 ho9
    have HK9 : Kp _ := ⟨hk9⟩
    have HB9 : Kp (Below w.heap.size w w9) := ⟨HBZ.out.trans (ho9.below (by have := HZ.out; omega))⟩
    have F9 : Kp _ := ⟨And.intro (Fr.low (Fr.own H8.out) (by have := HZ.out; omega : w.heap.size ≤ _)) (Fr.low (Fr.own H32.out) (by have := HZ.out; omega : w.heap.size ≤ _))⟩
    have X8 : Kp _ := ⟨Bs.of_own' (own_only H8.out ho9 HZ.out.2)⟩
    have X32 : Kp _ := ⟨Ds.of_own' HWd.out (own_only H32.out ho9 HZ.out.2)⟩
    clear hk9 ho9 H8 H32
    go_wp2
    refine ret_arr rfl rwSeal rfl HK9.out rfl rfl ?_
    refine ⟨some ⟨g, 0, none⟩, c8, D32, c32, by rw [HF.out], ?_, HB9.out⟩
    rw [HF.out]
    exact ⟨⟨HNB.out.1, HNB.out.2, X8.out, X32.out⟩, F9.out.1, F9.out.2⟩
  ·have ce : wS.cell? ⟨w.heap.size, 3, none⟩ = some (.slice D m e) := HKa.out.cell? 3
   go_simp
   refine hK _ _ ?_
   clear hK K ce
   try simp only [Act.put, sA, sB, sC]
   refine rK [2] ?_
   refine aR 7 rfl fun K hK => ?_
   go_simp
   refine (clone8b w2.heap.size A n c sl wS hBW.size (H8o.out wS hBW) HN8.out).mono ?_
   rintro e w68 ⟨v8, rfl, hown8, hb'⟩
   refine hK _ _ ?_
   clear hK K
   try simp only [Act.put, sA, sB, sC]
   replace HKa : Kp _ := ⟨HKa.out.below hb' HKa.out.lt⟩
   replace HKr : Kp _ := ⟨HKr.out.below hb' HKr.out.lt⟩
   replace hBW := hBW.trans (hb'.mono hBW.size)
   obtain ⟨A8, c8, rfl⟩ := own_sl hown8
   have H8 : Kp _ := ⟨hown8⟩
   clear hown8
   clear hb'
   refine wT 6 11 ?_ rfl ?_
   try simp only [Act.put, sA, sB, sC]
   refine rK [5] ?_
   refine aR 10 rfl fun K hK => ?_
   go_simp
   refine (clone32b w2.heap.size D m e su w68 hBW.size (H32o.out w68 hBW) HM8.out).mono ?_
   rintro e w69 ⟨v32, rfl, hown32, hb'⟩
   refine hK _ _ ?_
   clear hK K
   try simp only [Act.put, sA, sB, sC]
   replace HKa : Kp _ := ⟨HKa.out.below hb' HKa.out.lt⟩
   replace HKr : Kp _ := ⟨HKr.out.below hb' HKr.out.lt⟩
   replace hBW := hBW.trans (hb'.mono hBW.size)
   replace H8 : Kp _ := ⟨own_below H8.out hb'⟩
   obtain ⟨D32, c32, rfl⟩ := own_sl hown32
   have H32 : Kp _ := ⟨hown32⟩
   clear hown32
   clear hb'
   refine rK [7] ?_
   refine AllReady.cons (o := ⟨none, _, _, _, _, _⟩) rfl (fun K hK => ?_) AllReady.nil
   have ce : w69.cell? ⟨w.heap.size, 2, none⟩ = some (.slice A n c) := HKa.out.cell? 2
   have fe := HKa.out.frozen 2
   go_simp
   refine hK _ _ ?_
   clear hK K ce fe
   try simp only [Act.put]
   replace HKa : Kp _ := ⟨HKa.out.set 2 (.slice A8 n c8)⟩
   replace HKr : Kp _ := ⟨HKr.out.other (p := ⟨w.heap.size, 2, none⟩) (by show w1.heap.size ≠ w.heap.size; have := HZ.out.1; omega) (.slice A8 n c8)⟩
   replace H8 : Kp _ := ⟨ownsRow_setCell_below H8.out (a := ⟨w.heap.size, 2, none⟩) (by show w.heap.size < w2.heap.size; have := HZ.out; omega) (.slice A8 n c8)⟩
   replace H32 : Kp _ := ⟨ownsRow_setCell_below H32.out (a := ⟨w.heap.size, 2, none⟩) (by show w.heap.size < w2.heap.size; have := HZ.out; omega) (.slice A8 n c8)⟩
   have hBZ : Below w.heap.size w _ := (HB2.out.trans (hBW.mono HB2.out.size)).setCell (p := ⟨w.heap.size, 2, none⟩) (Nat.le_refl _) (.slice A8 n c8)
   clear hBW
   generalize w69.setCell ⟨w.heap.size, 2, none⟩ (.slice A8 n c8) = w70 at *
   refine wT 8 12 ?_ rfl ?_
   try simp only [Act.put, sA, sB, sC]
   refine rK [9] ?_
   refine AllReady.cons (o := ⟨none, _, _, _, _, _⟩) rfl (fun K hK => ?_) AllReady.nil
   have ce : w70.cell? ⟨w.heap.size, 3, none⟩ = some (.slice D m e) := HKa.out.cell? 3
   have fe := HKa.out.frozen 3
   go_simp
   refine hK _ _ ?_
   clear hK K ce fe
   try simp only [Act.put]
   replace HKa : Kp _ := ⟨HKa.out.set 3 (.slice D32 m c32)⟩
   replace HKr : Kp _ := ⟨HKr.out.other (p := ⟨w.heap.size, 3, none⟩) (by show w1.heap.size ≠ w.heap.size; have := HZ.out.1; omega) (.slice D32 m c32)⟩
   replace H8 : Kp _ := ⟨ownsRow_setCell_below H8.out (a := ⟨w.heap.size, 3, none⟩) (by show w.heap.size < w2.heap.size; have := HZ.out; omega) (.slice D32 m c32)⟩
   replace H32 : Kp _ := ⟨ownsRow_setCell_below H32.out (a := ⟨w.heap.size, 3, none⟩) (by show w.heap.size < w2.heap.size; have := HZ.out; omega) (.slice D32 m c32)⟩
   replace hBZ := hBZ.setCell (p := ⟨w.heap.size, 3, none⟩) (Nat.le_refl _) (.slice D32 m c32)
   generalize w70.setCell ⟨w.heap.size, 3, none⟩ (.slice D32 m c32) = w71 at *
   refine wpAny_done (by kernel_rfl) ?_ _
   have HBZ : Kp _ := ⟨hBZ⟩
   clear hBZ
   have a1 : w71.cell? ⟨w.heap.size, 1, none⟩ = some (.int .i64 blk) := HKa.out.cell? 1
   have a2 : w71.cell? ⟨w.heap.size, 2, none⟩ = some (.slice A8 n c8) := HKa.out.cell? 2
   have hn63 : n ≤ 4294967296 := HN8.out
   rcases HC.out with hc | ⟨hc0, hc⟩ | ⟨k, rfl, hkb, hc⟩ | ⟨k, rfl, hkb, hc⟩
   ·have HF : Kp (flipR ⟨num, blk, sl, su⟩ a = ⟨num, blk, sl, su⟩) := ⟨by unfold flipR; rw [if_neg (by omega)]⟩
    go_wp2_with (first
     | (with_reducible refine wpList_loadAll (o := ⟨some 40, _, _, _, _, _⟩) rwSeal rfl (.tmp 2) rfl rfl HKa.out rfl ?_)
     | (with_reducible refine wpList_storeAll (o := ⟨none, _, _, _, _, _⟩) (vs := rcL num blk A8 n c8 D32 m c32) rwSeal rfl (.tmp 4) (.tmp 40) rfl rfl HKr.out rfl rfl (rcL_one _ _ _ _ _ _ _ _) rfl ?_))
    intro w9 hk9 ho9
    have HK9 : Kp _ := ⟨hk9⟩
    have HB9 : Kp (Below w.heap.size w w9) := ⟨HBZ.out.trans (ho9.below (by have := HZ.out; omega))⟩
    have F9 : Kp _ := ⟨And.intro (Fr.low (Fr.own H8.out) (by have := HZ.out; omega : w.heap.size ≤ _)) (Fr.low (Fr.own H32.out) (by have := HZ.out; omega : w.heap.size ≤ _))⟩
    have X8 : Kp _ := ⟨Bs.of_own' (own_only H8.out ho9 HZ.out.2)⟩
    have X32 : Kp _ := ⟨Ds.of_own' HWd.out (own_only H32.out ho9 HZ.out.2)⟩
    clear hk9 ho9 H8 H32
    go_wp2
    refine ret_arr rfl rwSeal rfl HK9.out rfl rfl ?_
    refine ⟨A8, c8, D32, c32, by rw [HF.out], ?_, HB9.out⟩
    rw [HF.out]
    exact ⟨⟨HNB.out.1, HNB.out.2, X8.out, X32.out⟩, F9.out.1, F9.out.2⟩
   ·have HF : Kp (flipR ⟨num, blk, sl, su⟩ a = ⟨num, blk, sl, su⟩) := ⟨by unfold flipR; rw [if_neg (by simp only; omega)]⟩
    go_wp2_with (first
     | (with_reducible refine wpList_loadAll (o := ⟨some 40, _, _, _, _, _⟩) rwSeal rfl (.tmp 2) rfl rfl HKa.out rfl ?_)
     | (with_reducible refine wpList_storeAll (o := ⟨none, _, _, _, _, _⟩) (vs := rcL num blk A8 n c8 D32 m c32) rwSeal rfl (.tmp 4) (.tmp 40) rfl rfl HKr.out rfl rfl (rcL_one _ _ _ _ _ _ _ _) rfl ?_))
    intro w9 hk9 ho9
    have HK9 : Kp _ := ⟨hk9⟩
    have HB9 : Kp (Below w.heap.size w w9) := ⟨HBZ.out.trans (ho9.below (by have := HZ.out; omega))⟩
    have F9 : Kp _ := ⟨And.intro (Fr.low (Fr.own H8.out) (by have := HZ.out; omega : w.heap.size ≤ _)) (Fr.low (Fr.own H32.out) (by have := HZ.out; omega : w.heap.size ≤ _))⟩
    have X8 : Kp _ := ⟨Bs.of_own' (own_only H8.out ho9 HZ.out.2)⟩
    have X32 : Kp _ := ⟨Ds.of_own' HWd.out (own_only H32.out ho9 HZ.out.2)⟩
    clear hk9 ho9 H8 H32
    go_wp2
    refine ret_arr rfl rwSeal rfl HK9.out rfl rfl ?_
    refine ⟨A8, c8, D32, c32, by rw [HF.out], ?_, HB9.out⟩
    rw [HF.out]
    exact ⟨⟨HNB.out.1, HNB.out.2, X8.out, X32.out⟩, F9.out.1, F9.out.2⟩
   ·have HF : Kp (flipR ⟨num, blk, sl, su⟩ (k : Int) = ⟨num, blk, sl, su⟩) := ⟨by unfold flipR; rw [if_pos ⟨by omega, hkb⟩, Int.toNat_natCast, flipL_far _ _ (by rw [HL.out]; exact hc)]⟩
    obtain ⟨q, hq⟩ : ∃ q, k / 8 = q := ⟨_, rfl⟩
    have hk0 : (0 : Int) ≤ (k : Int) := by omega
    have kq : ((k : Int)).tdiv 8 = (q : Int) := by rw [Int.tdiv_eq_ediv_of_nonneg (by omega)]; omega
    have kq2 : (k : Int) / 8 = (q : Int) := by omega
    have hqn : ¬ ((q : Int) < (n : Int)) := by omega
    go_wp2_with (first
     | (with_reducible refine wpList_loadAll (o := ⟨some 40, _, _, _, _, _⟩) rwSeal rfl (.tmp 2) rfl rfl HKa.out rfl ?_)
     | (with_reducible refine wpList_storeAll (o := ⟨none, _, _, _, _, _⟩) (vs := rcL num blk A8 n c8 D32 m c32) rwSeal rfl (.tmp 4) (.tmp 40) rfl rfl HKr.out rfl rfl (rcL_one _ _ _ _ _ _ _ _) rfl ?_))
    intro w9 hk9 ho9
    have HK9 : Kp _ := ⟨hk9⟩
    have HB9 : Kp (Below w.heap.size w w9) := ⟨HBZ.out.trans (ho9.below (by have := HZ.out; omega))⟩
    have F9 : Kp _ := ⟨And.intro (Fr.low (Fr.own H8.out) (by have := HZ.out; omega : w.heap.size ≤ _)) (Fr.low (Fr.own H32.out) (by have := HZ.out; omega : w.heap.size ≤ _))⟩
    have X8 : Kp _ := ⟨Bs.of_own' (own_only H8.out ho9 HZ.out.2)⟩
    have X32 : Kp _ := ⟨Ds.of_own' HWd.out (own_only H32.out ho9 HZ.out.2)⟩
    clear hk9 ho9 H8 H32
    go_wp2
    refine ret_arr rfl rwSeal rfl HK9.out rfl rfl ?_
    refine ⟨A8, c8, D32, c32, by rw [HF.out], ?_, HB9.out⟩
    rw [HF.out]
    exact ⟨⟨HNB.out.1, HNB.out.2, X8.out, X32.out⟩, F9.out.1, F9.out.2⟩
   ·have HF : Kp (flipR ⟨num, blk, sl, su⟩ (k : Int) = ⟨num, blk, flipL sl k, su⟩) := ⟨by unfold flipR; rw [if_pos ⟨by omega, hkb⟩, Int.toNat_natCast]⟩
    obtain ⟨q, hq⟩ : ∃ q, k / 8 = q := ⟨_, rfl⟩
    have hk0 : (0 : Int) ≤ (k : Int) := by omega
    have kq : ((k : Int)).tdiv 8 = (q : Int) := by rw [Int.tdiv_eq_ediv_of_nonneg (by omega)]; omega
    have kq2 : (k : Int) / 8 = (q : Int) := by omega
    obtain ⟨j, hj⟩ : ∃ j, k % 8 = j := ⟨_, rfl⟩
    have hj8 : j < 8 := by omega
    have kj : ((k : Int)).tmod 8 = (j : Int) := by rw [Int.tmod_eq_emod_of_nonneg (by omega)]; omega
    have kj2 : (k : Int) % 8 = (j : Int) := by omega
    have hqn : (q : Int) < (n : Int) := by omega
    have hqs : q < sl.length := by rw [HL.out]; omega
    obtain ⟨g, c8', e8, _, hg2, hgl⟩ := own_some H8.out (by omega)
    cases e8
    have HC8 : Kp (cells8 (flipL sl k) = (cells8 sl).set q (.int .u8 ((flip8 sl[q] j).toNat : Int))) := ⟨by rw [flipL_at sl k q j hq hj hqs, cells8_set]⟩
    have HV : Kp _ := ⟨flip8_val sl[q] (j : Int)⟩
    have c1 : w71.cell? ⟨g, q, none⟩ = some (.int .u8 (sl[q].toNat : Int)) := by rw [World.ownsRow.cellAt H8.out q (by omega)]; exact cells8_at sl q hqs
    have f1 : w71.frozen? ⟨g, q, none⟩ = false := World.ownsRow.frozenAt H8.out q
    have c2 : w71.drew.cell? ⟨g, q, none⟩ = some (.int .u8 (sl[q].toNat : Int)) := c1
    have f2 : w71.drew.frozen? ⟨g, q, none⟩ = false := f1
    have hx8 : sl[q].toNat < 256 := sl[q].toNat_lt
    have HG2 : Kp (g ≠ w.heap.size ∧ g ≠ w1.heap.size) := ⟨by have := HZ.out; omega, by have := HZ.out; omega⟩
    have wq : IntKind.i64.wrap (q : Int) = (q : Int) := by rw [IntKind.wrap_i64]; omega
    have wj : IntKind.i64.wrap (j : Int) = (j : Int) := by rw [IntKind.wrap_i64]; omega
    generalize hy : (flip8 sl[q] j).toNat = y at *
    have hv : bits .xor .u8 (sl[q].toNat : Int) (2 ^ j % 256) = (y : Int) := by rw [← hy]; exact flip8_val sl[q] (j : Int)
    have hv2 : bits .xor .u8 (sl[q].toNat : Int) (IntKind.u8.wrap (2 ^ j)) = (y : Int) := by rw [← hv]; rfl
    generalize sl[q].toNat = x at *
    clear hy HV
    go_wp2_with fail
    go_still_tail 11, (by kernel_rfl)
    change wpList _ _ _ _ _ w71.drew
    clear ha1 ha2 hn63 kq kq2 kj kj2 wq wj hx8 hqn c1 f1 a1 a2 hk0
    replace HKa : Kp _ := ⟨(HKa.out.other (p := ⟨g, q, none⟩) (by show w.heap.size ≠ g; exact fun h => HG2.out.1 h.symm) (.int .u8 (y : Int))).drew⟩
    replace HKr : Kp _ := ⟨(HKr.out.other (p := ⟨g, q, none⟩) (by show w1.heap.size ≠ g; exact fun h => HG2.out.2 h.symm) (.int .u8 (y : Int))).drew⟩
    replace H32 : Kp _ := ⟨World.ownsRow.drew (own_apart H32.out H8.out q (z := .int .u8 (y : Int)))⟩
    replace H8 : Kp _ := ⟨World.ownsRow.drew (H8.out.stored q (.int .u8 (y : Int))).1⟩
    rw [← HC8.out] at H8
    have HGs : Kp (w2.heap.size ≤ g) := ⟨hg2⟩
    replace HBZ : Kp _ := ⟨(HBZ.out.setCell (p := ⟨g, q, none⟩) (by show w.heap.size ≤ g; have := HZ.out; omega) (.int .u8 (y : Int))).drew⟩
    clear hg2 hgl
    go_wp2_with (first
     | (with_reducible refine wpList_loadAll (o := ⟨some 40, _, _, _, _, _⟩) rwSeal rfl (.tmp 2) rfl rfl HKa.out rfl ?_)
     | (with_reducible refine wpList_storeAll (o := ⟨none, _, _, _, _, _⟩) (vs := rcL num blk (some ⟨g, 0, none⟩) n c8 D32 m c32) rwSeal rfl (.tmp 4) (.tmp 40) rfl rfl HKr.out rfl rfl (rcL_one _ _ _ _ _ _ _ _) rfl ?_))
    intro w9 hk9 ho9
    have HK9 : Kp _ := ⟨hk9⟩
    have HB9 : Kp (Below w.heap.size w w9) := ⟨HBZ.out.trans (ho9.below (by have := HZ.out; omega))⟩
    have F9 : Kp _ := ⟨And.intro (Fr.low (Fr.own H8.out) (by have := HZ.out; omega : w.heap.size ≤ _)) (Fr.low (Fr.own H32.out) (by have := HZ.out; omega : w.heap.size ≤ _))⟩
    have X8 : Kp _ := ⟨Bs.of_own' (own_only H8.out ho9 HZ.out.2)⟩
    have X32 : Kp _ := ⟨Ds.of_own' HWd.out (own_only H32.out ho9 HZ.out.2)⟩
    clear hk9 ho9 H8 H32
    go_wp2
    refine ret_arr rfl rwSeal rfl HK9.out rfl rfl ?_
    refine ⟨some ⟨g, 0, none⟩, c8, D32, c32, by rw [HF.out], ?_, HB9.out⟩
    rw [HF.out]
    exact ⟨⟨HNB.out.1, HNB.out.2, X8.out, X32.out⟩, F9.out.1, F9.out.2⟩
 ·have ce : wS.cell? ⟨w.heap.size, 3, none⟩ = some (.slice D m e) := HKa.out.cell? 3
  go_simp
  refine hK _ _ ?_
  clear hK K ce
  try simp only [Act.put, sA, sB, sC]
  refine rK [1] ?_
  refine aR 6 rfl fun K hK => ?_
  have ce : wS.cell? ⟨w.heap.size, 2, none⟩ = some (.slice A n c) := HKa.out.cell? 2
  go_simp
  refine hK _ _ ?_
  clear hK K ce
  try simp only [Act.put, sA, sB, sC]
  refine rK [2] ?_
  refine aR 7 rfl fun K hK => ?_
  go_simp
  refine (clone8b w2.heap.size A n c sl wS hBW.size (H8o.out wS hBW) HN8.out).mono ?_
  rintro e w74 ⟨v8, rfl, hown8, hb'⟩
  refine hK _ _ ?_
  clear hK K
  try simp only [Act.put, sA, sB, sC]
  replace HKa : Kp _ := ⟨HKa.out.below hb' HKa.out.lt⟩
  replace HKr : Kp _ := ⟨HKr.out.below hb' HKr.out.lt⟩
  replace hBW := hBW.trans (hb'.mono hBW.size)
  obtain ⟨A8, c8, rfl⟩ := own_sl hown8
  have H8 : Kp _ := ⟨hown8⟩
  clear hown8
  clear hb'
  refine wT 6 11 ?_ rfl ?_
  try simp only [Act.put, sA, sB, sC]
  refine rK [5] ?_
  refine aR 10 rfl fun K hK => ?_
  go_simp
  refine (clone32b w2.heap.size D m e su w74 hBW.size (H32o.out w74 hBW) HM8.out).mono ?_
  rintro e w75 ⟨v32, rfl, hown32, hb'⟩
  refine hK _ _ ?_
  clear hK K
  try simp only [Act.put, sA, sB, sC]
  replace HKa : Kp _ := ⟨HKa.out.below hb' HKa.out.lt⟩
  replace HKr : Kp _ := ⟨HKr.out.below hb' HKr.out.lt⟩
  replace hBW := hBW.trans (hb'.mono hBW.size)
  replace H8 : Kp _ := ⟨own_below H8.out hb'⟩
  obtain ⟨D32, c32, rfl⟩ := own_sl hown32
  have H32 : Kp _ := ⟨hown32⟩
  clear hown32
  clear hb'
  refine rK [7] ?_
  refine AllReady.cons (o := ⟨none, _, _, _, _, _⟩) rfl (fun K hK => ?_) AllReady.nil
  have ce : w75.cell? ⟨w.heap.size, 2, none⟩ = some (.slice A n c) := HKa.out.cell? 2
  have fe := HKa.out.frozen 2
  go_simp
  refine hK _ _ ?_
  clear hK K ce fe
  try simp only [Act.put]
  replace HKa : Kp _ := ⟨HKa.out.set 2 (.slice A8 n c8)⟩
  replace HKr : Kp _ := ⟨HKr.out.other (p := ⟨w.heap.size, 2, none⟩) (by show w1.heap.size ≠ w.heap.size; have := HZ.out.1; omega) (.slice A8 n c8)⟩
  replace H8 : Kp _ := ⟨ownsRow_setCell_below H8.out (a := ⟨w.heap.size, 2, none⟩) (by show w.heap.size < w2.heap.size; have := HZ.out; omega) (.slice A8 n c8)⟩
  replace H32 : Kp _ := ⟨ownsRow_setCell_below H32.out (a := ⟨w.heap.size, 2, none⟩) (by show w.heap.size < w2.heap.size; have := HZ.out; omega) (.slice A8 n c8)⟩
  have hBZ : Below w.heap.size w _ := (HB2.out.trans (hBW.mono HB2.out.size)).setCell (p := ⟨w.heap.size, 2, none⟩) (Nat.le_refl _) (.slice A8 n c8)
  clear hBW
  generalize w75.setCell ⟨w.heap.size, 2, none⟩ (.slice A8 n c8) = w76 at *
  refine wT 8 12 ?_ rfl ?_
  try simp only [Act.put, sA, sB, sC]
  refine rK [9] ?_
  refine AllReady.cons (o := ⟨none, _, _, _, _, _⟩) rfl (fun K hK => ?_) AllReady.nil
  have ce : w76.cell? ⟨w.heap.size, 3, none⟩ = some (.slice D m e) := HKa.out.cell? 3
  have fe := HKa.out.frozen 3
  go_simp
  refine hK _ _ ?_
  clear hK K ce fe
  try simp only [Act.put]
  replace HKa : Kp _ := ⟨HKa.out.set 3 (.slice D32 m c32)⟩
  replace HKr : Kp _ := ⟨HKr.out.other (p := ⟨w.heap.size, 3, none⟩) (by show w1.heap.size ≠ w.heap.size; have := HZ.out.1; omega) (.slice D32 m c32)⟩
  replace H8 : Kp _ := ⟨ownsRow_setCell_below H8.out (a := ⟨w.heap.size, 3, none⟩) (by show w.heap.size < w2.heap.size; have := HZ.out; omega) (.slice D32 m c32)⟩
  replace H32 : Kp _ := ⟨ownsRow_setCell_below H32.out (a := ⟨w.heap.size, 3, none⟩) (by show w.heap.size < w2.heap.size; have := HZ.out; omega) (.slice D32 m c32)⟩
  replace hBZ := hBZ.setCell (p := ⟨w.heap.size, 3, none⟩) (Nat.le_refl _) (.slice D32 m c32)
  generalize w76.setCell ⟨w.heap.size, 3, none⟩ (.slice D32 m c32) = w77 at *
  refine wpAny_done (by kernel_rfl) ?_ _
  have HBZ : Kp _ := ⟨hBZ⟩
  clear hBZ
  have a1 : w77.cell? ⟨w.heap.size, 1, none⟩ = some (.int .i64 blk) := HKa.out.cell? 1
  have a2 : w77.cell? ⟨w.heap.size, 2, none⟩ = some (.slice A8 n c8) := HKa.out.cell? 2
  have hn63 : n ≤ 4294967296 := HN8.out
  rcases HC.out with hc | ⟨hc0, hc⟩ | ⟨k, rfl, hkb, hc⟩ | ⟨k, rfl, hkb, hc⟩
  ·have HF : Kp (flipR ⟨num, blk, sl, su⟩ a = ⟨num, blk, sl, su⟩) := ⟨by unfold flipR; rw [if_neg (by omega)]⟩
   go_wp2_with (first
    | (with_reducible refine wpList_loadAll (o := ⟨some 40, _, _, _, _, _⟩) rwSeal rfl (.tmp 2) rfl rfl HKa.out rfl ?_)
    | (with_reducible refine wpList_storeAll (o := ⟨none, _, _, _, _, _⟩) (vs := rcL num blk A8 n c8 D32 m c32) rwSeal rfl (.tmp 4) (.tmp 40) rfl rfl HKr.out rfl rfl (rcL_one _ _ _ _ _ _ _ _) rfl ?_))
   intro w9 hk9 ho9
   have HK9 : Kp _ := ⟨hk9⟩
   have HB9 : Kp (Below w.heap.size w w9) := ⟨HBZ.out.trans (ho9.below (by have := HZ.out; omega))⟩
   have F9 : Kp _ := ⟨And.intro (Fr.low (Fr.own H8.out) (by have := HZ.out; omega : w.heap.size ≤ _)) (Fr.low (Fr.own H32.out) (by have := HZ.out; omega : w.heap.size ≤ _))⟩
   have X8 : Kp _ := ⟨Bs.of_own' (own_only H8.out ho9 HZ.out.2)⟩
   have X32 : Kp _ := ⟨Ds.of_own' HWd.out (own_only H32.out ho9 HZ.out.2)⟩
   clear hk9 ho9 H8 H32
   go_wp2
   refine ret_arr rfl rwSeal rfl HK9.out rfl rfl ?_
   refine ⟨A8, c8, D32, c32, by rw [HF.out], ?_, HB9.out⟩
   rw [HF.out]
   exact ⟨⟨HNB.out.1, HNB.out.2, X8.out, X32.out⟩, F9.out.1, F9.out.2⟩
  ·have HF : Kp (flipR ⟨num, blk, sl, su⟩ a = ⟨num, blk, sl, su⟩) := ⟨by unfold flipR; rw [if_neg (by simp only; omega)]⟩
   go_wp2_with (first
    | (with_reducible refine wpList_loadAll (o := ⟨some 40, _, _, _, _, _⟩) rwSeal rfl (.tmp 2) rfl rfl HKa.out rfl ?_)
    | (with_reducible refine wpList_storeAll (o := ⟨none, _, _, _, _, _⟩) (vs := rcL num blk A8 n c8 D32 m c32) rwSeal rfl (.tmp 4) (.tmp 40) rfl rfl HKr.out rfl rfl (rcL_one _ _ _ _ _ _ _ _) rfl ?_))
   intro w9 hk9 ho9
   have HK9 : Kp _ := ⟨hk9⟩
   have HB9 : Kp (Below w.heap.size w w9) := ⟨HBZ.out.trans (ho9.below (by have := HZ.out; omega))⟩
   have F9 : Kp _ := ⟨And.intro (Fr.low (Fr.own H8.out) (by have := HZ.out; omega : w.heap.size ≤ _)) (Fr.low (Fr.own H32.out) (by have := HZ.out; omega : w.heap.size ≤ _))⟩
   have X8 : Kp _ := ⟨Bs.of_own' (own_only H8.out ho9 HZ.out.2)⟩
   have X32 : Kp _ := ⟨Ds.of_own' HWd.out (own_only H32.out ho9 HZ.out.2)⟩
   clear hk9 ho9 H8 H32
   go_wp2
   refine ret_arr rfl rwSeal rfl HK9.out rfl rfl ?_
   refine ⟨A8, c8, D32, c32, by rw [HF.out], ?_, HB9.out⟩
   rw [HF.out]
   exact ⟨⟨HNB.out.1, HNB.out.2, X8.out, X32.out⟩, F9.out.1, F9.out.2⟩
  ·have HF : Kp (flipR ⟨num, blk, sl, su⟩ (k : Int) = ⟨num, blk, sl, su⟩) := ⟨by unfold flipR; rw [if_pos ⟨by omega, hkb⟩, Int.toNat_natCast, flipL_far _ _ (by rw [HL.out]; exact hc)]⟩
   obtain ⟨q, hq⟩ : ∃ q, k / 8 = q := ⟨_, rfl⟩
   have hk0 : (0 : Int) ≤ (k : Int) := by omega
   have kq : ((k : Int)).tdiv 8 = (q : Int) := by rw [Int.tdiv_eq_ediv_of_nonneg (by omega)]; omega
   have kq2 : (k : Int) / 8 = (q : Int) := by omega
   have hqn : ¬ ((q : Int) < (n : Int)) := by omega
   go_wp2_with (first
    | (with_reducible refine wpList_loadAll (o := ⟨some 40, _, _, _, _, _⟩) rwSeal rfl (.tmp 2) rfl rfl HKa.out rfl ?_)
    | (with_reducible refine wpList_storeAll (o := ⟨none, _, _, _, _, _⟩) (vs := rcL num blk A8 n c8 D32 m c32) rwSeal rfl (.tmp 4) (.tmp 40) rfl rfl HKr.out rfl rfl (rcL_one _ _ _ _ _ _ _ _) rfl ?_))
   intro w9 hk9 ho9
   have HK9 : Kp _ := ⟨hk9⟩
   have HB9 : Kp (Below w.heap.size w w9) := ⟨HBZ.out.trans (ho9.below (by have := HZ.out; omega))⟩
   have F9 : Kp _ := ⟨And.intro (Fr.low (Fr.own H8.out) (by have := HZ.out; omega : w.heap.size ≤ _)) (Fr.low (Fr.own H32.out) (by have := HZ.out; omega : w.heap.size ≤ _))⟩
   have X8 : Kp _ := ⟨Bs.of_own' (own_only H8.out ho9 HZ.out.2)⟩
   have X32 : Kp _ := ⟨Ds.of_own' HWd.out (own_only H32.out ho9 HZ.out.2)⟩
   clear hk9 ho9 H8 H32
   go_wp2
   refine ret_arr rfl rwSeal rfl HK9.out rfl rfl ?_
   refine ⟨A8, c8, D32, c32, by rw [HF.out], ?_, HB9.out⟩
   rw [HF.out]
   exact ⟨⟨HNB.out.1, HNB.out.2, X8.out, X32.out⟩, F9.out.1, F9.out.2⟩
  ·have HF : Kp (flipR ⟨num, blk, sl, su⟩ (k : Int) = ⟨num, blk, flipL sl k, su⟩) := ⟨by unfold flipR; rw [if_pos ⟨by omega, hkb⟩, Int.toNat_natCast]⟩
   obtain ⟨q, hq⟩ : ∃ q, k / 8 = q := ⟨_, rfl⟩
   have hk0 : (0 : Int) ≤ (k : Int) := by omega
   have kq : ((k : Int)).tdiv 8 = (q : Int) := by rw [Int.tdiv_eq_ediv_of_nonneg (by omega)]; omega
   have kq2 : (k : Int) / 8 = (q : Int) := by omega
   obtain ⟨j, hj⟩ : ∃ j, k % 8 = j := ⟨_, rfl⟩
   have hj8 : j < 8 := by omega
   have kj : ((k : Int)).tmod 8 = (j : Int) := by rw [Int.tmod_eq_emod_of_nonneg (by omega)]; omega
   have kj2 : (k : Int) % 8 = (j : Int) := by omega
   have hqn : (q : Int) < (n : Int) := by omega
   have hqs : q < sl.length := by rw [HL.out]; omega
   obtain ⟨g, c8', e8, _, hg2, hgl⟩ := own_some H8.out (by omega)
   cases e8
   have HC8 : Kp (cells8 (flipL sl k) = (cells8 sl).set q (.int .u8 ((flip8 sl[q] j).toNat : Int))) := ⟨by rw [flipL_at sl k q j hq hj hqs, cells8_set]⟩
   have HV : Kp _ := ⟨flip8_val sl[q] (j : Int)⟩
   have c1 : w77.cell? ⟨g, q, none⟩ = some (.int .u8 (sl[q].toNat : Int)) := by rw [World.ownsRow.cellAt H8.out q (by omega)]; exact cells8_at sl q hqs
   have f1 : w77.frozen? ⟨g, q, none⟩ = false := World.ownsRow.frozenAt H8.out q
   have c2 : w77.drew.cell? ⟨g, q, none⟩ = some (.int .u8 (sl[q].toNat : Int)) := c1
   have f2 : w77.drew.frozen? ⟨g, q, none⟩ = false := f1
   have hx8 : sl[q].toNat < 256 := sl[q].toNat_lt
   have HG2 : Kp (g ≠ w.heap.size ∧ g ≠ w1.heap.size) := ⟨by have := HZ.out; omega, by have := HZ.out; omega⟩
   have wq : IntKind.i64.wrap (q : Int) = (q : Int) := by rw [IntKind.wrap_i64]; omega
   have wj : IntKind.i64.wrap (j : Int) = (j : Int) := by rw [IntKind.wrap_i64]; omega
   generalize hy : (flip8 sl[q] j).toNat = y at *
   have hv : bits .xor .u8 (sl[q].toNat : Int) (2 ^ j % 256) = (y : Int) := by rw [← hy]; exact flip8_val sl[q] (j : Int)
   have hv2 : bits .xor .u8 (sl[q].toNat : Int) (IntKind.u8.wrap (2 ^ j)) = (y : Int) := by rw [← hv]; rfl
   generalize sl[q].toNat = x at *
   clear hy HV
   go_wp2_with fail
   go_still_tail 11, (by kernel_rfl)
   change wpList _ _ _ _ _ w77.drew
   clear ha1 ha2 hn63 kq kq2 kj kj2 wq wj hx8 hqn c1 f1 a1 a2 hk0
   replace HKa : Kp _ := ⟨(HKa.out.other (p := ⟨g, q, none⟩) (by show w.heap.size ≠ g; exact fun h => HG2.out.1 h.symm) (.int .u8 (y : Int))).drew⟩
   replace HKr : Kp _ := ⟨(HKr.out.other (p := ⟨g, q, none⟩) (by show w1.heap.size ≠ g; exact fun h => HG2.out.2 h.symm) (.int .u8 (y : Int))).drew⟩
   replace H32 : Kp _ := ⟨World.ownsRow.drew (own_apart H32.out H8.out q (z := .int .u8 (y : Int)))⟩
   replace H8 : Kp _ := ⟨World.ownsRow.drew (H8.out.stored q (.int .u8 (y : Int))).1⟩
   rw [← HC8.out] at H8
   have HGs : Kp (w2.heap.size ≤ g) := ⟨hg2⟩
   replace HBZ : Kp _ := ⟨(HBZ.out.setCell (p := ⟨g, q, none⟩) (by show w.heap.size ≤ g; have := HZ.out; omega) (.int .u8 (y : Int))).drew⟩
   clear hg2 hgl
   go_wp2_with (first
    | (with_reducible refine wpList_loadAll (o := ⟨some 40, _, _, _, _, _⟩) rwSeal rfl (.tmp 2) rfl rfl HKa.out rfl ?_)
    | (with_reducible refine wpList_storeAll (o := ⟨none, _, _, _, _, _⟩) (vs := rcL num blk (some ⟨g, 0, none⟩) n c8 D32 m c32) rwSeal rfl (.tmp 4) (.tmp 40) rfl rfl HKr.out rfl rfl (rcL_one _ _ _ _ _ _ _ _) rfl ?_))
   intro w9 hk9 ho9
   have HK9 : Kp _ := ⟨hk9⟩
   have HB9 : Kp (Below w.heap.size w w9) := ⟨HBZ.out.trans (ho9.below (by have := HZ.out; omega))⟩
   have F9 : Kp _ := ⟨And.intro (Fr.low (Fr.own H8.out) (by have := HZ.out; omega : w.heap.size ≤ _)) (Fr.low (Fr.own H32.out) (by have := HZ.out; omega : w.heap.size ≤ _))⟩
   have X8 : Kp _ := ⟨Bs.of_own' (own_only H8.out ho9 HZ.out.2)⟩
   have X32 : Kp _ := ⟨Ds.of_own' HWd.out (own_only H32.out ho9 HZ.out.2)⟩
   clear hk9 ho9 H8 H32
   go_wp2
   refine ret_arr rfl rwSeal rfl HK9.out rfl rfl ?_
   refine ⟨some ⟨g, 0, none⟩, c8, D32, c32, by rw [HF.out], ?_, HB9.out⟩
   rw [HF.out]
   exact ⟨⟨HNB.out.1, HNB.out.2, X8.out, X32.out⟩, F9.out.1, F9.out.2⟩
end Go.Proofs.YtcehkafddlfleaaGreatDoor
