/- The contract of the document's Write of a world. -/
import Derived.Test.YtpbpegoobgfjcaaG11
import Derived.Test.YtpbpegoobgfjcaaG12
import Derived.Test.YtpbpegoobgfjcaaG05
import Derived.Deep.RegionHeld3
namespace Go.Proofs.Ytpbpegoobgfjcaa
open Go.RowKit

section
variable {W W' : World} {Lo : Nat → Prop} {a : Ta} {t : Wd} {A : Option Addr} {n c g : Nat} {l : List UInt8}
theorem TB.takes (h : TB W Lo a t A n c l) (k : Nat) : TB W Lo (takesA a t k) (layW t k) A n c l := by
  obtain ⟨M5, h1, h2, h3, h4⟩ := h.ex
  exact ⟨M5, h1, h2, h3.takes k, h4⟩
theorem TB.start {M : Nat → Prop} {w : World} (h : TvM w M a t) (hM : ∀ k, M k → k < w.heap.size) (hx : BsM w M A n c l) (hb : Below w.heap.size w W) (hg : w.heap.size ≤ g) (hl : g < W.heap.size) : TB W (fun k => M k ∨ k = g) a t A n c l :=
  ⟨fun k => M k ∨ k = g, fun _ h => h, fun k hk => hk.elim (fun h9 => Nat.lt_of_lt_of_le (hM k h9) hb.size) (fun h9 => by rw [h9]; exact hl),
    h.chg (Chg.of_below (fun _ => False) hb) (fun _ h => h.elim) (fun k hk => hk.imp id (fun h9 => by rw [h9]; exact hg)), hx.chg (Chg.of_below (fun _ => False) hb) (fun _ h => h.elim) (fun k hk => hk.imp id (fun h9 => by rw [h9]; exact hg))⟩
end
theorem SlT.chg {S M M' : Nat → Prop} {w w' : World} {A : Option Addr} {sn sc n : Nat} {sl : Int × Int → List UInt8} {vs : List Value} (h : SlT w M A sn sc n sl vs) (hc : Chg S w w') (hS : ∀ k, S k → M k) (hM : ∀ k, M' k → M k ∨ w.heap.size ≤ k) : SlT w' M' A sn sc n sl vs :=
  ⟨h.row.chg hc hS hM, h.num, fun i hi s hs => by obtain ⟨v, e, h2, h3⟩ := h.each i hi s hs; exact ⟨v, e, h2.chg hc hS hM, h3⟩⟩
theorem over_wrote (t : Wd) (x : Int × Int) (l : List UInt8) : overL (t.sl x) ((padL l 272).take 272) (layK t 272) = wroteL t x l := by
  unfold overL wroteL laid
  congr 1
  have e : (padL l 272).take 272 = padL (l.take 272) 272 := by
    unfold padL
    by_cases h : l.length ≤ 272
    · rw [List.take_of_length_le (by simp; omega), List.take_of_length_le h]
    · have e1 : (272 : Int).toNat - l.length = 0 := by omega
      have e2 : (272 : Int).toNat - (l.take 272).length = 0 := by simp; omega
      rw [e1, e2]
      simp
  rw [e]
theorem lay_lost (t : Wd) (n : Nat) (h : t.lost = false) : (!(layW t n).lost) = decide (layK t n = n) := by
  unfold layW layK
  by_cases hl : t.lim = true
  · simp only [hl, if_true]
    by_cases hn : n ≤ t.left
    · rw [if_pos hn]
      have e : min n t.left = n := by omega
      simp [h, e]
    · rw [if_neg hn]
      have e : min n t.left ≠ n := by omega
      simp [e]
  · simp [hl, h]
theorem TvM.newSlot {W : World} {M : Nat → Prop} {a : Ta} {t : Wd} (h : TvM W M a t) (vs : List Value) (hs : SlT W M a.sA a.sn a.sc t.n t.sl vs) (k i s : Nat) (hk : k = 2 * i + s) (hs2 : s < 2) (hi : i < t.n) (A9 A5 : Option Addr) (c9 n5 c5 : Nat) (L : List UInt8)
    (hrow : RwM W M A9 a.sn c9 1 (vs.set k (.slice A5 n5 c5))) (hx : BsM W M A5 n5 c5 L) (hL : L.length = 272) :
    TvM W M { a with sA := A9, sc := c9 } { t with sl := fun z => if z = ((i : Int), (s : Int)) then L else t.sl z } := by
  refine ⟨⟨vs.set k (.slice A5 n5 c5), hrow, hs.num, fun i' hi' s' hs' => ?_⟩, h.seals, h.lies, h.trace, h.pow, h.pmax, h.big, h.num⟩
  have hlen : vs.length = a.sn := by have := hs.row.len; omega
  have hnum := hs.num
  by_cases he : i' = i ∧ s' = s
  · obtain ⟨rfl, rfl⟩ := he
    refine ⟨.slice A5 n5 c5, ?_, ⟨A5, n5, c5, rfl, ?_⟩, ?_⟩
    · rw [← hk, List.getElem?_set_self (by omega)]
    · show BsM W M A5 n5 c5 (if _ then L else _)
      rw [if_pos rfl]; exact hx
    · show (if _ then L else _ : List UInt8).length = 272
      rw [if_pos rfl]; exact hL
  · obtain ⟨v, e1, e2, e3⟩ := hs.each i' hi' s' hs'
    have hne : ((i' : Int), (s' : Int)) ≠ ((i : Int), (s : Int)) := fun e => he ⟨by have := congrArg Prod.fst e; simp at this; omega, by have := congrArg Prod.snd e; simp at this; omega⟩
    refine ⟨v, ?_, ?_, ?_⟩
    · rw [List.getElem?_set_ne (by omega)]; exact e1
    · show BsV W M v (if _ then L else _)
      rw [if_neg hne]; exact e2
    · show (if _ then L else _ : List UInt8).length = 272
      rw [if_neg hne]; exact e3
section
variable {M : Nat → Prop} {w : World} {a : Ta} {t : Wd}
set_option maxRecDepth 100000 in
set_option maxHeartbeats 8000000 in
theorem rwrite_yes (h : TvM w M a t) (hM : ∀ k, M k → k < w.heap.size) (hlen : t.tr.length ≤ 1000000) (x y : Int) (hx : (Lit.int .i64 x).wf = true) (hy : (Lit.int .i64 y).wf = true) (B : Option Addr) (m d : Nat) (l : List UInt8) (hb : BsM w M B m d l) (hth : thereW t (x, y) = true) :
    Calls Try.prog 45 #[.agg (tvL a t).toArray, .int .i64 x, .int .i64 y, .slice B m d] w fun e w' => ∃ a', e = .returned (.tuple #[.agg (tvL a' (writeW t (x, y) l)).toArray, .bool (writeB t (x, y))]) ∧ Below w.heap.size w w' ∧ a'.ln = a.ln ∧ TvM w' M a' (writeW t (x, y) l) := by
  have HZ : Kp (zeroT'.length = 10) := ⟨rfl⟩
  have HL10 : Kp _ := ⟨tvL_length a t⟩
  have HT : Kp _ := ⟨h⟩
  have HM : Kp _ := ⟨hM⟩
  have HB : Kp _ := ⟨hb⟩
  have HTh : Kp _ := ⟨hth⟩
  have HLe : Kp (t.tr.length ≤ 1000000) := ⟨hlen⟩
  have h9 := hth
  unfold thereW inR at h9
  simp only [Bool.and_eq_true, Bool.not_eq_true', decide_eq_true_eq] at h9
  obtain ⟨hx0, hx1, hy0, hy1⟩ : 0 ≤ x ∧ x < (t.n : Int) ∧ 0 ≤ y ∧ y < 2 := by omega
  have HLo : Kp (t.lost = false) := ⟨h9.1⟩
  obtain ⟨i, rfl⟩ : ∃ k : Nat, x = k := ⟨x.toNat, by omega⟩
  obtain ⟨s, rfl⟩ : ∃ k : Nat, y = k := ⟨y.toNat, by omega⟩
  obtain ⟨u, hu⟩ : ∃ u : Wd, u = { t with tr := t.tr ++ [⟨2, (i : Int), (s : Int), l⟩] } := ⟨_, rfl⟩
  have HW : Kp (writeW t ((i : Int), (s : Int)) l = { layW u 272 with sl := fun z => if z = ((i : Int), (s : Int)) then overL (t.sl ((i : Int), (s : Int))) ((padL l 272).take 272) (layK u 272) else t.sl z } ∧ writeB t ((i : Int), (s : Int)) = !(layW u 272).lost) := ⟨by
    have e1 : layK u 272 = layK t 272 := by rw [hu]; rfl
    rw [e1, over_wrote, lay_lost u 272 (by rw [hu]; exact h9.1), e1]
    unfold writeW writeB
    rw [if_pos hth, hth, hu]
    exact ⟨rfl, by simp⟩⟩
  have HUs : Kp (u.sl = t.sl ∧ u.n = t.n ∧ u.lost = false) := ⟨by rw [hu]; exact ⟨rfl, rfl, h9.1⟩⟩
  have HU : Kp _ := ⟨hu⟩
  have HOk : Kp (TrOk ⟨2, (i : Int), (s : Int), l⟩) := ⟨⟨.inr (.inl rfl), hx, hy⟩⟩
  have hbig := h.big
  obtain ⟨k2, hk2⟩ : ∃ k, k = 2 * i := ⟨_, rfl⟩
  obtain ⟨k, hk⟩ : ∃ k, k = k2 + s := ⟨_, rfl⟩
  have HKk : Kp (k = 2 * i + s ∧ i < t.n ∧ s < 2 ∧ t.n ≤ 4096) := ⟨⟨by omega, by omega, by omega, hbig⟩⟩
  have hw1 : IntKind.i64.wrap (2 * (i : Int)) = (k2 : Int) := by rw [IntKind.wrap_i64]; omega
  have hw2 : IntKind.i64.wrap ((k2 : Int) + (s : Int)) = (k : Int) := by rw [IntKind.wrap_i64]; omega
  clear hth h hx hy hx0 hx1 hy0 hy1 h9 hk2 hk hbig hu hlen hM hb
  go_enter Try.func45, Try.ntmps45
  go_wp2_with (with_reducible refine wpList_box (o := ⟨some 4, _, _, _, _, _⟩) (cs := tvL a t) rfl (.tmp 0) rfl rfl ?_)
  intro w1 hk1 hb1 hs1
  have HK1 : Kp _ := ⟨hk1⟩
  clear hk1 hs1
  go_wp2_with (with_reducible refine wpList_alloc (o := ⟨some 8, _, _, _, _, _⟩) tyT rfl rfl ?_)
  intro w2 hk2 hb2 hs2
  have HK2 : Kp _ := ⟨HK1.out.below hb2 HK1.out.lt⟩
  have HR : Kp _ := ⟨hk2⟩
  have hB : Below w.heap.size w w2 := hb1.trans (hb2.mono hb1.size)
  have h4 : w.heap.size < w1.heap.size := HK1.out.lt
  have hRl := hk2.lt
  have HTB : Kp (TB w2 (fun k => M k ∨ k = w1.heap.size) a t B m d l) := ⟨TB.start HT.out HM.out HB.out hB (Nat.le_of_lt h4) hRl⟩
  obtain ⟨g4, hg4⟩ : ∃ g, g = w1.heap.size := ⟨_, rfl⟩
  rw [← hg4] at HR HTB h4 hRl ⊢
  clear hk2 hb2 hs2 HK1 hb1 hg4 HT HB
  go_wp2_with (with_reducible refine wpList_loadAll (o := ⟨some 14, _, _, _, _, _⟩) rwT rfl (.tmp 4) rfl rfl HK2.out HL10.out ?_)
  refine (there_any w2 a t (i : Int) (s : Int)).mono ?_
  rw [HTh.out]
  rintro e w3 ⟨rfl, hb3⟩
  have HK3 : Kp _ := ⟨HK2.out.below hb3 HK2.out.lt⟩
  replace HR : Kp _ := ⟨HR.out.below hb3 HR.out.lt⟩
  replace HTB : Kp _ := ⟨HTB.out.below hb3⟩
  replace hB := hB.trans (hb3.mono hB.size)
  clear hb3 HK2 hRl
  go_wp2_with (with_reducible refine wpList_loadAll (o := ⟨some 20, _, _, _, _, _⟩) rwT rfl (.tmp 4) rfl rfl HK3.out HL10.out ?_)
  obtain ⟨M3, y1, y2, y3, y4⟩ := HTB.out.ex
  refine (rnote_any y3 y2 HLe.out ⟨2, (i : Int), (s : Int), l⟩ HOk.out B m d y4).mono ?_
  rintro e w4 ⟨a4, rfl, hb4, hn4, ht4⟩
  have HN4 : Kp (a4.ln = a.ln) := ⟨hn4⟩
  clear hn4
  rw [← HU.out] at ht4 ⊢
  replace HTB : Kp (TB w4 (fun k => M k ∨ k = g4) a4 u B m d l) := ⟨⟨M3, y1, fun k hk => Nat.lt_of_lt_of_le (y2 k hk) hb4.size, ht4, y4.below hb4⟩⟩
  replace HR : Kp _ := ⟨HR.out.below hb4 HR.out.lt⟩
  replace hB := hB.trans (hb4.mono hB.size)
  have HL4 : Kp _ := ⟨tvL_length a4 u⟩
  have HO4 : Kp _ := ⟨tvL_one a4 u⟩
  clear hb4 HK3 y1 y2 y3 y4 ht4 M3
  go_wp2_with (with_reducible refine wpList_alloc (o := ⟨some 10, _, _, _, _, _⟩) tyT rfl rfl ?_)
  intro w5 hk5 hb5 hs5
  have HV5 : Kp _ := ⟨hk5⟩
  have hl45 := hk5.lt
  replace HTB : Kp (TB w5 (fun k => (M k ∨ k = g4) ∨ k = w4.heap.size) a4 u B m d l) := ⟨HTB.out.add hb5 (Nat.le_refl _) hl45⟩
  have hR4 := HR.out.lt
  replace HR : Kp _ := ⟨HR.out.below hb5 HR.out.lt⟩
  replace hB := hB.trans (hb5.mono hB.size)
  obtain ⟨gu, hgu⟩ : ∃ g, g = w4.heap.size := ⟨_, rfl⟩
  rw [← hgu] at HV5 HTB hl45 hR4 ⊢
  clear hk5 hb5 hs5 hgu
  go_wp2_with (with_reducible refine wpList_storeAll (o := ⟨none, _, _, _, _, _⟩) (vs := tvL a4 u) rwT rfl (.tmp 10) (.tmp 24) rfl rfl HV5.out HZ.out HL4.out HO4.out rfl ?_)
  intro w6 hk6 ho6
  have HV : Kp _ := ⟨hk6⟩
  replace HTB : Kp _ := ⟨HTB.out.only ho6 (.inr rfl)⟩
  replace HR : Kp _ := ⟨HR.out.only ho6 (by omega)⟩
  replace hB := hB.trans (ho6.below (by omega))
  have hs6 : gu < w6.heap.size := hk6.lt
  clear hk6 ho6 HV5 hl45
  obtain ⟨M6, y1, y2, y3, y4⟩ := HTB.out.ex
  have hbs6 := y4.bs
  have hfit := y4.fit
  clear y1 y2 y3 y4 M6
  go_wp2_with fail
  refine (refpad_any B m d 272 l w6 hbs6 hfit (by omega)).mono ?_
  rintro e w7 ⟨v7, rfl, ho7, hb7⟩
  obtain ⟨A7, c7, rfl, hx7⟩ := Bs.of_own ho7
  have hpl : 272 ≤ (padL l 272).length := by rw [padL_length]; omega
  replace HTB : Kp _ := ⟨HTB.out.below hb7⟩
  replace HR : Kp _ := ⟨HR.out.below hb7 HR.out.lt⟩
  replace HV : Kp _ := ⟨HV.out.below hb7 HV.out.lt⟩
  replace hB := hB.trans (hb7.mono hB.size)
  have HX7 : Kp _ := ⟨hx7⟩
  clear hb7 ho7 hx7 hbs6 hfit
  go_wp2_with (with_reducible refine wpList_cut_h (o := ⟨some 27, _, _, _, _, _⟩) el8 rfl (.tmp 26) (.const (.int .i64 272)) rfl rfl HX7.out .i64 272 272 rfl rfl hpl ?_)
  intro A8 hx8
  have HP : Kp _ := ⟨hx8⟩
  clear hx8 HX7
  go_wp2_with (with_reducible refine wpList_loadAll (o := ⟨some 29, _, _, _, _, _⟩) rwT rfl (.tmp 10) rfl rfl HV.out HL4.out ?_)
  obtain ⟨M6, y1, y2, y3, y4⟩ := HTB.out.ex
  refine (rtakes_any y3 272 (by omega)).mono ?_
  rintro e w8 ⟨rfl, hb8⟩
  clear y1 y2 y3 y4 M6
  replace HTB : Kp _ := ⟨(HTB.out.below hb8).takes 272⟩
  replace HR : Kp _ := ⟨HR.out.below hb8 HR.out.lt⟩
  replace HP : Kp _ := ⟨HP.out.next hb8 (Nat.le_refl _)⟩
  replace hB := hB.trans (hb8.mono hB.size)
  have h8 : gu < w8.heap.size := (HV.out.below hb8 HV.out.lt).lt
  have hR8 := HR.out.lt
  clear hb8 HV HL4 HO4
  obtain ⟨v, hv⟩ : ∃ v, v = layW u 272 := ⟨_, rfl⟩
  obtain ⟨av, hav⟩ : ∃ v, v = takesA a4 u 272 := ⟨_, rfl⟩
  obtain ⟨kp, hK⟩ : ∃ v, v = layK u 272 := ⟨_, rfl⟩
  have hKle : kp ≤ 272 := by rw [hK]; exact layK_le u 272
  have HVs : Kp (v.sl = t.sl ∧ v.n = t.n) := ⟨by
    obtain ⟨q1, q2, _⟩ := layW_same u 272
    rw [hv, q1, q2, HUs.out.2.1, HUs.out.1]
    exact ⟨rfl, rfl⟩⟩
  rw [← hv, ← hK] at HW
  have HNv : Kp (av.ln = a.ln) := ⟨by rw [hav]; exact HN4.out⟩
  rw [← hv, ← hav] at HTB ⊢
  rw [← hK]
  have HLv : Kp _ := ⟨tvL_length av v⟩
  have HOv : Kp _ := ⟨tvL_one av v⟩
  clear hv hav hK
  go_wp2_with (with_reducible refine wpList_alloc (o := ⟨some 12, _, _, _, _, _⟩) tyT rfl rfl ?_)
  intro w9 hk9 hb9 hs9
  have HV9 : Kp _ := ⟨hk9⟩
  have hl9 := hk9.lt
  replace HTB : Kp (TB w9 (fun k => ((M k ∨ k = g4) ∨ k = gu) ∨ k = w8.heap.size) av v B m d l) := ⟨HTB.out.add hb9 (Nat.le_refl _) hl9⟩
  replace HR : Kp _ := ⟨HR.out.below hb9 HR.out.lt⟩
  replace HP : Kp (Bs w9 w8.heap.size A8 272 c7 ((padL l 272).take 272)) := ⟨HP.out.below hb9⟩
  replace hB := hB.trans (hb9.mono hB.size)
  obtain ⟨gv, hgv⟩ : ∃ g, g = w8.heap.size := ⟨_, rfl⟩
  rw [← hgv] at HV9 HTB hl9 hR8 h8 HP ⊢
  clear hk9 hb9 hs9 hgv
  go_wp2_with (with_reducible refine wpList_storeAll (o := ⟨none, _, _, _, _, _⟩) (vs := tvL av v) rwT rfl (.tmp 12) (.tmp 31) rfl rfl HV9.out HZ.out HLv.out HOv.out rfl ?_)
  intro w10 hk10 ho10
  have HV : Kp _ := ⟨hk10⟩
  replace HTB : Kp _ := ⟨HTB.out.only ho10 (.inr rfl)⟩
  replace HR : Kp _ := ⟨HR.out.only ho10 (by omega)⟩
  replace HP : Kp _ := ⟨HP.out.below (ho10.below (Nat.le_refl _))⟩
  replace hB := hB.trans (ho10.below (by omega))
  have h10 : gv < w10.heap.size := hk10.lt
  clear hk10 ho10 HV9 hl9
  obtain ⟨M6, y1, y2, y3, y4⟩ := HTB.out.ex
  obtain ⟨vs, hse⟩ := y3.slots
  have hin : i < v.n := by rw [HVs.out.2]; exact HKk.out.2.1
  obtain ⟨v3, hv3, ⟨A3, n3, c3, rfl, hb3⟩, hlen3⟩ := hse.each i hin s HKk.out.2.2.1
  have hnum := hse.num
  obtain ⟨lo, hlo⟩ : ∃ l, l = v.sl ((i : Int), (s : Int)) := ⟨_, rfl⟩
  rw [← hlo] at hb3 hlen3
  have hsn : av.sn ≤ 1000000 := by have := HKk.out.2.2.2; rw [hnum, HVs.out.2]; omega
  have hkn : k < av.sn := by have := HKk.out.1; have := HKk.out.2.2.1; rw [hnum]; omega
  have hknI : (k : Int) < (av.sn : Int) := by omega
  obtain ⟨bs, os, hA, hbs, _, hcs⟩ := hse.row.cells (by omega)
  have hcv := hcs _ _ hv3
  rw [← HKk.out.1] at hcv hv3
  have HA : Kp (av.sA = some ⟨bs, os, none⟩) := ⟨hA⟩
  have HC : Kp (∀ W, Below w10.heap.size w10 W → W.cell? ⟨bs, os + k, none⟩ = some (.slice A3 n3 c3)) := ⟨fun W hW => (hW.cell (p := ⟨bs, os + k, none⟩) hbs).trans hcv⟩
  have HOl : Kp (∀ W, Below w10.heap.size w10 W → BsM W M6 A3 n3 c3 lo) := ⟨fun W hW => hb3.below hW⟩
  have HPl : Kp (∀ W, Below w10.heap.size w10 W → Bs W W.heap.size A8 272 c7 ((padL l 272).take 272)) := ⟨fun W hW => (HP.out.more (Nat.le_of_lt h10)).next hW (Nat.le_refl _)⟩
  have HRl : Kp (∀ W, Below w10.heap.size w10 W → RwM W M6 (some ⟨bs, os, none⟩) av.sn av.sc 1 vs) := ⟨fun W hW => by rw [← hA]; exact hse.row.below hW⟩
  have HMl : Kp (∀ W, Below w10.heap.size w10 W → ∀ k, M6 k → k < W.heap.size) := ⟨fun W hW k hk => Nat.lt_of_lt_of_le (y2 k hk) hW.size⟩
  have HOne : Kp (∀ u ∈ vs, u.oneCell' = true) := ⟨fun u hu => by
    obtain ⟨j, hj, rfl⟩ := List.mem_iff_getElem.1 hu
    have hl2 := hse.row.len
    obtain ⟨v5, e5, ⟨_, _, _, rfl, _⟩, _⟩ := hse.each (j / 2) (by omega) (j % 2) (by omega)
    rw [show 2 * (j / 2) + j % 2 = j by omega, List.getElem?_eq_getElem hj] at e5
    rw [Option.some.inj e5]; rfl⟩
  have HSe : Kp _ := ⟨hse⟩
  have HY3 : Kp _ := ⟨y3⟩
  have HY1 : Kp (∀ k, (((M k ∨ k = g4) ∨ k = gu) ∨ k = gv) → M6 k) := ⟨y1⟩
  have hn3 : n3 ≤ 4294967296 := hb3.fit
  have HLoL : Kp (lo.length = 272 ∧ lo = v.sl ((i : Int), (s : Int))) := ⟨⟨hlen3, hlo⟩⟩
  have hBw : Below w10.heap.size w10 w10 := Below.refl _ _
  clear y1 y2 y3 y4 hse hv3 hb3 hlen3 hlo hA hbs hcs hcv HTB HP hnum hin
  go_wp2_with fail
  refine wp_region_any (by kernel_rfl) ?_
  change wpAny _ _ _ _ _ _ _ w10.drew
  replace HV : Kp _ := ⟨HV.out.drew⟩
  replace HR : Kp _ := ⟨HR.out.drew⟩
  replace hBw := hBw.drew
  generalize w10.drew = wS at *
  refine wpAny_take (i := 0) (oi := ⟨some 33, _, _, _, _, _⟩) (v := ?_) rfl (by kernel_rfl) (by kernel_rfl) (by kernel_rfl) (fun _ _ _ h => h) (Or.inl ⟨by rfl, by intro w; go_simp; try rfl⟩) ?_
  try simp only [Act.put, List.setIfInBounds_toArray, List.set_cons_zero, List.set_cons_succ]
  refine wpAny_take (i := 2) (oi := ⟨some 35, _, _, _, _, _⟩) (v := ?_) rfl (by kernel_rfl) (by kernel_rfl) (by kernel_rfl) (fun _ _ _ h => h) (Or.inl ⟨by rfl, by intro w; go_simp; try rfl⟩) ?_
  try simp only [Act.put, List.setIfInBounds_toArray, List.set_cons_zero, List.set_cons_succ]
  refine wpAny_take (i := 3) (oi := ⟨some 36, _, _, _, _, _⟩) (v := ?_) rfl (by kernel_rfl) (by kernel_rfl) (by kernel_rfl) (fun _ _ _ h => h) (Or.inl ⟨by rfl, by intro w; go_simp; try rfl⟩) ?_
  try simp only [Act.put, List.setIfInBounds_toArray, List.set_cons_zero, List.set_cons_succ]
  refine wpAny_take (i := 4) (oi := ⟨some 37, _, _, _, _, _⟩) (v := ?_) rfl (by kernel_rfl) (by kernel_rfl) (by kernel_rfl) (fun _ _ _ h => h) (Or.inl ⟨by rfl, by intro w; go_simp; try rfl⟩) ?_
  try simp only [Act.put, List.setIfInBounds_toArray, List.set_cons_zero, List.set_cons_succ]
  refine wpAny_take (i := 5) (oi := ⟨some 38, _, _, _, _, _⟩) (v := ?_) rfl (by kernel_rfl) (by kernel_rfl) (by kernel_rfl) (fun _ _ _ h => h) (Or.inl ⟨by rfl, by intro w; go_simp; try rfl⟩) ?_
  try simp only [Act.put, List.setIfInBounds_toArray, List.set_cons_zero, List.set_cons_succ]
  refine wpAny_take (i := 6) (oi := ⟨some 39, _, _, _, _, _⟩) (v := ?_) rfl (by kernel_rfl) (by kernel_rfl) (by kernel_rfl) (fun _ _ _ h => h) (Or.inl ⟨by rfl, by intro w; go_simp; try rfl⟩) ?_
  try simp only [Act.put, List.setIfInBounds_toArray, List.set_cons_zero, List.set_cons_succ]
  refine wpAny_take (i := 8) (oi := ⟨some 41, _, _, _, _, _⟩) (v := ?_) rfl (by kernel_rfl) (by kernel_rfl) (by kernel_rfl) (fun _ _ _ h => h) (Or.inl ⟨by rfl, by intro w; go_simp; try rfl⟩) ?_
  try simp only [Act.put, List.setIfInBounds_toArray, List.set_cons_zero, List.set_cons_succ]
  refine wpAny_take (i := 9) (oi := ⟨some 42, _, _, _, _, _⟩) (v := ?_) rfl (by kernel_rfl) (by kernel_rfl) (by kernel_rfl) (fun _ _ _ h => h) (Or.inl ⟨by rfl, by intro w; go_simp; try rfl⟩) ?_
  try simp only [Act.put, List.setIfInBounds_toArray, List.set_cons_zero, List.set_cons_succ]
  refine wpAny_take (i := 10) (oi := ⟨some 43, _, _, _, _, _⟩) (v := ?_) rfl (by kernel_rfl) (by kernel_rfl) (by kernel_rfl) (fun _ _ _ h => h) (Or.inl ⟨by rfl, by intro w; go_simp; try rfl⟩) ?_
  try simp only [Act.put, List.setIfInBounds_toArray, List.set_cons_zero, List.set_cons_succ]
  refine wpAny_take (i := 11) (oi := ⟨some 44, _, _, _, _, _⟩) (v := ?_) rfl (by kernel_rfl) (by kernel_rfl) (by kernel_rfl) (fun _ _ _ h => h) (Or.inl ⟨by rfl, by intro w; go_simp; try rfl⟩) ?_
  try simp only [Act.put, List.setIfInBounds_toArray, List.set_cons_zero, List.set_cons_succ]
  refine wpAny_take (i := 14) (oi := ⟨some 47, _, _, _, _, _⟩) (v := ?_) rfl (by kernel_rfl) (by kernel_rfl) (by kernel_rfl) (fun _ _ _ h => h) (Or.inl ⟨by rfl, by intro w; go_simp; try rfl⟩) ?_
  try simp only [Act.put, List.setIfInBounds_toArray, List.set_cons_zero, List.set_cons_succ]
  refine wpAny_take (i := 15) (oi := ⟨some 48, _, _, _, _, _⟩) (v := ?_) rfl (by kernel_rfl) (by kernel_rfl) (by kernel_rfl) (fun _ _ _ h => h) (Or.inl ⟨by rfl, by intro w; go_simp; try rfl⟩) ?_
  try simp only [Act.put, List.setIfInBounds_toArray, List.set_cons_zero, List.set_cons_succ]
  refine wpAny_ready (rs := [1, 7]) (by kernel_rfl) (by simp) ?_
  refine AllReady.cons (o := ⟨some 34, _, _, _, _, _⟩) rfl (fun K hK => ?_) (AllReady.cons (o := ⟨some 40, _, _, _, _, _⟩) rfl (fun K hK => ?_) AllReady.nil)
  · have q : wS.cell? ⟨gv, 1, none⟩ = some (.slice (some ⟨bs, os, none⟩) av.sn av.sc) := by rw [← HA.out]; exact HV.out.cell? 1
    go_simp
    refine hK _ _ ?_
    clear hK K q
    try simp only [Act.put, List.setIfInBounds_toArray, List.set_cons_zero, List.set_cons_succ]
    refine wpAny_ready (rs := [7]) (by kernel_rfl) (by simp) ?_
    refine AllReady.cons (o := ⟨some 40, _, _, _, _, _⟩) rfl (fun K hK => ?_) AllReady.nil
    have q : wS.cell? ⟨gv, 1, none⟩ = some (.slice (some ⟨bs, os, none⟩) av.sn av.sc) := by rw [← HA.out]; exact HV.out.cell? 1
    go_simp
    refine hK _ _ ?_
    clear hK K q
    try simp only [Act.put, List.setIfInBounds_toArray, List.set_cons_zero, List.set_cons_succ]
    refine wpAny_take (i := 12) (oi := ⟨some 45, _, _, _, _, _⟩) (v := ?_) rfl (by kernel_rfl) (by kernel_rfl) (by kernel_rfl) (fun _ _ _ h => h) (Or.inl ⟨by rfl, by intro w; go_simp; try rfl⟩) ?_
    try simp only [Act.put, List.setIfInBounds_toArray, List.set_cons_zero, List.set_cons_succ]
    refine wpAny_ready (rs := [13]) (by kernel_rfl) (by simp) ?_
    refine AllReady.cons (o := ⟨some 46, _, _, _, _, _⟩) rfl (fun K hK => ?_) AllReady.nil
    have q := HC.out wS hBw
    go_simp
    refine hK _ _ ?_
    clear hK K q
    try simp only [Act.put, List.setIfInBounds_toArray, List.set_cons_zero, List.set_cons_succ]
    refine wpAny_ready (rs := [16]) (by kernel_rfl) (by simp) ?_
    refine AllReady.cons (o := ⟨some 49, _, _, _, _, _⟩) rfl (fun K hK => ?_) AllReady.nil
    go_simp
    refine (rover_any (HMl.out wS hBw) A3 n3 c3 lo A8 272 c7 ((padL l 272).take 272) (HOl.out wS hBw).bs (HPl.out wS hBw) hn3 kp hKle (by decide)).mono ?_
    rintro e w64 ⟨A5, n5, c5, rfl, hb', hx5⟩
    refine hK _ _ ?_
    clear hK K
    try simp only [Act.put, List.setIfInBounds_toArray, List.set_cons_zero, List.set_cons_succ]
    replace HV : Kp _ := ⟨HV.out.below hb' HV.out.lt⟩
    replace HR : Kp _ := ⟨HR.out.below hb' HR.out.lt⟩
    replace hBw := hBw.trans (hb'.mono hBw.size)
    have HX5 : Kp _ := ⟨hx5⟩
    clear hx5
    clear hb'
    refine wpAny_ready (rs := [17]) (by kernel_rfl) (by simp) ?_
    refine AllReady.cons (o := ⟨some 50, _, _, _, _, _⟩) rfl (fun K hK => ?_) AllReady.nil
    go_simp
    refine (rwith_any (HMl.out w64 hBw) (some ⟨bs, os, none⟩) av.sn av.sc vs (HRl.out w64 hBw) HOne.out hsn k hkn A5 n5 c5).mono ?_
    rintro e w65 ⟨A9, c9, rfl, hb', hx9⟩
    refine hK _ _ ?_
    clear hK K
    try simp only [Act.put, List.setIfInBounds_toArray, List.set_cons_zero, List.set_cons_succ]
    replace HV : Kp _ := ⟨HV.out.below hb' HV.out.lt⟩
    replace HR : Kp _ := ⟨HR.out.below hb' HR.out.lt⟩
    replace hBw := hBw.trans (hb'.mono hBw.size)
    replace HX5 : Kp _ := ⟨HX5.out.below hb'⟩
    have HX9 : Kp _ := ⟨hx9⟩
    clear hx9
    clear hb'
    refine wpAny_take (i := 18) (oi := ⟨some 51, _, _, _, _, _⟩) (v := ?_) rfl (by kernel_rfl) (by kernel_rfl) (by kernel_rfl) (fun _ _ _ h => h) (Or.inl ⟨by rfl, by intro w; go_simp; try rfl⟩) ?_
    try simp only [Act.put, List.setIfInBounds_toArray, List.set_cons_zero, List.set_cons_succ]
    refine wpAny_ready (rs := [19]) (by kernel_rfl) (by simp) ?_
    refine AllReady.cons (o := ⟨none, _, _, _, _, _⟩) rfl (fun K hK => ?_) AllReady.nil
    have q : w65.cell? ⟨gv, 1, none⟩ = some (.slice (some ⟨bs, os, none⟩) av.sn av.sc) := by rw [← HA.out]; exact HV.out.cell? 1
    have f := HV.out.frozen 1
    go_simp
    refine hK _ _ ?_
    clear hK K q f
    try simp only [Act.put]
    have hW12 := hBw
    have HV12 := HV
    have HR12 := HR
    refine wpAny_done (by kernel_rfl) ?_ _
    have ho12 := Only.setCell w65 ⟨gv, 1, none⟩ (.slice A9 av.sn c9)
    have hin : i < v.n := by rw [HVs.out.2]; exact HKk.out.2.1
    have HY13 : Kp (TvM (w65.setCell ⟨gv, 1, none⟩ (.slice A9 av.sn c9)) M6 { av with sA := A9, sc := c9 } { v with sl := fun z => if z = ((i : Int), (s : Int)) then overL lo ((padL l 272).take 272) kp else v.sl z }) := ⟨by
      have hS : ∀ j, j = gv → M6 j := fun j hj => HY1.out j (.inr hj)
      have hc1 : Chg (fun j => j = gv) w65 (w65.setCell ⟨gv, 1, none⟩ (.slice A9 av.sn c9)) := Chg.of_only (S := fun j => j = gv) ho12 rfl
      have T12 : TvM (w65.setCell ⟨gv, 1, none⟩ (.slice A9 av.sn c9)) M6 av v := (HY3.out.below hW12).chg hc1 hS (fun _ h => .inl h)
      have s11 : SlT w65 M6 av.sA av.sn av.sc v.n v.sl vs := HSe.out.chg (Chg.of_below (fun _ => False) hW12) (fun _ h => h.elim) (fun _ h => .inl h)
      have s12 : SlT (w65.setCell ⟨gv, 1, none⟩ (.slice A9 av.sn c9)) M6 av.sA av.sn av.sc v.n v.sl vs := s11.chg hc1 hS (fun _ h => .inl h)
      refine T12.newSlot vs s12 k i s HKk.out.1 HKk.out.2.2.1 hin A9 A5 c9 n5 c5 _ (HX9.out.chg hc1 hS (fun _ h => .inl h)) (HX5.out.chg hc1 hS (fun _ h => .inl h)) ?_
      rw [overL_length _ _ _ (by rw [List.length_take]; omega), HLoL.out.1]
      omega⟩
    have HV13 : Kp (Blk (w65.setCell ⟨gv, 1, none⟩ (.slice A9 av.sn c9)) gv 42 (tvL { av with sA := A9, sc := c9 } { v with sl := fun z => if z = ((i : Int), (s : Int)) then overL lo ((padL l 272).take 272) kp else v.sl z })) := ⟨HV12.out.set 1 _⟩
    have HR13 : Kp (Blk (w65.setCell ⟨gv, 1, none⟩ (.slice A9 av.sn c9)) g4 42 zeroT') := ⟨HR12.out.other (by show g4 ≠ gv; omega) _⟩
    have hB13 : Below w.heap.size w (w65.setCell ⟨gv, 1, none⟩ (.slice A9 av.sn c9)) := (hB.trans (hW12.mono hB.size)).setCell (by show w.heap.size ≤ gv; omega) _
    clear HV HR HX5 HX9 hW12 HV12 HR12 hBw ho12 HSe HY3 HRl HOl HPl HC HMl HOne
    generalize (w65.setCell ⟨gv, 1, none⟩ (.slice A9 av.sn c9)) = w13 at *
    obtain ⟨v9, hv9⟩ : ∃ v9, v9 = { v with sl := fun z => if z = ((i : Int), (s : Int)) then overL lo ((padL l 272).take 272) kp else v.sl z } := ⟨_, rfl⟩
    obtain ⟨av9, hav9⟩ : ∃ v9 : Ta, v9 = { av with sA := A9, sc := c9 } := ⟨_, rfl⟩
    have HW9 : Kp (writeW t ((i : Int), (s : Int)) l = v9 ∧ writeB t ((i : Int), (s : Int)) = !v9.lost) := ⟨by rw [HW.out.1, HW.out.2, hv9, HLoL.out.2, HVs.out.1]; exact ⟨rfl, rfl⟩⟩
    have HN9 : Kp (av9.ln = a.ln) := ⟨by rw [hav9]; exact HNv.out⟩
    rw [← hv9, ← hav9] at HY13 HV13
    have HL9 : Kp _ := ⟨tvL_length av9 v9⟩
    have hM4 : ∀ j, j = g4 → M6 j := fun j hj => HY1.out j (.inl (.inl (.inr hj)))
    have hMM : ∀ j, M j → M6 j ∨ w13.heap.size ≤ j := fun j hj => .inl (HY1.out j (.inl (.inl (.inl hj))))
    have hne4 : gv ≠ g4 := by omega
    have hg4le : w.heap.size ≤ g4 := Nat.le_of_lt h4
    have HRd : Kp (Blk w13.drew g4 42 zeroT') := ⟨HR13.out.drew⟩
    have q8 : ∀ W, (Blk W gv 42 (tvL av9 v9) ∧ Only g4 w13 W) → W.cell? ⟨gv, 8, none⟩ = some (.bool v9.lost) := fun W hW => hW.1.cell? 8
    clear hv9 hav9 HW HLoL HVs HLv HOv HKk hin
    go_wp2_with fail
    refine wp_region_held_drew (S := fun W => Blk W gv 42 (tvL av9 v9) ∧ Only g4 w13 W) (by kernel_rfl) (⟨HV13.out.drew, (Only.refl _ _).drew⟩) (fun hHeld => ?_)
    generalize w13.drew = wS at *
    refine wpAnyH_take (i := 0) (oi := ⟨some 52, _, _, _, _, _⟩) (v := _) rfl (by kernel_rfl) (by kernel_rfl) (by kernel_rfl) (fun _ _ _ h => h) (yieldsIf_load_mid (by rfl) 42 (.tmp 12) rfl gv 0 rfl (tvL av9 v9) _ (fun W hW => hW.1.allC) rwT.ty rwT.row (by rw [rwT.size, HL9.out])) (by assumption) ?_
    try simp only [Act.put, List.setIfInBounds_toArray, List.set_cons_zero, List.set_cons_succ]
    refine wpAnyH_take (i := 1) (oi := ⟨some 53, _, _, _, _, _⟩) (v := ?_) rfl (by kernel_rfl) (by kernel_rfl) (by kernel_rfl) (fun _ _ _ h => h) (Or.inl ⟨by rfl, by intro w hSw; go_simp; try rfl⟩) (by assumption) ?_
    try simp only [Act.put, List.setIfInBounds_toArray, List.set_cons_zero, List.set_cons_succ]
    refine wpAnyH_take (i := 2) (oi := ⟨some 54, _, _, _, _, _⟩) (v := ?_) rfl (by kernel_rfl) (by kernel_rfl) (by kernel_rfl) (fun _ _ _ h => h) (Or.inl ⟨by rfl, by intro w hSw; go_simp; try rfl⟩) (by assumption) ?_
    try simp only [Act.put, List.setIfInBounds_toArray, List.set_cons_zero, List.set_cons_succ]
    refine wpAnyH_take (i := 3) (oi := ⟨some 55, _, _, _, _, _⟩) (v := ?_) rfl (by kernel_rfl) (by kernel_rfl) (by kernel_rfl) (fun _ _ _ h => h) (Or.inl ⟨by rfl, by intro w hSw; go_simp; try rfl⟩) (by assumption) ?_
    try simp only [Act.put, List.setIfInBounds_toArray, List.set_cons_zero, List.set_cons_succ]
    refine wpAnyH_ready (rs := [4]) (by kernel_rfl) (by simp) ?_
    refine AllReadyH.cons (o := ⟨none, _, _, _, _, _⟩) rfl (fun K hK => ?_) AllReadyH.nil
    refine step_store rwT rfl (.tmp 8) (.tmp 52) rfl rfl rfl HRd.out HL9.out (by rw [HZ.out]; decide) (tvL_one _ _) ?_
    intro w51 hk ho
    have HF : Kp (Blk w51 g4 42 (tvL av9 v9)) := ⟨by have h := hk; rwa [List.drop_of_length_le (by rw [HZ.out]; decide), List.take_zero, List.nil_append, List.append_nil] at h⟩
    refine hK.out _ _ ⟨hHeld.1.only ho hne4, hHeld.2.trans ho⟩ (fun hHeld2 => ?_)
    clear hk ho
    clear hK K hHeld
    have hHeld := hHeld2
    clear hHeld2
    try simp only [Act.put]
    refine wpAnyH_take (i := 5) (oi := ⟨some 9, _, _, _, _, _⟩) (v := ?_) rfl (by kernel_rfl) (by kernel_rfl) (by kernel_rfl) (fun _ _ _ h => h) (Or.inl ⟨by rfl, by intro w hSw; go_simp; try rfl⟩) (by assumption) ?_
    try simp only [Act.put, List.setIfInBounds_toArray, List.set_cons_zero, List.set_cons_succ]
    refine wpAnyH_done (by kernel_rfl) ?_ _
    have ho := hHeld.2
    clear hHeld
    go_wp2
    refine ret_arrB rfl rwT rfl rfl HF.out (tvL_length _ _) rfl ?_
    rw [HW9.out.1, HW9.out.2]
    exact ⟨av9, rfl, hB13.trans (ho.below hg4le), HN9.out, HY13.out.chg (Chg.of_only (S := fun j => j = g4) ho rfl) hM4 hMM⟩
  · have q : wS.cell? ⟨gv, 1, none⟩ = some (.slice (some ⟨bs, os, none⟩) av.sn av.sc) := by rw [← HA.out]; exact HV.out.cell? 1
    go_simp
    refine hK _ _ ?_
    clear hK K q
    try simp only [Act.put, List.setIfInBounds_toArray, List.set_cons_zero, List.set_cons_succ]
    refine wpAny_take (i := 12) (oi := ⟨some 45, _, _, _, _, _⟩) (v := ?_) rfl (by kernel_rfl) (by kernel_rfl) (by kernel_rfl) (fun _ _ _ h => h) (Or.inl ⟨by rfl, by intro w; go_simp; try rfl⟩) ?_
    try simp only [Act.put, List.setIfInBounds_toArray, List.set_cons_zero, List.set_cons_succ]
    refine wpAny_ready (rs := [1, 13]) (by kernel_rfl) (by simp) ?_
    refine AllReady.cons (o := ⟨some 34, _, _, _, _, _⟩) rfl (fun K hK => ?_) (AllReady.cons (o := ⟨some 46, _, _, _, _, _⟩) rfl (fun K hK => ?_) AllReady.nil)
    · have q : wS.cell? ⟨gv, 1, none⟩ = some (.slice (some ⟨bs, os, none⟩) av.sn av.sc) := by rw [← HA.out]; exact HV.out.cell? 1
      go_simp
      refine hK _ _ ?_
      clear hK K q
      try simp only [Act.put, List.setIfInBounds_toArray, List.set_cons_zero, List.set_cons_succ]
      refine wpAny_ready (rs := [13]) (by kernel_rfl) (by simp) ?_
      refine AllReady.cons (o := ⟨some 46, _, _, _, _, _⟩) rfl (fun K hK => ?_) AllReady.nil
      have q := HC.out wS hBw
      go_simp
      refine hK _ _ ?_
      clear hK K q
      try simp only [Act.put, List.setIfInBounds_toArray, List.set_cons_zero, List.set_cons_succ]
      refine wpAny_ready (rs := [16]) (by kernel_rfl) (by simp) ?_
      refine AllReady.cons (o := ⟨some 49, _, _, _, _, _⟩) rfl (fun K hK => ?_) AllReady.nil
      go_simp
      refine (rover_any (HMl.out wS hBw) A3 n3 c3 lo A8 272 c7 ((padL l 272).take 272) (HOl.out wS hBw).bs (HPl.out wS hBw) hn3 kp hKle (by decide)).mono ?_
      rintro e w70 ⟨A5, n5, c5, rfl, hb', hx5⟩
      refine hK _ _ ?_
      clear hK K
      try simp only [Act.put, List.setIfInBounds_toArray, List.set_cons_zero, List.set_cons_succ]
      replace HV : Kp _ := ⟨HV.out.below hb' HV.out.lt⟩
      replace HR : Kp _ := ⟨HR.out.below hb' HR.out.lt⟩
      replace hBw := hBw.trans (hb'.mono hBw.size)
      have HX5 : Kp _ := ⟨hx5⟩
      clear hx5
      clear hb'
      refine wpAny_ready (rs := [17]) (by kernel_rfl) (by simp) ?_
      refine AllReady.cons (o := ⟨some 50, _, _, _, _, _⟩) rfl (fun K hK => ?_) AllReady.nil
      go_simp
      refine (rwith_any (HMl.out w70 hBw) (some ⟨bs, os, none⟩) av.sn av.sc vs (HRl.out w70 hBw) HOne.out hsn k hkn A5 n5 c5).mono ?_
      rintro e w71 ⟨A9, c9, rfl, hb', hx9⟩
      refine hK _ _ ?_
      clear hK K
      try simp only [Act.put, List.setIfInBounds_toArray, List.set_cons_zero, List.set_cons_succ]
      replace HV : Kp _ := ⟨HV.out.below hb' HV.out.lt⟩
      replace HR : Kp _ := ⟨HR.out.below hb' HR.out.lt⟩
      replace hBw := hBw.trans (hb'.mono hBw.size)
      replace HX5 : Kp _ := ⟨HX5.out.below hb'⟩
      have HX9 : Kp _ := ⟨hx9⟩
      clear hx9
      clear hb'
      refine wpAny_take (i := 18) (oi := ⟨some 51, _, _, _, _, _⟩) (v := ?_) rfl (by kernel_rfl) (by kernel_rfl) (by kernel_rfl) (fun _ _ _ h => h) (Or.inl ⟨by rfl, by intro w; go_simp; try rfl⟩) ?_
      try simp only [Act.put, List.setIfInBounds_toArray, List.set_cons_zero, List.set_cons_succ]
      refine wpAny_ready (rs := [19]) (by kernel_rfl) (by simp) ?_
      refine AllReady.cons (o := ⟨none, _, _, _, _, _⟩) rfl (fun K hK => ?_) AllReady.nil
      have q : w71.cell? ⟨gv, 1, none⟩ = some (.slice (some ⟨bs, os, none⟩) av.sn av.sc) := by rw [← HA.out]; exact HV.out.cell? 1
      have f := HV.out.frozen 1
      go_simp
      refine hK _ _ ?_
      clear hK K q f
      try simp only [Act.put]
      have hW12 := hBw
      have HV12 := HV
      have HR12 := HR
      refine wpAny_done (by kernel_rfl) ?_ _
      have ho12 := Only.setCell w71 ⟨gv, 1, none⟩ (.slice A9 av.sn c9)
      have hin : i < v.n := by rw [HVs.out.2]; exact HKk.out.2.1
      have HY13 : Kp (TvM (w71.setCell ⟨gv, 1, none⟩ (.slice A9 av.sn c9)) M6 { av with sA := A9, sc := c9 } { v with sl := fun z => if z = ((i : Int), (s : Int)) then overL lo ((padL l 272).take 272) kp else v.sl z }) := ⟨by
        have hS : ∀ j, j = gv → M6 j := fun j hj => HY1.out j (.inr hj)
        have hc1 : Chg (fun j => j = gv) w71 (w71.setCell ⟨gv, 1, none⟩ (.slice A9 av.sn c9)) := Chg.of_only (S := fun j => j = gv) ho12 rfl
        have T12 : TvM (w71.setCell ⟨gv, 1, none⟩ (.slice A9 av.sn c9)) M6 av v := (HY3.out.below hW12).chg hc1 hS (fun _ h => .inl h)
        have s11 : SlT w71 M6 av.sA av.sn av.sc v.n v.sl vs := HSe.out.chg (Chg.of_below (fun _ => False) hW12) (fun _ h => h.elim) (fun _ h => .inl h)
        have s12 : SlT (w71.setCell ⟨gv, 1, none⟩ (.slice A9 av.sn c9)) M6 av.sA av.sn av.sc v.n v.sl vs := s11.chg hc1 hS (fun _ h => .inl h)
        refine T12.newSlot vs s12 k i s HKk.out.1 HKk.out.2.2.1 hin A9 A5 c9 n5 c5 _ (HX9.out.chg hc1 hS (fun _ h => .inl h)) (HX5.out.chg hc1 hS (fun _ h => .inl h)) ?_
        rw [overL_length _ _ _ (by rw [List.length_take]; omega), HLoL.out.1]
        omega⟩
      have HV13 : Kp (Blk (w71.setCell ⟨gv, 1, none⟩ (.slice A9 av.sn c9)) gv 42 (tvL { av with sA := A9, sc := c9 } { v with sl := fun z => if z = ((i : Int), (s : Int)) then overL lo ((padL l 272).take 272) kp else v.sl z })) := ⟨HV12.out.set 1 _⟩
      have HR13 : Kp (Blk (w71.setCell ⟨gv, 1, none⟩ (.slice A9 av.sn c9)) g4 42 zeroT') := ⟨HR12.out.other (by show g4 ≠ gv; omega) _⟩
      have hB13 : Below w.heap.size w (w71.setCell ⟨gv, 1, none⟩ (.slice A9 av.sn c9)) := (hB.trans (hW12.mono hB.size)).setCell (by show w.heap.size ≤ gv; omega) _
      clear HV HR HX5 HX9 hW12 HV12 HR12 hBw ho12 HSe HY3 HRl HOl HPl HC HMl HOne
      generalize (w71.setCell ⟨gv, 1, none⟩ (.slice A9 av.sn c9)) = w13 at *
      obtain ⟨v9, hv9⟩ : ∃ v9, v9 = { v with sl := fun z => if z = ((i : Int), (s : Int)) then overL lo ((padL l 272).take 272) kp else v.sl z } := ⟨_, rfl⟩
      obtain ⟨av9, hav9⟩ : ∃ v9 : Ta, v9 = { av with sA := A9, sc := c9 } := ⟨_, rfl⟩
      have HW9 : Kp (writeW t ((i : Int), (s : Int)) l = v9 ∧ writeB t ((i : Int), (s : Int)) = !v9.lost) := ⟨by rw [HW.out.1, HW.out.2, hv9, HLoL.out.2, HVs.out.1]; exact ⟨rfl, rfl⟩⟩
      have HN9 : Kp (av9.ln = a.ln) := ⟨by rw [hav9]; exact HNv.out⟩
      rw [← hv9, ← hav9] at HY13 HV13
      have HL9 : Kp _ := ⟨tvL_length av9 v9⟩
      have hM4 : ∀ j, j = g4 → M6 j := fun j hj => HY1.out j (.inl (.inl (.inr hj)))
      have hMM : ∀ j, M j → M6 j ∨ w13.heap.size ≤ j := fun j hj => .inl (HY1.out j (.inl (.inl (.inl hj))))
      have hne4 : gv ≠ g4 := by omega
      have hg4le : w.heap.size ≤ g4 := Nat.le_of_lt h4
      have HRd : Kp (Blk w13.drew g4 42 zeroT') := ⟨HR13.out.drew⟩
      have q8 : ∀ W, (Blk W gv 42 (tvL av9 v9) ∧ Only g4 w13 W) → W.cell? ⟨gv, 8, none⟩ = some (.bool v9.lost) := fun W hW => hW.1.cell? 8
      clear hv9 hav9 HW HLoL HVs HLv HOv HKk hin
      go_wp2_with fail
      refine wp_region_held_drew (S := fun W => Blk W gv 42 (tvL av9 v9) ∧ Only g4 w13 W) (by kernel_rfl) (⟨HV13.out.drew, (Only.refl _ _).drew⟩) (fun hHeld => ?_)
      generalize w13.drew = wS at *
      refine wpAnyH_take (i := 0) (oi := ⟨some 52, _, _, _, _, _⟩) (v := _) rfl (by kernel_rfl) (by kernel_rfl) (by kernel_rfl) (fun _ _ _ h => h) (yieldsIf_load_mid (by rfl) 42 (.tmp 12) rfl gv 0 rfl (tvL av9 v9) _ (fun W hW => hW.1.allC) rwT.ty rwT.row (by rw [rwT.size, HL9.out])) (by assumption) ?_
      try simp only [Act.put, List.setIfInBounds_toArray, List.set_cons_zero, List.set_cons_succ]
      refine wpAnyH_take (i := 1) (oi := ⟨some 53, _, _, _, _, _⟩) (v := ?_) rfl (by kernel_rfl) (by kernel_rfl) (by kernel_rfl) (fun _ _ _ h => h) (Or.inl ⟨by rfl, by intro w hSw; go_simp; try rfl⟩) (by assumption) ?_
      try simp only [Act.put, List.setIfInBounds_toArray, List.set_cons_zero, List.set_cons_succ]
      refine wpAnyH_take (i := 2) (oi := ⟨some 54, _, _, _, _, _⟩) (v := ?_) rfl (by kernel_rfl) (by kernel_rfl) (by kernel_rfl) (fun _ _ _ h => h) (Or.inl ⟨by rfl, by intro w hSw; go_simp; try rfl⟩) (by assumption) ?_
      try simp only [Act.put, List.setIfInBounds_toArray, List.set_cons_zero, List.set_cons_succ]
      refine wpAnyH_take (i := 3) (oi := ⟨some 55, _, _, _, _, _⟩) (v := ?_) rfl (by kernel_rfl) (by kernel_rfl) (by kernel_rfl) (fun _ _ _ h => h) (Or.inl ⟨by rfl, by intro w hSw; go_simp; try rfl⟩) (by assumption) ?_
      try simp only [Act.put, List.setIfInBounds_toArray, List.set_cons_zero, List.set_cons_succ]
      refine wpAnyH_ready (rs := [4]) (by kernel_rfl) (by simp) ?_
      refine AllReadyH.cons (o := ⟨none, _, _, _, _, _⟩) rfl (fun K hK => ?_) AllReadyH.nil
      refine step_store rwT rfl (.tmp 8) (.tmp 52) rfl rfl rfl HRd.out HL9.out (by rw [HZ.out]; decide) (tvL_one _ _) ?_
      intro w51 hk ho
      have HF : Kp (Blk w51 g4 42 (tvL av9 v9)) := ⟨by have h := hk; rwa [List.drop_of_length_le (by rw [HZ.out]; decide), List.take_zero, List.nil_append, List.append_nil] at h⟩
      refine hK.out _ _ ⟨hHeld.1.only ho hne4, hHeld.2.trans ho⟩ (fun hHeld2 => ?_)
      clear hk ho
      clear hK K hHeld
      have hHeld := hHeld2
      clear hHeld2
      try simp only [Act.put]
      refine wpAnyH_take (i := 5) (oi := ⟨some 9, _, _, _, _, _⟩) (v := ?_) rfl (by kernel_rfl) (by kernel_rfl) (by kernel_rfl) (fun _ _ _ h => h) (Or.inl ⟨by rfl, by intro w hSw; go_simp; try rfl⟩) (by assumption) ?_
      try simp only [Act.put, List.setIfInBounds_toArray, List.set_cons_zero, List.set_cons_succ]
      refine wpAnyH_done (by kernel_rfl) ?_ _
      have ho := hHeld.2
      clear hHeld
      go_wp2
      refine ret_arrB rfl rwT rfl rfl HF.out (tvL_length _ _) rfl ?_
      rw [HW9.out.1, HW9.out.2]
      exact ⟨av9, rfl, hB13.trans (ho.below hg4le), HN9.out, HY13.out.chg (Chg.of_only (S := fun j => j = g4) ho rfl) hM4 hMM⟩
    · have q := HC.out wS hBw
      go_simp
      refine hK _ _ ?_
      clear hK K q
      try simp only [Act.put, List.setIfInBounds_toArray, List.set_cons_zero, List.set_cons_succ]
      refine wpAny_ready (rs := [1, 16]) (by kernel_rfl) (by simp) ?_
      refine AllReady.cons (o := ⟨some 34, _, _, _, _, _⟩) rfl (fun K hK => ?_) (AllReady.cons (o := ⟨some 49, _, _, _, _, _⟩) rfl (fun K hK => ?_) AllReady.nil)
      · have q : wS.cell? ⟨gv, 1, none⟩ = some (.slice (some ⟨bs, os, none⟩) av.sn av.sc) := by rw [← HA.out]; exact HV.out.cell? 1
        go_simp
        refine hK _ _ ?_
        clear hK K q
        try simp only [Act.put, List.setIfInBounds_toArray, List.set_cons_zero, List.set_cons_succ]
        refine wpAny_ready (rs := [16]) (by kernel_rfl) (by simp) ?_
        refine AllReady.cons (o := ⟨some 49, _, _, _, _, _⟩) rfl (fun K hK => ?_) AllReady.nil
        go_simp
        refine (rover_any (HMl.out wS hBw) A3 n3 c3 lo A8 272 c7 ((padL l 272).take 272) (HOl.out wS hBw).bs (HPl.out wS hBw) hn3 kp hKle (by decide)).mono ?_
        rintro e w75 ⟨A5, n5, c5, rfl, hb', hx5⟩
        refine hK _ _ ?_
        clear hK K
        try simp only [Act.put, List.setIfInBounds_toArray, List.set_cons_zero, List.set_cons_succ]
        replace HV : Kp _ := ⟨HV.out.below hb' HV.out.lt⟩
        replace HR : Kp _ := ⟨HR.out.below hb' HR.out.lt⟩
        replace hBw := hBw.trans (hb'.mono hBw.size)
        have HX5 : Kp _ := ⟨hx5⟩
        clear hx5
        clear hb'
        refine wpAny_ready (rs := [17]) (by kernel_rfl) (by simp) ?_
        refine AllReady.cons (o := ⟨some 50, _, _, _, _, _⟩) rfl (fun K hK => ?_) AllReady.nil
        go_simp
        refine (rwith_any (HMl.out w75 hBw) (some ⟨bs, os, none⟩) av.sn av.sc vs (HRl.out w75 hBw) HOne.out hsn k hkn A5 n5 c5).mono ?_
        rintro e w76 ⟨A9, c9, rfl, hb', hx9⟩
        refine hK _ _ ?_
        clear hK K
        try simp only [Act.put, List.setIfInBounds_toArray, List.set_cons_zero, List.set_cons_succ]
        replace HV : Kp _ := ⟨HV.out.below hb' HV.out.lt⟩
        replace HR : Kp _ := ⟨HR.out.below hb' HR.out.lt⟩
        replace hBw := hBw.trans (hb'.mono hBw.size)
        replace HX5 : Kp _ := ⟨HX5.out.below hb'⟩
        have HX9 : Kp _ := ⟨hx9⟩
        clear hx9
        clear hb'
        refine wpAny_take (i := 18) (oi := ⟨some 51, _, _, _, _, _⟩) (v := ?_) rfl (by kernel_rfl) (by kernel_rfl) (by kernel_rfl) (fun _ _ _ h => h) (Or.inl ⟨by rfl, by intro w; go_simp; try rfl⟩) ?_
        try simp only [Act.put, List.setIfInBounds_toArray, List.set_cons_zero, List.set_cons_succ]
        refine wpAny_ready (rs := [19]) (by kernel_rfl) (by simp) ?_
        refine AllReady.cons (o := ⟨none, _, _, _, _, _⟩) rfl (fun K hK => ?_) AllReady.nil
        have q : w76.cell? ⟨gv, 1, none⟩ = some (.slice (some ⟨bs, os, none⟩) av.sn av.sc) := by rw [← HA.out]; exact HV.out.cell? 1
        have f := HV.out.frozen 1
        go_simp
        refine hK _ _ ?_
        clear hK K q f
        try simp only [Act.put]
        have hW12 := hBw
        have HV12 := HV
        have HR12 := HR
        refine wpAny_done (by kernel_rfl) ?_ _
        have ho12 := Only.setCell w76 ⟨gv, 1, none⟩ (.slice A9 av.sn c9)
        have hin : i < v.n := by rw [HVs.out.2]; exact HKk.out.2.1
        have HY13 : Kp (TvM (w76.setCell ⟨gv, 1, none⟩ (.slice A9 av.sn c9)) M6 { av with sA := A9, sc := c9 } { v with sl := fun z => if z = ((i : Int), (s : Int)) then overL lo ((padL l 272).take 272) kp else v.sl z }) := ⟨by
          have hS : ∀ j, j = gv → M6 j := fun j hj => HY1.out j (.inr hj)
          have hc1 : Chg (fun j => j = gv) w76 (w76.setCell ⟨gv, 1, none⟩ (.slice A9 av.sn c9)) := Chg.of_only (S := fun j => j = gv) ho12 rfl
          have T12 : TvM (w76.setCell ⟨gv, 1, none⟩ (.slice A9 av.sn c9)) M6 av v := (HY3.out.below hW12).chg hc1 hS (fun _ h => .inl h)
          have s11 : SlT w76 M6 av.sA av.sn av.sc v.n v.sl vs := HSe.out.chg (Chg.of_below (fun _ => False) hW12) (fun _ h => h.elim) (fun _ h => .inl h)
          have s12 : SlT (w76.setCell ⟨gv, 1, none⟩ (.slice A9 av.sn c9)) M6 av.sA av.sn av.sc v.n v.sl vs := s11.chg hc1 hS (fun _ h => .inl h)
          refine T12.newSlot vs s12 k i s HKk.out.1 HKk.out.2.2.1 hin A9 A5 c9 n5 c5 _ (HX9.out.chg hc1 hS (fun _ h => .inl h)) (HX5.out.chg hc1 hS (fun _ h => .inl h)) ?_
          rw [overL_length _ _ _ (by rw [List.length_take]; omega), HLoL.out.1]
          omega⟩
        have HV13 : Kp (Blk (w76.setCell ⟨gv, 1, none⟩ (.slice A9 av.sn c9)) gv 42 (tvL { av with sA := A9, sc := c9 } { v with sl := fun z => if z = ((i : Int), (s : Int)) then overL lo ((padL l 272).take 272) kp else v.sl z })) := ⟨HV12.out.set 1 _⟩
        have HR13 : Kp (Blk (w76.setCell ⟨gv, 1, none⟩ (.slice A9 av.sn c9)) g4 42 zeroT') := ⟨HR12.out.other (by show g4 ≠ gv; omega) _⟩
        have hB13 : Below w.heap.size w (w76.setCell ⟨gv, 1, none⟩ (.slice A9 av.sn c9)) := (hB.trans (hW12.mono hB.size)).setCell (by show w.heap.size ≤ gv; omega) _
        clear HV HR HX5 HX9 hW12 HV12 HR12 hBw ho12 HSe HY3 HRl HOl HPl HC HMl HOne
        generalize (w76.setCell ⟨gv, 1, none⟩ (.slice A9 av.sn c9)) = w13 at *
        obtain ⟨v9, hv9⟩ : ∃ v9, v9 = { v with sl := fun z => if z = ((i : Int), (s : Int)) then overL lo ((padL l 272).take 272) kp else v.sl z } := ⟨_, rfl⟩
        obtain ⟨av9, hav9⟩ : ∃ v9 : Ta, v9 = { av with sA := A9, sc := c9 } := ⟨_, rfl⟩
        have HW9 : Kp (writeW t ((i : Int), (s : Int)) l = v9 ∧ writeB t ((i : Int), (s : Int)) = !v9.lost) := ⟨by rw [HW.out.1, HW.out.2, hv9, HLoL.out.2, HVs.out.1]; exact ⟨rfl, rfl⟩⟩
        have HN9 : Kp (av9.ln = a.ln) := ⟨by rw [hav9]; exact HNv.out⟩
        rw [← hv9, ← hav9] at HY13 HV13
        have HL9 : Kp _ := ⟨tvL_length av9 v9⟩
        have hM4 : ∀ j, j = g4 → M6 j := fun j hj => HY1.out j (.inl (.inl (.inr hj)))
        have hMM : ∀ j, M j → M6 j ∨ w13.heap.size ≤ j := fun j hj => .inl (HY1.out j (.inl (.inl (.inl hj))))
        have hne4 : gv ≠ g4 := by omega
        have hg4le : w.heap.size ≤ g4 := Nat.le_of_lt h4
        have HRd : Kp (Blk w13.drew g4 42 zeroT') := ⟨HR13.out.drew⟩
        have q8 : ∀ W, (Blk W gv 42 (tvL av9 v9) ∧ Only g4 w13 W) → W.cell? ⟨gv, 8, none⟩ = some (.bool v9.lost) := fun W hW => hW.1.cell? 8
        clear hv9 hav9 HW HLoL HVs HLv HOv HKk hin
        go_wp2_with fail
        refine wp_region_held_drew (S := fun W => Blk W gv 42 (tvL av9 v9) ∧ Only g4 w13 W) (by kernel_rfl) (⟨HV13.out.drew, (Only.refl _ _).drew⟩) (fun hHeld => ?_)
        generalize w13.drew = wS at *
        refine wpAnyH_take (i := 0) (oi := ⟨some 52, _, _, _, _, _⟩) (v := _) rfl (by kernel_rfl) (by kernel_rfl) (by kernel_rfl) (fun _ _ _ h => h) (yieldsIf_load_mid (by rfl) 42 (.tmp 12) rfl gv 0 rfl (tvL av9 v9) _ (fun W hW => hW.1.allC) rwT.ty rwT.row (by rw [rwT.size, HL9.out])) (by assumption) ?_
        try simp only [Act.put, List.setIfInBounds_toArray, List.set_cons_zero, List.set_cons_succ]
        refine wpAnyH_take (i := 1) (oi := ⟨some 53, _, _, _, _, _⟩) (v := ?_) rfl (by kernel_rfl) (by kernel_rfl) (by kernel_rfl) (fun _ _ _ h => h) (Or.inl ⟨by rfl, by intro w hSw; go_simp; try rfl⟩) (by assumption) ?_
        try simp only [Act.put, List.setIfInBounds_toArray, List.set_cons_zero, List.set_cons_succ]
        refine wpAnyH_take (i := 2) (oi := ⟨some 54, _, _, _, _, _⟩) (v := ?_) rfl (by kernel_rfl) (by kernel_rfl) (by kernel_rfl) (fun _ _ _ h => h) (Or.inl ⟨by rfl, by intro w hSw; go_simp; try rfl⟩) (by assumption) ?_
        try simp only [Act.put, List.setIfInBounds_toArray, List.set_cons_zero, List.set_cons_succ]
        refine wpAnyH_take (i := 3) (oi := ⟨some 55, _, _, _, _, _⟩) (v := ?_) rfl (by kernel_rfl) (by kernel_rfl) (by kernel_rfl) (fun _ _ _ h => h) (Or.inl ⟨by rfl, by intro w hSw; go_simp; try rfl⟩) (by assumption) ?_
        try simp only [Act.put, List.setIfInBounds_toArray, List.set_cons_zero, List.set_cons_succ]
        refine wpAnyH_ready (rs := [4]) (by kernel_rfl) (by simp) ?_
        refine AllReadyH.cons (o := ⟨none, _, _, _, _, _⟩) rfl (fun K hK => ?_) AllReadyH.nil
        refine step_store rwT rfl (.tmp 8) (.tmp 52) rfl rfl rfl HRd.out HL9.out (by rw [HZ.out]; decide) (tvL_one _ _) ?_
        intro w51 hk ho
        have HF : Kp (Blk w51 g4 42 (tvL av9 v9)) := ⟨by have h := hk; rwa [List.drop_of_length_le (by rw [HZ.out]; decide), List.take_zero, List.nil_append, List.append_nil] at h⟩
        refine hK.out _ _ ⟨hHeld.1.only ho hne4, hHeld.2.trans ho⟩ (fun hHeld2 => ?_)
        clear hk ho
        clear hK K hHeld
        have hHeld := hHeld2
        clear hHeld2
        try simp only [Act.put]
        refine wpAnyH_take (i := 5) (oi := ⟨some 9, _, _, _, _, _⟩) (v := ?_) rfl (by kernel_rfl) (by kernel_rfl) (by kernel_rfl) (fun _ _ _ h => h) (Or.inl ⟨by rfl, by intro w hSw; go_simp; try rfl⟩) (by assumption) ?_
        try simp only [Act.put, List.setIfInBounds_toArray, List.set_cons_zero, List.set_cons_succ]
        refine wpAnyH_done (by kernel_rfl) ?_ _
        have ho := hHeld.2
        clear hHeld
        go_wp2
        refine ret_arrB rfl rwT rfl rfl HF.out (tvL_length _ _) rfl ?_
        rw [HW9.out.1, HW9.out.2]
        exact ⟨av9, rfl, hB13.trans (ho.below hg4le), HN9.out, HY13.out.chg (Chg.of_only (S := fun j => j = g4) ho rfl) hM4 hMM⟩
      · go_simp
        refine (rover_any (HMl.out wS hBw) A3 n3 c3 lo A8 272 c7 ((padL l 272).take 272) (HOl.out wS hBw).bs (HPl.out wS hBw) hn3 kp hKle (by decide)).mono ?_
        rintro e w78 ⟨A5, n5, c5, rfl, hb', hx5⟩
        refine hK _ _ ?_
        clear hK K
        try simp only [Act.put, List.setIfInBounds_toArray, List.set_cons_zero, List.set_cons_succ]
        replace HV : Kp _ := ⟨HV.out.below hb' HV.out.lt⟩
        replace HR : Kp _ := ⟨HR.out.below hb' HR.out.lt⟩
        replace hBw := hBw.trans (hb'.mono hBw.size)
        have HX5 : Kp _ := ⟨hx5⟩
        clear hx5
        clear hb'
        refine wpAny_ready (rs := [1]) (by kernel_rfl) (by simp) ?_
        refine AllReady.cons (o := ⟨some 34, _, _, _, _, _⟩) rfl (fun K hK => ?_) AllReady.nil
        have q : w78.cell? ⟨gv, 1, none⟩ = some (.slice (some ⟨bs, os, none⟩) av.sn av.sc) := by rw [← HA.out]; exact HV.out.cell? 1
        go_simp
        refine hK _ _ ?_
        clear hK K q
        try simp only [Act.put, List.setIfInBounds_toArray, List.set_cons_zero, List.set_cons_succ]
        refine wpAny_ready (rs := [17]) (by kernel_rfl) (by simp) ?_
        refine AllReady.cons (o := ⟨some 50, _, _, _, _, _⟩) rfl (fun K hK => ?_) AllReady.nil
        go_simp
        refine (rwith_any (HMl.out w78 hBw) (some ⟨bs, os, none⟩) av.sn av.sc vs (HRl.out w78 hBw) HOne.out hsn k hkn A5 n5 c5).mono ?_
        rintro e w80 ⟨A9, c9, rfl, hb', hx9⟩
        refine hK _ _ ?_
        clear hK K
        try simp only [Act.put, List.setIfInBounds_toArray, List.set_cons_zero, List.set_cons_succ]
        replace HV : Kp _ := ⟨HV.out.below hb' HV.out.lt⟩
        replace HR : Kp _ := ⟨HR.out.below hb' HR.out.lt⟩
        replace hBw := hBw.trans (hb'.mono hBw.size)
        replace HX5 : Kp _ := ⟨HX5.out.below hb'⟩
        have HX9 : Kp _ := ⟨hx9⟩
        clear hx9
        clear hb'
        refine wpAny_take (i := 18) (oi := ⟨some 51, _, _, _, _, _⟩) (v := ?_) rfl (by kernel_rfl) (by kernel_rfl) (by kernel_rfl) (fun _ _ _ h => h) (Or.inl ⟨by rfl, by intro w; go_simp; try rfl⟩) ?_
        try simp only [Act.put, List.setIfInBounds_toArray, List.set_cons_zero, List.set_cons_succ]
        refine wpAny_ready (rs := [19]) (by kernel_rfl) (by simp) ?_
        refine AllReady.cons (o := ⟨none, _, _, _, _, _⟩) rfl (fun K hK => ?_) AllReady.nil
        have q : w80.cell? ⟨gv, 1, none⟩ = some (.slice (some ⟨bs, os, none⟩) av.sn av.sc) := by rw [← HA.out]; exact HV.out.cell? 1
        have f := HV.out.frozen 1
        go_simp
        refine hK _ _ ?_
        clear hK K q f
        try simp only [Act.put]
        have hW12 := hBw
        have HV12 := HV
        have HR12 := HR
        refine wpAny_done (by kernel_rfl) ?_ _
        have ho12 := Only.setCell w80 ⟨gv, 1, none⟩ (.slice A9 av.sn c9)
        have hin : i < v.n := by rw [HVs.out.2]; exact HKk.out.2.1
        have HY13 : Kp (TvM (w80.setCell ⟨gv, 1, none⟩ (.slice A9 av.sn c9)) M6 { av with sA := A9, sc := c9 } { v with sl := fun z => if z = ((i : Int), (s : Int)) then overL lo ((padL l 272).take 272) kp else v.sl z }) := ⟨by
          have hS : ∀ j, j = gv → M6 j := fun j hj => HY1.out j (.inr hj)
          have hc1 : Chg (fun j => j = gv) w80 (w80.setCell ⟨gv, 1, none⟩ (.slice A9 av.sn c9)) := Chg.of_only (S := fun j => j = gv) ho12 rfl
          have T12 : TvM (w80.setCell ⟨gv, 1, none⟩ (.slice A9 av.sn c9)) M6 av v := (HY3.out.below hW12).chg hc1 hS (fun _ h => .inl h)
          have s11 : SlT w80 M6 av.sA av.sn av.sc v.n v.sl vs := HSe.out.chg (Chg.of_below (fun _ => False) hW12) (fun _ h => h.elim) (fun _ h => .inl h)
          have s12 : SlT (w80.setCell ⟨gv, 1, none⟩ (.slice A9 av.sn c9)) M6 av.sA av.sn av.sc v.n v.sl vs := s11.chg hc1 hS (fun _ h => .inl h)
          refine T12.newSlot vs s12 k i s HKk.out.1 HKk.out.2.2.1 hin A9 A5 c9 n5 c5 _ (HX9.out.chg hc1 hS (fun _ h => .inl h)) (HX5.out.chg hc1 hS (fun _ h => .inl h)) ?_
          rw [overL_length _ _ _ (by rw [List.length_take]; omega), HLoL.out.1]
          omega⟩
        have HV13 : Kp (Blk (w80.setCell ⟨gv, 1, none⟩ (.slice A9 av.sn c9)) gv 42 (tvL { av with sA := A9, sc := c9 } { v with sl := fun z => if z = ((i : Int), (s : Int)) then overL lo ((padL l 272).take 272) kp else v.sl z })) := ⟨HV12.out.set 1 _⟩
        have HR13 : Kp (Blk (w80.setCell ⟨gv, 1, none⟩ (.slice A9 av.sn c9)) g4 42 zeroT') := ⟨HR12.out.other (by show g4 ≠ gv; omega) _⟩
        have hB13 : Below w.heap.size w (w80.setCell ⟨gv, 1, none⟩ (.slice A9 av.sn c9)) := (hB.trans (hW12.mono hB.size)).setCell (by show w.heap.size ≤ gv; omega) _
        clear HV HR HX5 HX9 hW12 HV12 HR12 hBw ho12 HSe HY3 HRl HOl HPl HC HMl HOne
        generalize (w80.setCell ⟨gv, 1, none⟩ (.slice A9 av.sn c9)) = w13 at *
        obtain ⟨v9, hv9⟩ : ∃ v9, v9 = { v with sl := fun z => if z = ((i : Int), (s : Int)) then overL lo ((padL l 272).take 272) kp else v.sl z } := ⟨_, rfl⟩
        obtain ⟨av9, hav9⟩ : ∃ v9 : Ta, v9 = { av with sA := A9, sc := c9 } := ⟨_, rfl⟩
        have HW9 : Kp (writeW t ((i : Int), (s : Int)) l = v9 ∧ writeB t ((i : Int), (s : Int)) = !v9.lost) := ⟨by rw [HW.out.1, HW.out.2, hv9, HLoL.out.2, HVs.out.1]; exact ⟨rfl, rfl⟩⟩
        have HN9 : Kp (av9.ln = a.ln) := ⟨by rw [hav9]; exact HNv.out⟩
        rw [← hv9, ← hav9] at HY13 HV13
        have HL9 : Kp _ := ⟨tvL_length av9 v9⟩
        have hM4 : ∀ j, j = g4 → M6 j := fun j hj => HY1.out j (.inl (.inl (.inr hj)))
        have hMM : ∀ j, M j → M6 j ∨ w13.heap.size ≤ j := fun j hj => .inl (HY1.out j (.inl (.inl (.inl hj))))
        have hne4 : gv ≠ g4 := by omega
        have hg4le : w.heap.size ≤ g4 := Nat.le_of_lt h4
        have HRd : Kp (Blk w13.drew g4 42 zeroT') := ⟨HR13.out.drew⟩
        have q8 : ∀ W, (Blk W gv 42 (tvL av9 v9) ∧ Only g4 w13 W) → W.cell? ⟨gv, 8, none⟩ = some (.bool v9.lost) := fun W hW => hW.1.cell? 8
        clear hv9 hav9 HW HLoL HVs HLv HOv HKk hin
        go_wp2_with fail
        refine wp_region_held_drew (S := fun W => Blk W gv 42 (tvL av9 v9) ∧ Only g4 w13 W) (by kernel_rfl) (⟨HV13.out.drew, (Only.refl _ _).drew⟩) (fun hHeld => ?_)
        generalize w13.drew = wS at *
        refine wpAnyH_take (i := 0) (oi := ⟨some 52, _, _, _, _, _⟩) (v := _) rfl (by kernel_rfl) (by kernel_rfl) (by kernel_rfl) (fun _ _ _ h => h) (yieldsIf_load_mid (by rfl) 42 (.tmp 12) rfl gv 0 rfl (tvL av9 v9) _ (fun W hW => hW.1.allC) rwT.ty rwT.row (by rw [rwT.size, HL9.out])) (by assumption) ?_
        try simp only [Act.put, List.setIfInBounds_toArray, List.set_cons_zero, List.set_cons_succ]
        refine wpAnyH_take (i := 1) (oi := ⟨some 53, _, _, _, _, _⟩) (v := ?_) rfl (by kernel_rfl) (by kernel_rfl) (by kernel_rfl) (fun _ _ _ h => h) (Or.inl ⟨by rfl, by intro w hSw; go_simp; try rfl⟩) (by assumption) ?_
        try simp only [Act.put, List.setIfInBounds_toArray, List.set_cons_zero, List.set_cons_succ]
        refine wpAnyH_take (i := 2) (oi := ⟨some 54, _, _, _, _, _⟩) (v := ?_) rfl (by kernel_rfl) (by kernel_rfl) (by kernel_rfl) (fun _ _ _ h => h) (Or.inl ⟨by rfl, by intro w hSw; go_simp; try rfl⟩) (by assumption) ?_
        try simp only [Act.put, List.setIfInBounds_toArray, List.set_cons_zero, List.set_cons_succ]
        refine wpAnyH_take (i := 3) (oi := ⟨some 55, _, _, _, _, _⟩) (v := ?_) rfl (by kernel_rfl) (by kernel_rfl) (by kernel_rfl) (fun _ _ _ h => h) (Or.inl ⟨by rfl, by intro w hSw; go_simp; try rfl⟩) (by assumption) ?_
        try simp only [Act.put, List.setIfInBounds_toArray, List.set_cons_zero, List.set_cons_succ]
        refine wpAnyH_ready (rs := [4]) (by kernel_rfl) (by simp) ?_
        refine AllReadyH.cons (o := ⟨none, _, _, _, _, _⟩) rfl (fun K hK => ?_) AllReadyH.nil
        refine step_store rwT rfl (.tmp 8) (.tmp 52) rfl rfl rfl HRd.out HL9.out (by rw [HZ.out]; decide) (tvL_one _ _) ?_
        intro w51 hk ho
        have HF : Kp (Blk w51 g4 42 (tvL av9 v9)) := ⟨by have h := hk; rwa [List.drop_of_length_le (by rw [HZ.out]; decide), List.take_zero, List.nil_append, List.append_nil] at h⟩
        refine hK.out _ _ ⟨hHeld.1.only ho hne4, hHeld.2.trans ho⟩ (fun hHeld2 => ?_)
        clear hk ho
        clear hK K hHeld
        have hHeld := hHeld2
        clear hHeld2
        try simp only [Act.put]
        refine wpAnyH_take (i := 5) (oi := ⟨some 9, _, _, _, _, _⟩) (v := ?_) rfl (by kernel_rfl) (by kernel_rfl) (by kernel_rfl) (fun _ _ _ h => h) (Or.inl ⟨by rfl, by intro w hSw; go_simp; try rfl⟩) (by assumption) ?_
        try simp only [Act.put, List.setIfInBounds_toArray, List.set_cons_zero, List.set_cons_succ]
        refine wpAnyH_done (by kernel_rfl) ?_ _
        have ho := hHeld.2
        clear hHeld
        go_wp2
        refine ret_arrB rfl rwT rfl rfl HF.out (tvL_length _ _) rfl ?_
        rw [HW9.out.1, HW9.out.2]
        exact ⟨av9, rfl, hB13.trans (ho.below hg4le), HN9.out, HY13.out.chg (Chg.of_only (S := fun j => j = g4) ho rfl) hM4 hMM⟩
set_option maxRecDepth 100000 in
set_option maxHeartbeats 2000000 in
theorem rwrite_any (h : TvM w M a t) (hM : ∀ k, M k → k < w.heap.size) (hlen : t.tr.length ≤ 1000000) (x y : Int) (hx : (Lit.int .i64 x).wf = true) (hy : (Lit.int .i64 y).wf = true) (B : Option Addr) (m d : Nat) (l : List UInt8) (hb : BsM w M B m d l) :
    Calls Try.prog 45 #[.agg (tvL a t).toArray, .int .i64 x, .int .i64 y, .slice B m d] w fun e w' => ∃ a', e = .returned (.tuple #[.agg (tvL a' (writeW t (x, y) l)).toArray, .bool (writeB t (x, y))]) ∧ Below w.heap.size w w' ∧ a'.ln = a.ln ∧ TvM w' M a' (writeW t (x, y) l) := by
  by_cases hth : thereW t (x, y) = true
  · exact rwrite_yes h hM hlen x y hx hy B m d l hb hth
  · have HW : Kp (writeW t (x, y) l = t ∧ writeB t (x, y) = false) := ⟨by unfold writeW writeB; rw [if_neg hth, show thereW t (x, y) = false by simpa using hth]; exact ⟨rfl, rfl⟩⟩
    rw [HW.out.1, HW.out.2]
    have HTh : Kp (thereW t (x, y) = false) := ⟨by simpa using hth⟩
    have HZ : Kp (zeroT'.length = 10) := ⟨rfl⟩
    have HL10 : Kp _ := ⟨tvL_length a t⟩
    have HO10 : Kp _ := ⟨tvL_one a t⟩
    have HT : Kp _ := ⟨h⟩
    clear h hth hx hy hb hM hlen HW
    go_enter Try.func45, Try.ntmps45
    go_wp2_with (with_reducible refine wpList_box (o := ⟨some 4, _, _, _, _, _⟩) (cs := tvL a t) rfl (.tmp 0) rfl rfl ?_)
    intro w1 hk1 hb1 hs1
    have HK1 : Kp _ := ⟨hk1⟩
    clear hk1 hs1
    go_wp2_with (with_reducible refine wpList_alloc (o := ⟨some 8, _, _, _, _, _⟩) tyT rfl rfl ?_)
    intro w2 hk2 hb2 hs2
    have hl1 : w.heap.size < w1.heap.size := HK1.out.lt
    have HK2 : Kp _ := ⟨HK1.out.below hb2 HK1.out.lt⟩
    have HR2 : Kp _ := ⟨hk2⟩
    have hB2 : Below w.heap.size w w2 := hb1.trans (hb2.mono hb1.size)
    clear hk2 hb2 hs2 HK1 hb1
    go_wp2_with (with_reducible refine wpList_loadAll (o := ⟨some 14, _, _, _, _, _⟩) rwT rfl (.tmp 4) rfl rfl HK2.out HL10.out ?_)
    refine (there_any w2 a t x y).mono ?_
    rw [HTh.out]
    rintro e w3 ⟨rfl, hb3⟩
    have HK3 : Kp _ := ⟨HK2.out.below hb3 HK2.out.lt⟩
    have HR3 : Kp _ := ⟨HR2.out.below hb3 HR2.out.lt⟩
    have hB3 := hB2.trans (hb3.mono hB2.size)
    clear hb3 HK2 HR2 hB2
    go_wp2_with (first
      | (with_reducible refine wpList_loadAll (o := ⟨some 19, _, _, _, _, _⟩) rwT rfl (.tmp 4) rfl rfl HK3.out HL10.out ?_)
      | (with_reducible refine wpList_storeAll (o := ⟨none, _, _, _, _, _⟩) (vs := tvL a t) rwT rfl (.tmp 8) (.tmp 19) rfl rfl HR3.out HZ.out HL10.out HO10.out rfl ?_))
    intro w6 hk6 ho6
    have HK6 : Kp _ := ⟨hk6⟩
    clear hk6
    go_wp2
    refine ret_arrB rfl rwT rfl rfl HK6.out (tvL_length _ _) rfl ?_
    have hBf := hB3.trans (ho6.below (by omega))
    exact ⟨a, rfl, hBf, rfl, HT.out.below hBf⟩
end
end Go.Proofs.Ytpbpegoobgfjcaa
