/- The contract of the document's Seal of a world. -/
import Derived.Test.YtpbpegoobgfjcaaG13
import Derived.Test.YtpbpegoobgfjcaaG06
import Derived.Deep.RegionHeld3
namespace Go.Proofs.Ytpbpegoobgfjcaa
open Go.RowKit

theorem SeT.chg {S M M' : Nat → Prop} {w w' : World} {A : Option Addr} {c : Nat} {s0 s1 : List UInt8} {v0 v1 : Value} (h : SeT w M A c s0 s1 v0 v1) (hc : Chg S w w') (hS : ∀ k, S k → M k) (hM : ∀ k, M' k → M k ∨ w.heap.size ≤ k) : SeT w' M' A c s0 s1 v0 v1 :=
  ⟨h.row.chg hc hS hM, h.one.chg hc hS hM, h.two.chg hc hS hM⟩
/-- one of the two seals is another one -/
def putSeal (t : Wd) (k : Nat) (L : List UInt8) : Wd := if k = 0 then { t with s0 := L } else { t with s1 := L }
def getSeal (t : Wd) (k : Nat) : List UInt8 := if k = 0 then t.s0 else t.s1
theorem TvM.newSeal {W : World} {M : Nat → Prop} {a : Ta} {t : Wd} (h : TvM W M a t) (v0 v1 : Value) (hs : SeT W M a.eA a.ec t.s0 t.s1 v0 v1) (k : Nat) (hk : k < 2) (A9 A5 : Option Addr) (c9 n5 c5 : Nat) (L : List UInt8)
    (hrow : RwM W M A9 2 c9 1 ([v0, v1].set k (.slice A5 n5 c5))) (hx : BsM W M A5 n5 c5 L) :
    TvM W M { a with eA := A9, ec := c9 } (putSeal t k L) := by
  rcases (by omega : k = 0 ∨ k = 1) with rfl | rfl
  · exact ⟨h.slots, ⟨.slice A5 n5 c5, v1, ⟨hrow, ⟨A5, n5, c5, rfl, hx⟩, hs.two⟩⟩, h.lies, h.trace, h.pow, h.pmax, h.big, h.num⟩
  · exact ⟨h.slots, ⟨v0, .slice A5 n5 c5, ⟨hrow, hs.one, ⟨A5, n5, c5, rfl, hx⟩⟩⟩, h.lies, h.trace, h.pow, h.pmax, h.big, h.num⟩
theorem seal_new (t : Wd) (l old : List UInt8) : sealNew t l old = if layK t l.length = l.length then l else overL old l (layK t l.length) := by
  have hle := layK_le t l.length
  unfold sealNew
  by_cases h : layK t l.length = l.length
  · rw [if_pos h, if_pos h, h]
    unfold laid
    rw [List.take_of_length_le (Nat.le_refl l.length), List.take_append_of_le_length (Nat.le_refl _), List.take_of_length_le (Nat.le_refl _)]
  · rw [if_neg h, if_neg h]
    unfold laid overL padL
    generalize layK t l.length = k at *
    by_cases hk : k ≤ old.length
    · rw [Nat.max_eq_right hk, List.drop_append_of_le_length hk, ← List.append_assoc]
      rw [List.take_append_of_le_length (by simp; omega), List.take_of_length_le (by simp; omega)]
    · rw [Nat.max_eq_left (by omega), List.drop_of_length_le (l := old) (by omega), List.append_nil, List.take_append_of_le_length (by simp; omega), List.take_of_length_le (by simp; omega)]
theorem sealed_is (t : Wd) (k : Nat) (l : List UInt8) (hk : k < 2) (h : sealW t (k : Int) = true) : sealedW t (k : Int) l = putSeal (layW { t with tr := t.tr ++ [⟨4, (k : Int), 0, l⟩] } l.length) k (if layK t l.length = l.length then l else overL (getSeal t k) l (layK t l.length)) := by
  unfold sealedW putSeal getSeal
  rw [if_pos h]
  rcases (by omega : k = 0 ∨ k = 1) with rfl | rfl
  · simp only [seal_new]; rfl
  · simp only [seal_new]; rfl
section
variable {M : Nat → Prop} {w : World} {a : Ta} {t : Wd}
set_option maxRecDepth 100000 in
set_option maxHeartbeats 8000000 in
theorem rseal_yes (h : TvM w M a t) (hM : ∀ k, M k → k < w.heap.size) (hlen : t.tr.length ≤ 1000000) (i : Int) (hi : (Lit.int .i64 i).wf = true) (B : Option Addr) (m d : Nat) (l : List UInt8) (hb : BsM w M B m d l) (hth : sealW t i = true) :
    Calls Try.prog 47 #[.agg (tvL a t).toArray, .int .i64 i, .slice B m d] w fun e w' => ∃ a', e = .returned (.tuple #[.agg (tvL a' (sealedW t i l)).toArray, .bool (sealB t i l)]) ∧ Below w.heap.size w w' ∧ a'.ln = a.ln ∧ TvM w' M a' (sealedW t i l) := by
  have HZ : Kp (zeroT'.length = 10) := ⟨rfl⟩
  have HL10 : Kp _ := ⟨tvL_length a t⟩
  have HT : Kp _ := ⟨h⟩
  have HM : Kp _ := ⟨hM⟩
  have HB : Kp _ := ⟨hb⟩
  have HLe : Kp (t.tr.length ≤ 1000000) := ⟨hlen⟩
  have h9 := hth
  unfold sealW at h9
  simp only [Bool.and_eq_true, Bool.not_eq_true', decide_eq_true_eq] at h9
  obtain ⟨hlo, hi0, hi2⟩ := h9
  obtain ⟨k, rfl⟩ : ∃ k : Nat, i = k := ⟨i.toNat, by omega⟩
  have hlm : l.length = m := hb.bs.len
  have hmf : m ≤ 4294967296 := hb.fit
  have hmc := hb.bs.cap
  have hm63 := hb.bs.le
  obtain ⟨u, hu⟩ : ∃ u : Wd, u = { t with tr := t.tr ++ [⟨4, (k : Int), 0, l⟩] } := ⟨_, rfl⟩
  have HW : Kp (sealedW t (k : Int) l = putSeal (layW u m) k (if layK u m = m then l else overL (getSeal t k) l (layK u m)) ∧ sealB t (k : Int) l = !(layW u m).lost) := ⟨by
    have e1 : layK u m = layK t m := by rw [hu]; rfl
    rw [lay_lost u m (by rw [hu]; exact hlo), sealed_is t k l (by omega) hth, hlm, e1, ← hu]
    refine ⟨rfl, ?_⟩
    unfold sealB
    rw [hth, hlm, Bool.true_and]⟩
  have HUs : Kp (getSeal u k = getSeal t k ∧ u.s0 = t.s0 ∧ u.s1 = t.s1) := ⟨by rw [hu]; exact ⟨rfl, rfl, rfl⟩⟩
  have HU : Kp _ := ⟨hu⟩
  have HOk : Kp (TrOk ⟨4, (k : Int), 0, l⟩) := ⟨⟨.inr (.inr (.inr (.inl ⟨rfl, rfl⟩))), hi, rfl⟩⟩
  have hk2 : k < 2 := by omega
  have hkI : (k : Int) < 2 := by omega
  have HLm : Kp (l.length = m) := ⟨hlm⟩
  clear hth h hi hi0 hi2 hu hlen hM hb hlm
  go_enter Try.func47, Try.ntmps47
  go_wp2_with (with_reducible refine wpList_box (o := ⟨some 3, _, _, _, _, _⟩) (cs := tvL a t) rfl (.tmp 0) rfl rfl ?_)
  intro w1 hk1 hb1 hs1
  have HK1 : Kp _ := ⟨hk1⟩
  clear hk1 hs1
  go_wp2_with (with_reducible refine wpList_alloc (o := ⟨some 6, _, _, _, _, _⟩) tyT rfl rfl ?_)
  intro w2 hk2' hb2 hs2
  have HK2 : Kp _ := ⟨HK1.out.below hb2 HK1.out.lt⟩
  have HR : Kp _ := ⟨hk2'⟩
  have hB : Below w.heap.size w w2 := hb1.trans (hb2.mono hb1.size)
  have h4 : w.heap.size < w1.heap.size := HK1.out.lt
  have hRl := hk2'.lt
  have HTB : Kp (TB w2 (fun k => M k ∨ k = w1.heap.size) a t B m d l) := ⟨TB.start HT.out HM.out HB.out hB (Nat.le_of_lt h4) hRl⟩
  have e8 : w2.cell? ⟨w.heap.size, 8, none⟩ = some (.bool t.lost) := HK2.out.cell? 8
  rw [hlo] at e8
  obtain ⟨g4, hg4⟩ : ∃ g, g = w1.heap.size := ⟨_, rfl⟩
  rw [← hg4] at HR HTB h4 hRl ⊢
  clear hk2' hb2 hs2 HK1 hb1 hg4 HT HB hlo
  go_wp2_with (with_reducible refine wpList_loadAll (o := ⟨some 22, _, _, _, _, _⟩) rwT rfl (.tmp 3) rfl rfl HK2.out HL10.out ?_)
  obtain ⟨M3, y1, y2, y3, y4⟩ := HTB.out.ex
  refine (rnote_any y3 y2 HLe.out ⟨4, (k : Int), 0, l⟩ HOk.out B m d y4).mono ?_
  rintro e w4 ⟨a4, rfl, hb4, hn4, ht4⟩
  have HN4 : Kp (a4.ln = a.ln) := ⟨hn4⟩
  clear hn4
  rw [← HU.out] at ht4 ⊢
  replace HTB : Kp (TB w4 (fun k => M k ∨ k = g4) a4 u B m d l) := ⟨⟨M3, y1, fun k hk => Nat.lt_of_lt_of_le (y2 k hk) hb4.size, ht4, y4.below hb4⟩⟩
  replace HR : Kp _ := ⟨HR.out.below hb4 HR.out.lt⟩
  replace hB := hB.trans (hb4.mono hB.size)
  have HL4 : Kp _ := ⟨tvL_length a4 u⟩
  have HO4 : Kp _ := ⟨tvL_one a4 u⟩
  clear hb4 HK2 y1 y2 y3 y4 ht4 M3 e8 hRl
  go_wp2_with (with_reducible refine wpList_alloc (o := ⟨some 8, _, _, _, _, _⟩) tyT rfl rfl ?_)
  intro w5 hk5 hb5 hs5
  have HV5 : Kp _ := ⟨hk5⟩
  have hl45 := hk5.lt
  replace HTB : Kp (TB w5 (fun k => (M k ∨ k = g4) ∨ k = w4.heap.size) a4 u B m d l) := ⟨HTB.out.add hb5 (Nat.le_refl _) hl45⟩
  have hR4 := HR.out.lt
  replace HR : Kp _ := ⟨HR.out.below hb5 HR.out.lt⟩
  replace hB := hB.trans (hb5.mono hB.size)
  obtain ⟨gu, hgu⟩ : ∃ g, g = w4.heap.size := ⟨_, rfl⟩
  rw [← hgu] at HV5 HTB hl45 hR4 ⊢
  clear hk5 hb5 hs5 hgu
  go_wp2_with (with_reducible refine wpList_storeAll (o := ⟨none, _, _, _, _, _⟩) (vs := tvL a4 u) rwT rfl (.tmp 8) (.tmp 25) rfl rfl HV5.out HZ.out HL4.out HO4.out rfl ?_)
  intro w6 hk6 ho6
  have HV : Kp _ := ⟨hk6⟩
  replace HTB : Kp _ := ⟨HTB.out.only ho6 (.inr rfl)⟩
  replace HR : Kp _ := ⟨HR.out.only ho6 (by omega)⟩
  replace hB := hB.trans (ho6.below (by omega))
  have hs6 : gu < w6.heap.size := hk6.lt
  clear hk6 ho6 HV5 hl45
  go_wp2_with (with_reducible refine wpList_loadAll (o := ⟨some 27, _, _, _, _, _⟩) rwT rfl (.tmp 8) rfl rfl HV.out HL4.out ?_)
  obtain ⟨M6, y1, y2, y3, y4⟩ := HTB.out.ex
  refine (rtakes_any y3 m hmf).mono ?_
  rintro e w8 ⟨rfl, hb8⟩
  clear y1 y2 y3 y4 M6
  replace HTB : Kp _ := ⟨(HTB.out.below hb8).takes m⟩
  replace HR : Kp _ := ⟨HR.out.below hb8 HR.out.lt⟩
  replace hB := hB.trans (hb8.mono hB.size)
  have h8 : gu < w8.heap.size := (HV.out.below hb8 HV.out.lt).lt
  have hR8 := HR.out.lt
  clear hb8 HV HL4 HO4
  obtain ⟨v, hv⟩ : ∃ v, v = layW u m := ⟨_, rfl⟩
  obtain ⟨av, hav⟩ : ∃ v, v = takesA a4 u m := ⟨_, rfl⟩
  obtain ⟨kp, hK⟩ : ∃ v, v = layK u m := ⟨_, rfl⟩
  have hKle : kp ≤ m := by rw [hK]; exact layK_le u m
  have HVs : Kp (v.s0 = t.s0 ∧ v.s1 = t.s1) := ⟨by
    obtain ⟨q1, q2, q3, q4, _⟩ := layW_same u m
    rw [hv, q3, q4, HUs.out.2.1, HUs.out.2.2]
    exact ⟨rfl, rfl⟩⟩
  rw [← hv, ← hK] at HW
  have HNv : Kp (av.ln = a.ln) := ⟨by rw [hav]; exact HN4.out⟩
  rw [← hv, ← hav] at HTB ⊢
  rw [← hK]
  have HLv : Kp _ := ⟨tvL_length av v⟩
  have HOv : Kp _ := ⟨tvL_one av v⟩
  clear hv hav hK
  go_wp2_with (with_reducible refine wpList_alloc (o := ⟨some 9, _, _, _, _, _⟩) tyT rfl rfl ?_)
  intro w9 hk9 hb9 hs9
  have HV9 : Kp _ := ⟨hk9⟩
  have hl9 := hk9.lt
  replace HTB : Kp (TB w9 (fun k => ((M k ∨ k = g4) ∨ k = gu) ∨ k = w8.heap.size) av v B m d l) := ⟨HTB.out.add hb9 (Nat.le_refl _) hl9⟩
  replace HR : Kp _ := ⟨HR.out.below hb9 HR.out.lt⟩
  replace hB := hB.trans (hb9.mono hB.size)
  obtain ⟨gv, hgv⟩ : ∃ g, g = w8.heap.size := ⟨_, rfl⟩
  rw [← hgv] at HV9 HTB hl9 hR8 h8 ⊢
  clear hk9 hb9 hs9 hgv
  go_wp2_with (with_reducible refine wpList_storeAll (o := ⟨none, _, _, _, _, _⟩) (vs := tvL av v) rwT rfl (.tmp 9) (.tmp 31) rfl rfl HV9.out HZ.out HLv.out HOv.out rfl ?_)
  intro w10 hk10 ho10
  have HV : Kp _ := ⟨hk10⟩
  replace HTB : Kp _ := ⟨HTB.out.only ho10 (.inr rfl)⟩
  replace HR : Kp _ := ⟨HR.out.only ho10 (by omega)⟩
  replace hB := hB.trans (ho10.below (by omega))
  have h10 : gv < w10.heap.size := hk10.lt
  clear hk10 ho10 HV9 hl9
  obtain ⟨M6, y1, y2, y3, y4⟩ := HTB.out.ex
  obtain ⟨v0, v1, hse⟩ := y3.seals
  obtain ⟨lo, hlo⟩ : ∃ l, l = getSeal t k := ⟨_, rfl⟩
  obtain ⟨A3, n3, c3, hv3, hb3⟩ : ∃ A n c, [v0, v1][k]? = some (.slice A n c) ∧ BsM w10 M6 A n c lo := by
    rcases (by omega : k = 0 ∨ k = 1) with rfl | rfl
    · obtain ⟨A, n, c, rfl, hb⟩ := hse.one
      exact ⟨A, n, c, rfl, by rw [hlo]; rw [HVs.out.1] at hb; exact hb⟩
    · obtain ⟨A, n, c, rfl, hb⟩ := hse.two
      exact ⟨A, n, c, rfl, by rw [hlo]; rw [HVs.out.2] at hb; exact hb⟩
  rw [← hlo] at HW
  obtain ⟨bs, os, hA, hbs, _, hcs⟩ := hse.row.cells (by omega)
  have hcv := hcs _ _ hv3
  have HA : Kp (av.eA = some ⟨bs, os, none⟩) := ⟨hA⟩
  have HC : Kp (∀ W, Below w10.heap.size w10 W → W.cell? ⟨bs, os + k, none⟩ = some (.slice A3 n3 c3)) := ⟨fun W hW => (hW.cell (p := ⟨bs, os + k, none⟩) hbs).trans hcv⟩
  have HOl : Kp (∀ W, Below w10.heap.size w10 W → BsM W M6 A3 n3 c3 lo) := ⟨fun W hW => hb3.below hW⟩
  have HPl : Kp (∀ W, Below w10.heap.size w10 W → BsM W M6 B m d l) := ⟨fun W hW => y4.below hW⟩
  have HRl : Kp (∀ W, Below w10.heap.size w10 W → RwM W M6 (some ⟨bs, os, none⟩) 2 av.ec 1 [v0, v1]) := ⟨fun W hW => by rw [← hA]; exact hse.row.below hW⟩
  have HMl : Kp (∀ W, Below w10.heap.size w10 W → ∀ k, M6 k → k < W.heap.size) := ⟨fun W hW k hk => Nat.lt_of_lt_of_le (y2 k hk) hW.size⟩
  have HOne : Kp (∀ u ∈ [v0, v1], u.oneCell' = true) := ⟨fun u hu => by
    obtain ⟨_, _, _, rfl, _⟩ := hse.one
    obtain ⟨_, _, _, rfl, _⟩ := hse.two
    simp at hu
    rcases hu with rfl | rfl <;> rfl⟩
  have HSe : Kp _ := ⟨hse⟩
  have HY3 : Kp _ := ⟨y3⟩
  have HY1 : Kp (∀ k, (((M k ∨ k = g4) ∨ k = gu) ∨ k = gv) → M6 k) := ⟨y1⟩
  have hn3 : n3 ≤ 4294967296 := hb3.fit
  have hBw : Below w10.heap.size w10 w10 := Below.refl _ _
  clear y1 y2 y3 y4 hse hv3 hb3 hlo hA hbs hcs hcv HTB
  by_cases hkm : kp = m
  · have HKM : Kp (kp = m) := ⟨hkm⟩
    have hkq : ((kp : Int) == (m : Int)) = true := by rw [hkm]; simp
    have q : w10.cell? ⟨gv, 2, none⟩ = some (.slice (some ⟨bs, os, none⟩) 2 av.ec) := by rw [← HA.out]; exact HV.out.cell? 2
    clear hkm
    go_wp2_with fail
    refine (rwith_any (HMl.out w10 hBw) (some ⟨bs, os, none⟩) 2 av.ec [v0, v1] (HRl.out w10 hBw) HOne.out (by decide) k hk2 B m d).mono ?_
    rintro e w11 ⟨A9, c9, rfl, hb', hx9⟩
    have HX9 : Kp _ := ⟨hx9⟩
    replace HV : Kp _ := ⟨HV.out.below hb' HV.out.lt⟩
    replace HR : Kp _ := ⟨HR.out.below hb' HR.out.lt⟩
    replace hBw := hBw.trans (hb'.mono hBw.size)
    have q2 : w11.cell? ⟨gv, 2, none⟩ = some (.slice (some ⟨bs, os, none⟩) 2 av.ec) := by rw [← HA.out]; exact HV.out.cell? 2
    have f2 := HV.out.frozen 2
    have HX5 : Kp _ := ⟨HPl.out w11 hBw⟩
    clear hx9 hb' q hkq
    go_wp2_with fail
    clear q2 f2
    have hW12 := hBw
    have HV12 := HV
    have HR12 := HR
    have ho12 := Only.setCell w11 ⟨gv, 2, none⟩ (.slice A9 2 c9)
    have HY13 : Kp (TvM (w11.setCell ⟨gv, 2, none⟩ (.slice A9 2 c9)) M6 { av with eA := A9, ec := c9 } (putSeal v k (l))) := ⟨by
      have hS : ∀ j, j = gv → M6 j := fun j hj => HY1.out j (.inr hj)
      have hc1 : Chg (fun j => j = gv) w11 (w11.setCell ⟨gv, 2, none⟩ (.slice A9 2 c9)) := Chg.of_only (S := fun j => j = gv) ho12 rfl
      have T12 : TvM (w11.setCell ⟨gv, 2, none⟩ (.slice A9 2 c9)) M6 av v := (HY3.out.below hW12).chg hc1 hS (fun _ h => .inl h)
      have s12 : SeT (w11.setCell ⟨gv, 2, none⟩ (.slice A9 2 c9)) M6 av.eA av.ec v.s0 v.s1 v0 v1 := (HSe.out.chg (Chg.of_below (fun _ => False) hW12) (fun _ h => h.elim) (fun _ h => .inl h)).chg hc1 hS (fun _ h => .inl h)
      exact T12.newSeal v0 v1 s12 k hk2 A9 _ c9 _ _ _ (HX9.out.chg hc1 hS (fun _ h => .inl h)) (HX5.out.chg hc1 hS (fun _ h => .inl h))⟩
    have HV13 : Kp (Blk (w11.setCell ⟨gv, 2, none⟩ (.slice A9 2 c9)) gv 42 (tvL { av with eA := A9, ec := c9 } (putSeal v k (l)))) := ⟨by
      have h := HV12.out.set 2 (.slice A9 2 c9)
      have e : (tvL av v).set 2 (.slice A9 2 c9) = tvL { av with eA := A9, ec := c9 } (putSeal v k (l)) := by unfold putSeal; split <;> rfl
      rwa [e] at h⟩
    have HR13 : Kp (Blk (w11.setCell ⟨gv, 2, none⟩ (.slice A9 2 c9)) g4 42 zeroT') := ⟨HR12.out.other (by show g4 ≠ gv; omega) _⟩
    have hB13 : Below w.heap.size w (w11.setCell ⟨gv, 2, none⟩ (.slice A9 2 c9)) := (hB.trans (hW12.mono hB.size)).setCell (by show w.heap.size ≤ gv; omega) _
    have HW8 : Kp (sealedW t (k : Int) l = putSeal v k (l) ∧ sealB t (k : Int) l = !v.lost) := ⟨by rw [HW.out.1, HW.out.2, if_pos HKM.out]; exact ⟨rfl, rfl⟩⟩
    clear HV HR HX5 HX9 hW12 HV12 HR12 hBw ho12 HSe HY3 HRl HOl HPl HC HMl HOne
    generalize (w11.setCell ⟨gv, 2, none⟩ (.slice A9 2 c9)) = w13 at *
    obtain ⟨v9, hv9⟩ : ∃ v9, v9 = putSeal v k (l) := ⟨_, rfl⟩
    obtain ⟨av9, hav9⟩ : ∃ v9 : Ta, v9 = { av with eA := A9, ec := c9 } := ⟨_, rfl⟩
    have HW9 : Kp (sealedW t (k : Int) l = v9 ∧ sealB t (k : Int) l = !v9.lost) := ⟨by
      rw [HW8.out.1, HW8.out.2, hv9]
      refine ⟨rfl, ?_⟩
      unfold putSeal
      split <;> rfl⟩
    have HN9 : Kp (av9.ln = a.ln) := ⟨by rw [hav9]; exact HNv.out⟩
    rw [← hv9, ← hav9] at HY13 HV13
    have HL9 : Kp _ := ⟨tvL_length av9 v9⟩
    have hM4 : ∀ j, j = g4 → M6 j := fun j hj => HY1.out j (.inl (.inl (.inr hj)))
    have hMM : ∀ j, M j → M6 j ∨ w13.heap.size ≤ j := fun j hj => .inl (HY1.out j (.inl (.inl (.inl hj))))
    have hne4 : gv ≠ g4 := by omega
    have hg4le : w.heap.size ≤ g4 := Nat.le_of_lt h4
    have HRd : Kp (Blk w13.drew g4 42 zeroT') := ⟨HR13.out.drew⟩
    have q8 : ∀ W, (Blk W gv 42 (tvL av9 v9) ∧ Only g4 w13 W) → W.cell? ⟨gv, 8, none⟩ = some (.bool v9.lost) := fun W hW => hW.1.cell? 8
    clear hv9 hav9 HW HW8 HVs HLv HOv
    go_wp2_with fail
    refine wp_region_held_drew (S := fun W => Blk W gv 42 (tvL av9 v9) ∧ Only g4 w13 W) (by kernel_rfl) (⟨HV13.out.drew, (Only.refl _ _).drew⟩) (fun hHeld => ?_)
    generalize w13.drew = wS at *
    refine wpAnyH_take (i := 0) (oi := ⟨some 56, _, _, _, _, _⟩) (v := _) rfl (by kernel_rfl) (by kernel_rfl) (by kernel_rfl) (fun _ _ _ h => h) (yieldsIf_load_mid (by rfl) 42 (.tmp 9) rfl gv 0 rfl (tvL av9 v9) _ (fun W hW => hW.1.allC) rwT.ty rwT.row (by rw [rwT.size, HL9.out])) (by assumption) ?_
    try simp only [Act.put, List.setIfInBounds_toArray, List.set_cons_zero, List.set_cons_succ]
    refine wpAnyH_take (i := 1) (oi := ⟨some 57, _, _, _, _, _⟩) (v := ?_) rfl (by kernel_rfl) (by kernel_rfl) (by kernel_rfl) (fun _ _ _ h => h) (Or.inl ⟨by rfl, by intro w hSw; go_simp; try rfl⟩) (by assumption) ?_
    try simp only [Act.put, List.setIfInBounds_toArray, List.set_cons_zero, List.set_cons_succ]
    refine wpAnyH_take (i := 2) (oi := ⟨some 58, _, _, _, _, _⟩) (v := ?_) rfl (by kernel_rfl) (by kernel_rfl) (by kernel_rfl) (fun _ _ _ h => h) (Or.inl ⟨by rfl, by intro w hSw; go_simp; try rfl⟩) (by assumption) ?_
    try simp only [Act.put, List.setIfInBounds_toArray, List.set_cons_zero, List.set_cons_succ]
    refine wpAnyH_take (i := 3) (oi := ⟨some 59, _, _, _, _, _⟩) (v := ?_) rfl (by kernel_rfl) (by kernel_rfl) (by kernel_rfl) (fun _ _ _ h => h) (Or.inl ⟨by rfl, by intro w hSw; go_simp; try rfl⟩) (by assumption) ?_
    try simp only [Act.put, List.setIfInBounds_toArray, List.set_cons_zero, List.set_cons_succ]
    refine wpAnyH_ready (rs := [4]) (by kernel_rfl) (by simp) ?_
    refine AllReadyH.cons (o := ⟨none, _, _, _, _, _⟩) rfl (fun K hK => ?_) AllReadyH.nil
    refine step_store rwT rfl (.tmp 6) (.tmp 56) rfl rfl rfl HRd.out HL9.out (by rw [HZ.out]; decide) (tvL_one _ _) ?_
    intro w51 hk ho
    have HF : Kp (Blk w51 g4 42 (tvL av9 v9)) := ⟨by have h := hk; rwa [List.drop_of_length_le (by rw [HZ.out]; decide), List.take_zero, List.nil_append, List.append_nil] at h⟩
    refine hK.out _ _ ⟨hHeld.1.only ho hne4, hHeld.2.trans ho⟩ (fun hHeld2 => ?_)
    clear hk ho
    clear hK K hHeld
    have hHeld := hHeld2
    clear hHeld2
    try simp only [Act.put]
    refine wpAnyH_take (i := 5) (oi := ⟨some 7, _, _, _, _, _⟩) (v := ?_) rfl (by kernel_rfl) (by kernel_rfl) (by kernel_rfl) (fun _ _ _ h => h) (Or.inl ⟨by rfl, by intro w hSw; go_simp; try rfl⟩) (by assumption) ?_
    try simp only [Act.put, List.setIfInBounds_toArray, List.set_cons_zero, List.set_cons_succ]
    refine wpAnyH_done (by kernel_rfl) ?_ _
    have ho := hHeld.2
    clear hHeld
    go_wp2
    refine ret_arrB rfl rwT rfl rfl HF.out (tvL_length _ _) rfl ?_
    rw [HW9.out.1, HW9.out.2]
    exact ⟨av9, rfl, hB13.trans (ho.below hg4le), HN9.out, HY13.out.chg (Chg.of_only (S := fun j => j = g4) ho rfl) hM4 hMM⟩
  · have HKM : Kp (¬ kp = m) := ⟨hkm⟩
    have hkq : ((kp : Int) == (m : Int)) = false := by rw [beq_eq_false_iff_ne]; omega
    clear hkm
    go_wp2_with fail
    refine wp_region_any (by kernel_rfl) ?_
    change wpAny _ _ _ _ _ _ _ w10.drew
    replace HV : Kp _ := ⟨HV.out.drew⟩
    replace HR : Kp _ := ⟨HR.out.drew⟩
    replace hBw := hBw.drew
    generalize w10.drew = wS at *
    refine wpAny_take (i := 0) (oi := ⟨some 43, _, _, _, _, _⟩) (v := ?_) rfl (by kernel_rfl) (by kernel_rfl) (by kernel_rfl) (fun _ _ _ h => h) (Or.inl ⟨by rfl, by intro w; go_simp; try rfl⟩) ?_
    try simp only [Act.put, List.setIfInBounds_toArray, List.set_cons_zero, List.set_cons_succ]
    refine wpAny_take (i := 2) (oi := ⟨some 45, _, _, _, _, _⟩) (v := ?_) rfl (by kernel_rfl) (by kernel_rfl) (by kernel_rfl) (fun _ _ _ h => h) (Or.inl ⟨by rfl, by intro w; go_simp; try rfl⟩) ?_
    try simp only [Act.put, List.setIfInBounds_toArray, List.set_cons_zero, List.set_cons_succ]
    refine wpAny_take (i := 3) (oi := ⟨some 46, _, _, _, _, _⟩) (v := ?_) rfl (by kernel_rfl) (by kernel_rfl) (by kernel_rfl) (fun _ _ _ h => h) (Or.inl ⟨by rfl, by intro w; go_simp; try rfl⟩) ?_
    try simp only [Act.put, List.setIfInBounds_toArray, List.set_cons_zero, List.set_cons_succ]
    refine wpAny_take (i := 5) (oi := ⟨some 48, _, _, _, _, _⟩) (v := ?_) rfl (by kernel_rfl) (by kernel_rfl) (by kernel_rfl) (fun _ _ _ h => h) (Or.inl ⟨by rfl, by intro w; go_simp; try rfl⟩) ?_
    try simp only [Act.put, List.setIfInBounds_toArray, List.set_cons_zero, List.set_cons_succ]
    refine wpAny_take (i := 8) (oi := ⟨some 51, _, _, _, _, _⟩) (v := ?_) rfl (by kernel_rfl) (by kernel_rfl) (by kernel_rfl) (fun _ _ _ h => h) (Or.inl ⟨by rfl, by intro w; go_simp; try rfl⟩) ?_
    try simp only [Act.put, List.setIfInBounds_toArray, List.set_cons_zero, List.set_cons_succ]
    refine wpAny_take (i := 9) (oi := ⟨some 52, _, _, _, _, _⟩) (v := ?_) rfl (by kernel_rfl) (by kernel_rfl) (by kernel_rfl) (fun _ _ _ h => h) (Or.inl ⟨by rfl, by intro w; go_simp; try rfl⟩) ?_
    try simp only [Act.put, List.setIfInBounds_toArray, List.set_cons_zero, List.set_cons_succ]
    refine wpAny_ready (rs := [1, 4]) (by kernel_rfl) (by simp) ?_
    refine AllReady.cons (o := ⟨some 44, _, _, _, _, _⟩) rfl (fun K hK => ?_) (AllReady.cons (o := ⟨some 47, _, _, _, _, _⟩) rfl (fun K hK => ?_) AllReady.nil)
    · have q : wS.cell? ⟨gv, 2, none⟩ = some (.slice (some ⟨bs, os, none⟩) 2 av.ec) := by rw [← HA.out]; exact HV.out.cell? 2
      go_simp
      refine hK _ _ ?_
      clear hK K q
      try simp only [Act.put, List.setIfInBounds_toArray, List.set_cons_zero, List.set_cons_succ]
      refine wpAny_ready (rs := [4]) (by kernel_rfl) (by simp) ?_
      refine AllReady.cons (o := ⟨some 47, _, _, _, _, _⟩) rfl (fun K hK => ?_) AllReady.nil
      have q : wS.cell? ⟨gv, 2, none⟩ = some (.slice (some ⟨bs, os, none⟩) 2 av.ec) := by rw [← HA.out]; exact HV.out.cell? 2
      go_simp
      refine hK _ _ ?_
      clear hK K q
      try simp only [Act.put, List.setIfInBounds_toArray, List.set_cons_zero, List.set_cons_succ]
      refine wpAny_take (i := 6) (oi := ⟨some 49, _, _, _, _, _⟩) (v := ?_) rfl (by kernel_rfl) (by kernel_rfl) (by kernel_rfl) (fun _ _ _ h => h) (Or.inl ⟨by rfl, by intro w; go_simp; try rfl⟩) ?_
      try simp only [Act.put, List.setIfInBounds_toArray, List.set_cons_zero, List.set_cons_succ]
      refine wpAny_ready (rs := [7]) (by kernel_rfl) (by simp) ?_
      refine AllReady.cons (o := ⟨some 50, _, _, _, _, _⟩) rfl (fun K hK => ?_) AllReady.nil
      have q := HC.out wS hBw
      go_simp
      refine hK _ _ ?_
      clear hK K q
      try simp only [Act.put, List.setIfInBounds_toArray, List.set_cons_zero, List.set_cons_succ]
      refine wpAny_ready (rs := [10]) (by kernel_rfl) (by simp) ?_
      refine AllReady.cons (o := ⟨some 53, _, _, _, _, _⟩) rfl (fun K hK => ?_) AllReady.nil
      go_simp
      refine (rover_any (HMl.out wS hBw) A3 n3 c3 lo B m d l (HOl.out wS hBw).bs (HPl.out wS hBw).bs hn3 kp hKle hmf).mono ?_
      rintro e w64 ⟨A5, n5, c5, rfl, hb', hx5⟩
      refine hK _ _ ?_
      clear hK K
      try simp only [Act.put, List.setIfInBounds_toArray, List.set_cons_zero, List.set_cons_succ]
      replace HV : Kp _ := ⟨HV.out.below hb' HV.out.lt⟩
      replace HR : Kp _ := ⟨HR.out.below hb' HR.out.lt⟩
      replace hBw := hBw.trans (hb'.mono hBw.size)
      have HX5 : Kp _ := ⟨hx5⟩
      clear hx5
      clear hb'
      refine wpAny_ready (rs := [11]) (by kernel_rfl) (by simp) ?_
      refine AllReady.cons (o := ⟨some 54, _, _, _, _, _⟩) rfl (fun K hK => ?_) AllReady.nil
      go_simp
      refine (rwith_any (HMl.out w64 hBw) (some ⟨bs, os, none⟩) 2 av.ec [v0, v1] (HRl.out w64 hBw) HOne.out (by decide) k hk2 A5 n5 c5).mono ?_
      rintro e w65 ⟨A9, c9, rfl, hb', hx9⟩
      refine hK _ _ ?_
      clear hK K
      try simp only [Act.put, List.setIfInBounds_toArray, List.set_cons_zero, List.set_cons_succ]
      replace HV : Kp _ := ⟨HV.out.below hb' HV.out.lt⟩
      replace HR : Kp _ := ⟨HR.out.below hb' HR.out.lt⟩
      replace hBw := hBw.trans (hb'.mono hBw.size)
      replace HX5 : Kp _ := ⟨HX5.out.below hb'⟩
      have HX9 : Kp _ := ⟨hx9⟩
      clear hx9
      clear hb'
      refine wpAny_take (i := 12) (oi := ⟨some 55, _, _, _, _, _⟩) (v := ?_) rfl (by kernel_rfl) (by kernel_rfl) (by kernel_rfl) (fun _ _ _ h => h) (Or.inl ⟨by rfl, by intro w; go_simp; try rfl⟩) ?_
      try simp only [Act.put, List.setIfInBounds_toArray, List.set_cons_zero, List.set_cons_succ]
      refine wpAny_ready (rs := [13]) (by kernel_rfl) (by simp) ?_
      refine AllReady.cons (o := ⟨none, _, _, _, _, _⟩) rfl (fun K hK => ?_) AllReady.nil
      have q : w65.cell? ⟨gv, 2, none⟩ = some (.slice (some ⟨bs, os, none⟩) 2 av.ec) := by rw [← HA.out]; exact HV.out.cell? 2
      have f := HV.out.frozen 2
      go_simp
      refine hK _ _ ?_
      clear hK K q f
      try simp only [Act.put]
      have hW12 := hBw
      have HV12 := HV
      have HR12 := HR
      refine wpAny_done (by kernel_rfl) ?_ _
      have ho12 := Only.setCell w65 ⟨gv, 2, none⟩ (.slice A9 2 c9)
      have HY13 : Kp (TvM (w65.setCell ⟨gv, 2, none⟩ (.slice A9 2 c9)) M6 { av with eA := A9, ec := c9 } (putSeal v k (overL lo l kp))) := ⟨by
        have hS : ∀ j, j = gv → M6 j := fun j hj => HY1.out j (.inr hj)
        have hc1 : Chg (fun j => j = gv) w65 (w65.setCell ⟨gv, 2, none⟩ (.slice A9 2 c9)) := Chg.of_only (S := fun j => j = gv) ho12 rfl
        have T12 : TvM (w65.setCell ⟨gv, 2, none⟩ (.slice A9 2 c9)) M6 av v := (HY3.out.below hW12).chg hc1 hS (fun _ h => .inl h)
        have s12 : SeT (w65.setCell ⟨gv, 2, none⟩ (.slice A9 2 c9)) M6 av.eA av.ec v.s0 v.s1 v0 v1 := (HSe.out.chg (Chg.of_below (fun _ => False) hW12) (fun _ h => h.elim) (fun _ h => .inl h)).chg hc1 hS (fun _ h => .inl h)
        exact T12.newSeal v0 v1 s12 k hk2 A9 _ c9 _ _ _ (HX9.out.chg hc1 hS (fun _ h => .inl h)) (HX5.out.chg hc1 hS (fun _ h => .inl h))⟩
      have HV13 : Kp (Blk (w65.setCell ⟨gv, 2, none⟩ (.slice A9 2 c9)) gv 42 (tvL { av with eA := A9, ec := c9 } (putSeal v k (overL lo l kp)))) := ⟨by
        have h := HV12.out.set 2 (.slice A9 2 c9)
        have e : (tvL av v).set 2 (.slice A9 2 c9) = tvL { av with eA := A9, ec := c9 } (putSeal v k (overL lo l kp)) := by unfold putSeal; split <;> rfl
        rwa [e] at h⟩
      have HR13 : Kp (Blk (w65.setCell ⟨gv, 2, none⟩ (.slice A9 2 c9)) g4 42 zeroT') := ⟨HR12.out.other (by show g4 ≠ gv; omega) _⟩
      have hB13 : Below w.heap.size w (w65.setCell ⟨gv, 2, none⟩ (.slice A9 2 c9)) := (hB.trans (hW12.mono hB.size)).setCell (by show w.heap.size ≤ gv; omega) _
      have HW8 : Kp (sealedW t (k : Int) l = putSeal v k (overL lo l kp) ∧ sealB t (k : Int) l = !v.lost) := ⟨by rw [HW.out.1, HW.out.2, if_neg HKM.out]; exact ⟨rfl, rfl⟩⟩
      clear HV HR HX5 HX9 hW12 HV12 HR12 hBw ho12 HSe HY3 HRl HOl HPl HC HMl HOne
      generalize (w65.setCell ⟨gv, 2, none⟩ (.slice A9 2 c9)) = w13 at *
      obtain ⟨v9, hv9⟩ : ∃ v9, v9 = putSeal v k (overL lo l kp) := ⟨_, rfl⟩
      obtain ⟨av9, hav9⟩ : ∃ v9 : Ta, v9 = { av with eA := A9, ec := c9 } := ⟨_, rfl⟩
      have HW9 : Kp (sealedW t (k : Int) l = v9 ∧ sealB t (k : Int) l = !v9.lost) := ⟨by
        rw [HW8.out.1, HW8.out.2, hv9]
        refine ⟨rfl, ?_⟩
        unfold putSeal
        split <;> rfl⟩
      have HN9 : Kp (av9.ln = a.ln) := ⟨by rw [hav9]; exact HNv.out⟩
      rw [← hv9, ← hav9] at HY13 HV13
      have HL9 : Kp _ := ⟨tvL_length av9 v9⟩
      have hM4 : ∀ j, j = g4 → M6 j := fun j hj => HY1.out j (.inl (.inl (.inr hj)))
      have hMM : ∀ j, M j → M6 j ∨ w13.heap.size ≤ j := fun j hj => .inl (HY1.out j (.inl (.inl (.inl hj))))
      have hne4 : gv ≠ g4 := by omega
      have hg4le : w.heap.size ≤ g4 := Nat.le_of_lt h4
      have HRd : Kp (Blk w13.drew g4 42 zeroT') := ⟨HR13.out.drew⟩
      have q8 : ∀ W, (Blk W gv 42 (tvL av9 v9) ∧ Only g4 w13 W) → W.cell? ⟨gv, 8, none⟩ = some (.bool v9.lost) := fun W hW => hW.1.cell? 8
      clear hv9 hav9 HW HW8 HVs HLv HOv
      go_wp2_with fail
      refine wp_region_held_drew (S := fun W => Blk W gv 42 (tvL av9 v9) ∧ Only g4 w13 W) (by kernel_rfl) (⟨HV13.out.drew, (Only.refl _ _).drew⟩) (fun hHeld => ?_)
      generalize w13.drew = wS at *
      refine wpAnyH_take (i := 0) (oi := ⟨some 56, _, _, _, _, _⟩) (v := _) rfl (by kernel_rfl) (by kernel_rfl) (by kernel_rfl) (fun _ _ _ h => h) (yieldsIf_load_mid (by rfl) 42 (.tmp 9) rfl gv 0 rfl (tvL av9 v9) _ (fun W hW => hW.1.allC) rwT.ty rwT.row (by rw [rwT.size, HL9.out])) (by assumption) ?_
      try simp only [Act.put, List.setIfInBounds_toArray, List.set_cons_zero, List.set_cons_succ]
      refine wpAnyH_take (i := 1) (oi := ⟨some 57, _, _, _, _, _⟩) (v := ?_) rfl (by kernel_rfl) (by kernel_rfl) (by kernel_rfl) (fun _ _ _ h => h) (Or.inl ⟨by rfl, by intro w hSw; go_simp; try rfl⟩) (by assumption) ?_
      try simp only [Act.put, List.setIfInBounds_toArray, List.set_cons_zero, List.set_cons_succ]
      refine wpAnyH_take (i := 2) (oi := ⟨some 58, _, _, _, _, _⟩) (v := ?_) rfl (by kernel_rfl) (by kernel_rfl) (by kernel_rfl) (fun _ _ _ h => h) (Or.inl ⟨by rfl, by intro w hSw; go_simp; try rfl⟩) (by assumption) ?_
      try simp only [Act.put, List.setIfInBounds_toArray, List.set_cons_zero, List.set_cons_succ]
      refine wpAnyH_take (i := 3) (oi := ⟨some 59, _, _, _, _, _⟩) (v := ?_) rfl (by kernel_rfl) (by kernel_rfl) (by kernel_rfl) (fun _ _ _ h => h) (Or.inl ⟨by rfl, by intro w hSw; go_simp; try rfl⟩) (by assumption) ?_
      try simp only [Act.put, List.setIfInBounds_toArray, List.set_cons_zero, List.set_cons_succ]
      refine wpAnyH_ready (rs := [4]) (by kernel_rfl) (by simp) ?_
      refine AllReadyH.cons (o := ⟨none, _, _, _, _, _⟩) rfl (fun K hK => ?_) AllReadyH.nil
      refine step_store rwT rfl (.tmp 6) (.tmp 56) rfl rfl rfl HRd.out HL9.out (by rw [HZ.out]; decide) (tvL_one _ _) ?_
      intro w51 hk ho
      have HF : Kp (Blk w51 g4 42 (tvL av9 v9)) := ⟨by have h := hk; rwa [List.drop_of_length_le (by rw [HZ.out]; decide), List.take_zero, List.nil_append, List.append_nil] at h⟩
      refine hK.out _ _ ⟨hHeld.1.only ho hne4, hHeld.2.trans ho⟩ (fun hHeld2 => ?_)
      clear hk ho
      clear hK K hHeld
      have hHeld := hHeld2
      clear hHeld2
      try simp only [Act.put]
      refine wpAnyH_take (i := 5) (oi := ⟨some 7, _, _, _, _, _⟩) (v := ?_) rfl (by kernel_rfl) (by kernel_rfl) (by kernel_rfl) (fun _ _ _ h => h) (Or.inl ⟨by rfl, by intro w hSw; go_simp; try rfl⟩) (by assumption) ?_
      try simp only [Act.put, List.setIfInBounds_toArray, List.set_cons_zero, List.set_cons_succ]
      refine wpAnyH_done (by kernel_rfl) ?_ _
      have ho := hHeld.2
      clear hHeld
      go_wp2
      refine ret_arrB rfl rwT rfl rfl HF.out (tvL_length _ _) rfl ?_
      rw [HW9.out.1, HW9.out.2]
      exact ⟨av9, rfl, hB13.trans (ho.below hg4le), HN9.out, HY13.out.chg (Chg.of_only (S := fun j => j = g4) ho rfl) hM4 hMM⟩
    · have q : wS.cell? ⟨gv, 2, none⟩ = some (.slice (some ⟨bs, os, none⟩) 2 av.ec) := by rw [← HA.out]; exact HV.out.cell? 2
      go_simp
      refine hK _ _ ?_
      clear hK K q
      try simp only [Act.put, List.setIfInBounds_toArray, List.set_cons_zero, List.set_cons_succ]
      refine wpAny_take (i := 6) (oi := ⟨some 49, _, _, _, _, _⟩) (v := ?_) rfl (by kernel_rfl) (by kernel_rfl) (by kernel_rfl) (fun _ _ _ h => h) (Or.inl ⟨by rfl, by intro w; go_simp; try rfl⟩) ?_
      try simp only [Act.put, List.setIfInBounds_toArray, List.set_cons_zero, List.set_cons_succ]
      refine wpAny_ready (rs := [1, 7]) (by kernel_rfl) (by simp) ?_
      refine AllReady.cons (o := ⟨some 44, _, _, _, _, _⟩) rfl (fun K hK => ?_) (AllReady.cons (o := ⟨some 50, _, _, _, _, _⟩) rfl (fun K hK => ?_) AllReady.nil)
      · have q : wS.cell? ⟨gv, 2, none⟩ = some (.slice (some ⟨bs, os, none⟩) 2 av.ec) := by rw [← HA.out]; exact HV.out.cell? 2
        go_simp
        refine hK _ _ ?_
        clear hK K q
        try simp only [Act.put, List.setIfInBounds_toArray, List.set_cons_zero, List.set_cons_succ]
        refine wpAny_ready (rs := [7]) (by kernel_rfl) (by simp) ?_
        refine AllReady.cons (o := ⟨some 50, _, _, _, _, _⟩) rfl (fun K hK => ?_) AllReady.nil
        have q := HC.out wS hBw
        go_simp
        refine hK _ _ ?_
        clear hK K q
        try simp only [Act.put, List.setIfInBounds_toArray, List.set_cons_zero, List.set_cons_succ]
        refine wpAny_ready (rs := [10]) (by kernel_rfl) (by simp) ?_
        refine AllReady.cons (o := ⟨some 53, _, _, _, _, _⟩) rfl (fun K hK => ?_) AllReady.nil
        go_simp
        refine (rover_any (HMl.out wS hBw) A3 n3 c3 lo B m d l (HOl.out wS hBw).bs (HPl.out wS hBw).bs hn3 kp hKle hmf).mono ?_
        rintro e w70 ⟨A5, n5, c5, rfl, hb', hx5⟩
        refine hK _ _ ?_
        clear hK K
        try simp only [Act.put, List.setIfInBounds_toArray, List.set_cons_zero, List.set_cons_succ]
        replace HV : Kp _ := ⟨HV.out.below hb' HV.out.lt⟩
        replace HR : Kp _ := ⟨HR.out.below hb' HR.out.lt⟩
        replace hBw := hBw.trans (hb'.mono hBw.size)
        have HX5 : Kp _ := ⟨hx5⟩
        clear hx5
        clear hb'
        refine wpAny_ready (rs := [11]) (by kernel_rfl) (by simp) ?_
        refine AllReady.cons (o := ⟨some 54, _, _, _, _, _⟩) rfl (fun K hK => ?_) AllReady.nil
        go_simp
        refine (rwith_any (HMl.out w70 hBw) (some ⟨bs, os, none⟩) 2 av.ec [v0, v1] (HRl.out w70 hBw) HOne.out (by decide) k hk2 A5 n5 c5).mono ?_
        rintro e w71 ⟨A9, c9, rfl, hb', hx9⟩
        refine hK _ _ ?_
        clear hK K
        try simp only [Act.put, List.setIfInBounds_toArray, List.set_cons_zero, List.set_cons_succ]
        replace HV : Kp _ := ⟨HV.out.below hb' HV.out.lt⟩
        replace HR : Kp _ := ⟨HR.out.below hb' HR.out.lt⟩
        replace hBw := hBw.trans (hb'.mono hBw.size)
        replace HX5 : Kp _ := ⟨HX5.out.below hb'⟩
        have HX9 : Kp _ := ⟨hx9⟩
        clear hx9
        clear hb'
        refine wpAny_take (i := 12) (oi := ⟨some 55, _, _, _, _, _⟩) (v := ?_) rfl (by kernel_rfl) (by kernel_rfl) (by kernel_rfl) (fun _ _ _ h => h) (Or.inl ⟨by rfl, by intro w; go_simp; try rfl⟩) ?_
        try simp only [Act.put, List.setIfInBounds_toArray, List.set_cons_zero, List.set_cons_succ]
        refine wpAny_ready (rs := [13]) (by kernel_rfl) (by simp) ?_
        refine AllReady.cons (o := ⟨none, _, _, _, _, _⟩) rfl (fun K hK => ?_) AllReady.nil
        have q : w71.cell? ⟨gv, 2, none⟩ = some (.slice (some ⟨bs, os, none⟩) 2 av.ec) := by rw [← HA.out]; exact HV.out.cell? 2
        have f := HV.out.frozen 2
        go_simp
        refine hK _ _ ?_
        clear hK K q f
        try simp only [Act.put]
        have hW12 := hBw
        have HV12 := HV
        have HR12 := HR
        refine wpAny_done (by kernel_rfl) ?_ _
        have ho12 := Only.setCell w71 ⟨gv, 2, none⟩ (.slice A9 2 c9)
        have HY13 : Kp (TvM (w71.setCell ⟨gv, 2, none⟩ (.slice A9 2 c9)) M6 { av with eA := A9, ec := c9 } (putSeal v k (overL lo l kp))) := ⟨by
          have hS : ∀ j, j = gv → M6 j := fun j hj => HY1.out j (.inr hj)
          have hc1 : Chg (fun j => j = gv) w71 (w71.setCell ⟨gv, 2, none⟩ (.slice A9 2 c9)) := Chg.of_only (S := fun j => j = gv) ho12 rfl
          have T12 : TvM (w71.setCell ⟨gv, 2, none⟩ (.slice A9 2 c9)) M6 av v := (HY3.out.below hW12).chg hc1 hS (fun _ h => .inl h)
          have s12 : SeT (w71.setCell ⟨gv, 2, none⟩ (.slice A9 2 c9)) M6 av.eA av.ec v.s0 v.s1 v0 v1 := (HSe.out.chg (Chg.of_below (fun _ => False) hW12) (fun _ h => h.elim) (fun _ h => .inl h)).chg hc1 hS (fun _ h => .inl h)
          exact T12.newSeal v0 v1 s12 k hk2 A9 _ c9 _ _ _ (HX9.out.chg hc1 hS (fun _ h => .inl h)) (HX5.out.chg hc1 hS (fun _ h => .inl h))⟩
        have HV13 : Kp (Blk (w71.setCell ⟨gv, 2, none⟩ (.slice A9 2 c9)) gv 42 (tvL { av with eA := A9, ec := c9 } (putSeal v k (overL lo l kp)))) := ⟨by
          have h := HV12.out.set 2 (.slice A9 2 c9)
          have e : (tvL av v).set 2 (.slice A9 2 c9) = tvL { av with eA := A9, ec := c9 } (putSeal v k (overL lo l kp)) := by unfold putSeal; split <;> rfl
          rwa [e] at h⟩
        have HR13 : Kp (Blk (w71.setCell ⟨gv, 2, none⟩ (.slice A9 2 c9)) g4 42 zeroT') := ⟨HR12.out.other (by show g4 ≠ gv; omega) _⟩
        have hB13 : Below w.heap.size w (w71.setCell ⟨gv, 2, none⟩ (.slice A9 2 c9)) := (hB.trans (hW12.mono hB.size)).setCell (by show w.heap.size ≤ gv; omega) _
        have HW8 : Kp (sealedW t (k : Int) l = putSeal v k (overL lo l kp) ∧ sealB t (k : Int) l = !v.lost) := ⟨by rw [HW.out.1, HW.out.2, if_neg HKM.out]; exact ⟨rfl, rfl⟩⟩
        clear HV HR HX5 HX9 hW12 HV12 HR12 hBw ho12 HSe HY3 HRl HOl HPl HC HMl HOne
        generalize (w71.setCell ⟨gv, 2, none⟩ (.slice A9 2 c9)) = w13 at *
        obtain ⟨v9, hv9⟩ : ∃ v9, v9 = putSeal v k (overL lo l kp) := ⟨_, rfl⟩
        obtain ⟨av9, hav9⟩ : ∃ v9 : Ta, v9 = { av with eA := A9, ec := c9 } := ⟨_, rfl⟩
        have HW9 : Kp (sealedW t (k : Int) l = v9 ∧ sealB t (k : Int) l = !v9.lost) := ⟨by
          rw [HW8.out.1, HW8.out.2, hv9]
          refine ⟨rfl, ?_⟩
          unfold putSeal
          split <;> rfl⟩
        have HN9 : Kp (av9.ln = a.ln) := ⟨by rw [hav9]; exact HNv.out⟩
        rw [← hv9, ← hav9] at HY13 HV13
        have HL9 : Kp _ := ⟨tvL_length av9 v9⟩
        have hM4 : ∀ j, j = g4 → M6 j := fun j hj => HY1.out j (.inl (.inl (.inr hj)))
        have hMM : ∀ j, M j → M6 j ∨ w13.heap.size ≤ j := fun j hj => .inl (HY1.out j (.inl (.inl (.inl hj))))
        have hne4 : gv ≠ g4 := by omega
        have hg4le : w.heap.size ≤ g4 := Nat.le_of_lt h4
        have HRd : Kp (Blk w13.drew g4 42 zeroT') := ⟨HR13.out.drew⟩
        have q8 : ∀ W, (Blk W gv 42 (tvL av9 v9) ∧ Only g4 w13 W) → W.cell? ⟨gv, 8, none⟩ = some (.bool v9.lost) := fun W hW => hW.1.cell? 8
        clear hv9 hav9 HW HW8 HVs HLv HOv
        go_wp2_with fail
        refine wp_region_held_drew (S := fun W => Blk W gv 42 (tvL av9 v9) ∧ Only g4 w13 W) (by kernel_rfl) (⟨HV13.out.drew, (Only.refl _ _).drew⟩) (fun hHeld => ?_)
        generalize w13.drew = wS at *
        refine wpAnyH_take (i := 0) (oi := ⟨some 56, _, _, _, _, _⟩) (v := _) rfl (by kernel_rfl) (by kernel_rfl) (by kernel_rfl) (fun _ _ _ h => h) (yieldsIf_load_mid (by rfl) 42 (.tmp 9) rfl gv 0 rfl (tvL av9 v9) _ (fun W hW => hW.1.allC) rwT.ty rwT.row (by rw [rwT.size, HL9.out])) (by assumption) ?_
        try simp only [Act.put, List.setIfInBounds_toArray, List.set_cons_zero, List.set_cons_succ]
        refine wpAnyH_take (i := 1) (oi := ⟨some 57, _, _, _, _, _⟩) (v := ?_) rfl (by kernel_rfl) (by kernel_rfl) (by kernel_rfl) (fun _ _ _ h => h) (Or.inl ⟨by rfl, by intro w hSw; go_simp; try rfl⟩) (by assumption) ?_
        try simp only [Act.put, List.setIfInBounds_toArray, List.set_cons_zero, List.set_cons_succ]
        refine wpAnyH_take (i := 2) (oi := ⟨some 58, _, _, _, _, _⟩) (v := ?_) rfl (by kernel_rfl) (by kernel_rfl) (by kernel_rfl) (fun _ _ _ h => h) (Or.inl ⟨by rfl, by intro w hSw; go_simp; try rfl⟩) (by assumption) ?_
        try simp only [Act.put, List.setIfInBounds_toArray, List.set_cons_zero, List.set_cons_succ]
        refine wpAnyH_take (i := 3) (oi := ⟨some 59, _, _, _, _, _⟩) (v := ?_) rfl (by kernel_rfl) (by kernel_rfl) (by kernel_rfl) (fun _ _ _ h => h) (Or.inl ⟨by rfl, by intro w hSw; go_simp; try rfl⟩) (by assumption) ?_
        try simp only [Act.put, List.setIfInBounds_toArray, List.set_cons_zero, List.set_cons_succ]
        refine wpAnyH_ready (rs := [4]) (by kernel_rfl) (by simp) ?_
        refine AllReadyH.cons (o := ⟨none, _, _, _, _, _⟩) rfl (fun K hK => ?_) AllReadyH.nil
        refine step_store rwT rfl (.tmp 6) (.tmp 56) rfl rfl rfl HRd.out HL9.out (by rw [HZ.out]; decide) (tvL_one _ _) ?_
        intro w51 hk ho
        have HF : Kp (Blk w51 g4 42 (tvL av9 v9)) := ⟨by have h := hk; rwa [List.drop_of_length_le (by rw [HZ.out]; decide), List.take_zero, List.nil_append, List.append_nil] at h⟩
        refine hK.out _ _ ⟨hHeld.1.only ho hne4, hHeld.2.trans ho⟩ (fun hHeld2 => ?_)
        clear hk ho
        clear hK K hHeld
        have hHeld := hHeld2
        clear hHeld2
        try simp only [Act.put]
        refine wpAnyH_take (i := 5) (oi := ⟨some 7, _, _, _, _, _⟩) (v := ?_) rfl (by kernel_rfl) (by kernel_rfl) (by kernel_rfl) (fun _ _ _ h => h) (Or.inl ⟨by rfl, by intro w hSw; go_simp; try rfl⟩) (by assumption) ?_
        try simp only [Act.put, List.setIfInBounds_toArray, List.set_cons_zero, List.set_cons_succ]
        refine wpAnyH_done (by kernel_rfl) ?_ _
        have ho := hHeld.2
        clear hHeld
        go_wp2
        refine ret_arrB rfl rwT rfl rfl HF.out (tvL_length _ _) rfl ?_
        rw [HW9.out.1, HW9.out.2]
        exact ⟨av9, rfl, hB13.trans (ho.below hg4le), HN9.out, HY13.out.chg (Chg.of_only (S := fun j => j = g4) ho rfl) hM4 hMM⟩
      · have q := HC.out wS hBw
        go_simp
        refine hK _ _ ?_
        clear hK K q
        try simp only [Act.put, List.setIfInBounds_toArray, List.set_cons_zero, List.set_cons_succ]
        refine wpAny_ready (rs := [1, 10]) (by kernel_rfl) (by simp) ?_
        refine AllReady.cons (o := ⟨some 44, _, _, _, _, _⟩) rfl (fun K hK => ?_) (AllReady.cons (o := ⟨some 53, _, _, _, _, _⟩) rfl (fun K hK => ?_) AllReady.nil)
        · have q : wS.cell? ⟨gv, 2, none⟩ = some (.slice (some ⟨bs, os, none⟩) 2 av.ec) := by rw [← HA.out]; exact HV.out.cell? 2
          go_simp
          refine hK _ _ ?_
          clear hK K q
          try simp only [Act.put, List.setIfInBounds_toArray, List.set_cons_zero, List.set_cons_succ]
          refine wpAny_ready (rs := [10]) (by kernel_rfl) (by simp) ?_
          refine AllReady.cons (o := ⟨some 53, _, _, _, _, _⟩) rfl (fun K hK => ?_) AllReady.nil
          go_simp
          refine (rover_any (HMl.out wS hBw) A3 n3 c3 lo B m d l (HOl.out wS hBw).bs (HPl.out wS hBw).bs hn3 kp hKle hmf).mono ?_
          rintro e w75 ⟨A5, n5, c5, rfl, hb', hx5⟩
          refine hK _ _ ?_
          clear hK K
          try simp only [Act.put, List.setIfInBounds_toArray, List.set_cons_zero, List.set_cons_succ]
          replace HV : Kp _ := ⟨HV.out.below hb' HV.out.lt⟩
          replace HR : Kp _ := ⟨HR.out.below hb' HR.out.lt⟩
          replace hBw := hBw.trans (hb'.mono hBw.size)
          have HX5 : Kp _ := ⟨hx5⟩
          clear hx5
          clear hb'
          refine wpAny_ready (rs := [11]) (by kernel_rfl) (by simp) ?_
          refine AllReady.cons (o := ⟨some 54, _, _, _, _, _⟩) rfl (fun K hK => ?_) AllReady.nil
          go_simp
          refine (rwith_any (HMl.out w75 hBw) (some ⟨bs, os, none⟩) 2 av.ec [v0, v1] (HRl.out w75 hBw) HOne.out (by decide) k hk2 A5 n5 c5).mono ?_
          rintro e w76 ⟨A9, c9, rfl, hb', hx9⟩
          refine hK _ _ ?_
          clear hK K
          try simp only [Act.put, List.setIfInBounds_toArray, List.set_cons_zero, List.set_cons_succ]
          replace HV : Kp _ := ⟨HV.out.below hb' HV.out.lt⟩
          replace HR : Kp _ := ⟨HR.out.below hb' HR.out.lt⟩
          replace hBw := hBw.trans (hb'.mono hBw.size)
          replace HX5 : Kp _ := ⟨HX5.out.below hb'⟩
          have HX9 : Kp _ := ⟨hx9⟩
          clear hx9
          clear hb'
          refine wpAny_take (i := 12) (oi := ⟨some 55, _, _, _, _, _⟩) (v := ?_) rfl (by kernel_rfl) (by kernel_rfl) (by kernel_rfl) (fun _ _ _ h => h) (Or.inl ⟨by rfl, by intro w; go_simp; try rfl⟩) ?_
          try simp only [Act.put, List.setIfInBounds_toArray, List.set_cons_zero, List.set_cons_succ]
          refine wpAny_ready (rs := [13]) (by kernel_rfl) (by simp) ?_
          refine AllReady.cons (o := ⟨none, _, _, _, _, _⟩) rfl (fun K hK => ?_) AllReady.nil
          have q : w76.cell? ⟨gv, 2, none⟩ = some (.slice (some ⟨bs, os, none⟩) 2 av.ec) := by rw [← HA.out]; exact HV.out.cell? 2
          have f := HV.out.frozen 2
          go_simp
          refine hK _ _ ?_
          clear hK K q f
          try simp only [Act.put]
          have hW12 := hBw
          have HV12 := HV
          have HR12 := HR
          refine wpAny_done (by kernel_rfl) ?_ _
          have ho12 := Only.setCell w76 ⟨gv, 2, none⟩ (.slice A9 2 c9)
          have HY13 : Kp (TvM (w76.setCell ⟨gv, 2, none⟩ (.slice A9 2 c9)) M6 { av with eA := A9, ec := c9 } (putSeal v k (overL lo l kp))) := ⟨by
            have hS : ∀ j, j = gv → M6 j := fun j hj => HY1.out j (.inr hj)
            have hc1 : Chg (fun j => j = gv) w76 (w76.setCell ⟨gv, 2, none⟩ (.slice A9 2 c9)) := Chg.of_only (S := fun j => j = gv) ho12 rfl
            have T12 : TvM (w76.setCell ⟨gv, 2, none⟩ (.slice A9 2 c9)) M6 av v := (HY3.out.below hW12).chg hc1 hS (fun _ h => .inl h)
            have s12 : SeT (w76.setCell ⟨gv, 2, none⟩ (.slice A9 2 c9)) M6 av.eA av.ec v.s0 v.s1 v0 v1 := (HSe.out.chg (Chg.of_below (fun _ => False) hW12) (fun _ h => h.elim) (fun _ h => .inl h)).chg hc1 hS (fun _ h => .inl h)
            exact T12.newSeal v0 v1 s12 k hk2 A9 _ c9 _ _ _ (HX9.out.chg hc1 hS (fun _ h => .inl h)) (HX5.out.chg hc1 hS (fun _ h => .inl h))⟩
          have HV13 : Kp (Blk (w76.setCell ⟨gv, 2, none⟩ (.slice A9 2 c9)) gv 42 (tvL { av with eA := A9, ec := c9 } (putSeal v k (overL lo l kp)))) := ⟨by
            have h := HV12.out.set 2 (.slice A9 2 c9)
            have e : (tvL av v).set 2 (.slice A9 2 c9) = tvL { av with eA := A9, ec := c9 } (putSeal v k (overL lo l kp)) := by unfold putSeal; split <;> rfl
            rwa [e] at h⟩
          have HR13 : Kp (Blk (w76.setCell ⟨gv, 2, none⟩ (.slice A9 2 c9)) g4 42 zeroT') := ⟨HR12.out.other (by show g4 ≠ gv; omega) _⟩
          have hB13 : Below w.heap.size w (w76.setCell ⟨gv, 2, none⟩ (.slice A9 2 c9)) := (hB.trans (hW12.mono hB.size)).setCell (by show w.heap.size ≤ gv; omega) _
          have HW8 : Kp (sealedW t (k : Int) l = putSeal v k (overL lo l kp) ∧ sealB t (k : Int) l = !v.lost) := ⟨by rw [HW.out.1, HW.out.2, if_neg HKM.out]; exact ⟨rfl, rfl⟩⟩
          clear HV HR HX5 HX9 hW12 HV12 HR12 hBw ho12 HSe HY3 HRl HOl HPl HC HMl HOne
          generalize (w76.setCell ⟨gv, 2, none⟩ (.slice A9 2 c9)) = w13 at *
          obtain ⟨v9, hv9⟩ : ∃ v9, v9 = putSeal v k (overL lo l kp) := ⟨_, rfl⟩
          obtain ⟨av9, hav9⟩ : ∃ v9 : Ta, v9 = { av with eA := A9, ec := c9 } := ⟨_, rfl⟩
          have HW9 : Kp (sealedW t (k : Int) l = v9 ∧ sealB t (k : Int) l = !v9.lost) := ⟨by
            rw [HW8.out.1, HW8.out.2, hv9]
            refine ⟨rfl, ?_⟩
            unfold putSeal
            split <;> rfl⟩
          have HN9 : Kp (av9.ln = a.ln) := ⟨by rw [hav9]; exact HNv.out⟩
          rw [← hv9, ← hav9] at HY13 HV13
          have HL9 : Kp _ := ⟨tvL_length av9 v9⟩
          have hM4 : ∀ j, j = g4 → M6 j := fun j hj => HY1.out j (.inl (.inl (.inr hj)))
          have hMM : ∀ j, M j → M6 j ∨ w13.heap.size ≤ j := fun j hj => .inl (HY1.out j (.inl (.inl (.inl hj))))
          have hne4 : gv ≠ g4 := by omega
          have hg4le : w.heap.size ≤ g4 := Nat.le_of_lt h4
          have HRd : Kp (Blk w13.drew g4 42 zeroT') := ⟨HR13.out.drew⟩
          have q8 : ∀ W, (Blk W gv 42 (tvL av9 v9) ∧ Only g4 w13 W) → W.cell? ⟨gv, 8, none⟩ = some (.bool v9.lost) := fun W hW => hW.1.cell? 8
          clear hv9 hav9 HW HW8 HVs HLv HOv
          go_wp2_with fail
          refine wp_region_held_drew (S := fun W => Blk W gv 42 (tvL av9 v9) ∧ Only g4 w13 W) (by kernel_rfl) (⟨HV13.out.drew, (Only.refl _ _).drew⟩) (fun hHeld => ?_)
          generalize w13.drew = wS at *
          refine wpAnyH_take (i := 0) (oi := ⟨some 56, _, _, _, _, _⟩) (v := _) rfl (by kernel_rfl) (by kernel_rfl) (by kernel_rfl) (fun _ _ _ h => h) (yieldsIf_load_mid (by rfl) 42 (.tmp 9) rfl gv 0 rfl (tvL av9 v9) _ (fun W hW => hW.1.allC) rwT.ty rwT.row (by rw [rwT.size, HL9.out])) (by assumption) ?_
          try simp only [Act.put, List.setIfInBounds_toArray, List.set_cons_zero, List.set_cons_succ]
          refine wpAnyH_take (i := 1) (oi := ⟨some 57, _, _, _, _, _⟩) (v := ?_) rfl (by kernel_rfl) (by kernel_rfl) (by kernel_rfl) (fun _ _ _ h => h) (Or.inl ⟨by rfl, by intro w hSw; go_simp; try rfl⟩) (by assumption) ?_
          try simp only [Act.put, List.setIfInBounds_toArray, List.set_cons_zero, List.set_cons_succ]
          refine wpAnyH_take (i := 2) (oi := ⟨some 58, _, _, _, _, _⟩) (v := ?_) rfl (by kernel_rfl) (by kernel_rfl) (by kernel_rfl) (fun _ _ _ h => h) (Or.inl ⟨by rfl, by intro w hSw; go_simp; try rfl⟩) (by assumption) ?_
          try simp only [Act.put, List.setIfInBounds_toArray, List.set_cons_zero, List.set_cons_succ]
          refine wpAnyH_take (i := 3) (oi := ⟨some 59, _, _, _, _, _⟩) (v := ?_) rfl (by kernel_rfl) (by kernel_rfl) (by kernel_rfl) (fun _ _ _ h => h) (Or.inl ⟨by rfl, by intro w hSw; go_simp; try rfl⟩) (by assumption) ?_
          try simp only [Act.put, List.setIfInBounds_toArray, List.set_cons_zero, List.set_cons_succ]
          refine wpAnyH_ready (rs := [4]) (by kernel_rfl) (by simp) ?_
          refine AllReadyH.cons (o := ⟨none, _, _, _, _, _⟩) rfl (fun K hK => ?_) AllReadyH.nil
          refine step_store rwT rfl (.tmp 6) (.tmp 56) rfl rfl rfl HRd.out HL9.out (by rw [HZ.out]; decide) (tvL_one _ _) ?_
          intro w51 hk ho
          have HF : Kp (Blk w51 g4 42 (tvL av9 v9)) := ⟨by have h := hk; rwa [List.drop_of_length_le (by rw [HZ.out]; decide), List.take_zero, List.nil_append, List.append_nil] at h⟩
          refine hK.out _ _ ⟨hHeld.1.only ho hne4, hHeld.2.trans ho⟩ (fun hHeld2 => ?_)
          clear hk ho
          clear hK K hHeld
          have hHeld := hHeld2
          clear hHeld2
          try simp only [Act.put]
          refine wpAnyH_take (i := 5) (oi := ⟨some 7, _, _, _, _, _⟩) (v := ?_) rfl (by kernel_rfl) (by kernel_rfl) (by kernel_rfl) (fun _ _ _ h => h) (Or.inl ⟨by rfl, by intro w hSw; go_simp; try rfl⟩) (by assumption) ?_
          try simp only [Act.put, List.setIfInBounds_toArray, List.set_cons_zero, List.set_cons_succ]
          refine wpAnyH_done (by kernel_rfl) ?_ _
          have ho := hHeld.2
          clear hHeld
          go_wp2
          refine ret_arrB rfl rwT rfl rfl HF.out (tvL_length _ _) rfl ?_
          rw [HW9.out.1, HW9.out.2]
          exact ⟨av9, rfl, hB13.trans (ho.below hg4le), HN9.out, HY13.out.chg (Chg.of_only (S := fun j => j = g4) ho rfl) hM4 hMM⟩
        · go_simp
          refine (rover_any (HMl.out wS hBw) A3 n3 c3 lo B m d l (HOl.out wS hBw).bs (HPl.out wS hBw).bs hn3 kp hKle hmf).mono ?_
          rintro e w78 ⟨A5, n5, c5, rfl, hb', hx5⟩
          refine hK _ _ ?_
          clear hK K
          try simp only [Act.put, List.setIfInBounds_toArray, List.set_cons_zero, List.set_cons_succ]
          replace HV : Kp _ := ⟨HV.out.below hb' HV.out.lt⟩
          replace HR : Kp _ := ⟨HR.out.below hb' HR.out.lt⟩
          replace hBw := hBw.trans (hb'.mono hBw.size)
          have HX5 : Kp _ := ⟨hx5⟩
          clear hx5
          clear hb'
          refine wpAny_ready (rs := [1]) (by kernel_rfl) (by simp) ?_
          refine AllReady.cons (o := ⟨some 44, _, _, _, _, _⟩) rfl (fun K hK => ?_) AllReady.nil
          have q : w78.cell? ⟨gv, 2, none⟩ = some (.slice (some ⟨bs, os, none⟩) 2 av.ec) := by rw [← HA.out]; exact HV.out.cell? 2
          go_simp
          refine hK _ _ ?_
          clear hK K q
          try simp only [Act.put, List.setIfInBounds_toArray, List.set_cons_zero, List.set_cons_succ]
          refine wpAny_ready (rs := [11]) (by kernel_rfl) (by simp) ?_
          refine AllReady.cons (o := ⟨some 54, _, _, _, _, _⟩) rfl (fun K hK => ?_) AllReady.nil
          go_simp
          refine (rwith_any (HMl.out w78 hBw) (some ⟨bs, os, none⟩) 2 av.ec [v0, v1] (HRl.out w78 hBw) HOne.out (by decide) k hk2 A5 n5 c5).mono ?_
          rintro e w80 ⟨A9, c9, rfl, hb', hx9⟩
          refine hK _ _ ?_
          clear hK K
          try simp only [Act.put, List.setIfInBounds_toArray, List.set_cons_zero, List.set_cons_succ]
          replace HV : Kp _ := ⟨HV.out.below hb' HV.out.lt⟩
          replace HR : Kp _ := ⟨HR.out.below hb' HR.out.lt⟩
          replace hBw := hBw.trans (hb'.mono hBw.size)
          replace HX5 : Kp _ := ⟨HX5.out.below hb'⟩
          have HX9 : Kp _ := ⟨hx9⟩
          clear hx9
          clear hb'
          refine wpAny_take (i := 12) (oi := ⟨some 55, _, _, _, _, _⟩) (v := ?_) rfl (by kernel_rfl) (by kernel_rfl) (by kernel_rfl) (fun _ _ _ h => h) (Or.inl ⟨by rfl, by intro w; go_simp; try rfl⟩) ?_
          try simp only [Act.put, List.setIfInBounds_toArray, List.set_cons_zero, List.set_cons_succ]
          refine wpAny_ready (rs := [13]) (by kernel_rfl) (by simp) ?_
          refine AllReady.cons (o := ⟨none, _, _, _, _, _⟩) rfl (fun K hK => ?_) AllReady.nil
          have q : w80.cell? ⟨gv, 2, none⟩ = some (.slice (some ⟨bs, os, none⟩) 2 av.ec) := by rw [← HA.out]; exact HV.out.cell? 2
          have f := HV.out.frozen 2
          go_simp
          refine hK _ _ ?_
          clear hK K q f
          try simp only [Act.put]
          have hW12 := hBw
          have HV12 := HV
          have HR12 := HR
          refine wpAny_done (by kernel_rfl) ?_ _
          have ho12 := Only.setCell w80 ⟨gv, 2, none⟩ (.slice A9 2 c9)
          have HY13 : Kp (TvM (w80.setCell ⟨gv, 2, none⟩ (.slice A9 2 c9)) M6 { av with eA := A9, ec := c9 } (putSeal v k (overL lo l kp))) := ⟨by
            have hS : ∀ j, j = gv → M6 j := fun j hj => HY1.out j (.inr hj)
            have hc1 : Chg (fun j => j = gv) w80 (w80.setCell ⟨gv, 2, none⟩ (.slice A9 2 c9)) := Chg.of_only (S := fun j => j = gv) ho12 rfl
            have T12 : TvM (w80.setCell ⟨gv, 2, none⟩ (.slice A9 2 c9)) M6 av v := (HY3.out.below hW12).chg hc1 hS (fun _ h => .inl h)
            have s12 : SeT (w80.setCell ⟨gv, 2, none⟩ (.slice A9 2 c9)) M6 av.eA av.ec v.s0 v.s1 v0 v1 := (HSe.out.chg (Chg.of_below (fun _ => False) hW12) (fun _ h => h.elim) (fun _ h => .inl h)).chg hc1 hS (fun _ h => .inl h)
            exact T12.newSeal v0 v1 s12 k hk2 A9 _ c9 _ _ _ (HX9.out.chg hc1 hS (fun _ h => .inl h)) (HX5.out.chg hc1 hS (fun _ h => .inl h))⟩
          have HV13 : Kp (Blk (w80.setCell ⟨gv, 2, none⟩ (.slice A9 2 c9)) gv 42 (tvL { av with eA := A9, ec := c9 } (putSeal v k (overL lo l kp)))) := ⟨by
            have h := HV12.out.set 2 (.slice A9 2 c9)
            have e : (tvL av v).set 2 (.slice A9 2 c9) = tvL { av with eA := A9, ec := c9 } (putSeal v k (overL lo l kp)) := by unfold putSeal; split <;> rfl
            rwa [e] at h⟩
          have HR13 : Kp (Blk (w80.setCell ⟨gv, 2, none⟩ (.slice A9 2 c9)) g4 42 zeroT') := ⟨HR12.out.other (by show g4 ≠ gv; omega) _⟩
          have hB13 : Below w.heap.size w (w80.setCell ⟨gv, 2, none⟩ (.slice A9 2 c9)) := (hB.trans (hW12.mono hB.size)).setCell (by show w.heap.size ≤ gv; omega) _
          have HW8 : Kp (sealedW t (k : Int) l = putSeal v k (overL lo l kp) ∧ sealB t (k : Int) l = !v.lost) := ⟨by rw [HW.out.1, HW.out.2, if_neg HKM.out]; exact ⟨rfl, rfl⟩⟩
          clear HV HR HX5 HX9 hW12 HV12 HR12 hBw ho12 HSe HY3 HRl HOl HPl HC HMl HOne
          generalize (w80.setCell ⟨gv, 2, none⟩ (.slice A9 2 c9)) = w13 at *
          obtain ⟨v9, hv9⟩ : ∃ v9, v9 = putSeal v k (overL lo l kp) := ⟨_, rfl⟩
          obtain ⟨av9, hav9⟩ : ∃ v9 : Ta, v9 = { av with eA := A9, ec := c9 } := ⟨_, rfl⟩
          have HW9 : Kp (sealedW t (k : Int) l = v9 ∧ sealB t (k : Int) l = !v9.lost) := ⟨by
            rw [HW8.out.1, HW8.out.2, hv9]
            refine ⟨rfl, ?_⟩
            unfold putSeal
            split <;> rfl⟩
          have HN9 : Kp (av9.ln = a.ln) := ⟨by rw [hav9]; exact HNv.out⟩
          rw [← hv9, ← hav9] at HY13 HV13
          have HL9 : Kp _ := ⟨tvL_length av9 v9⟩
          have hM4 : ∀ j, j = g4 → M6 j := fun j hj => HY1.out j (.inl (.inl (.inr hj)))
          have hMM : ∀ j, M j → M6 j ∨ w13.heap.size ≤ j := fun j hj => .inl (HY1.out j (.inl (.inl (.inl hj))))
          have hne4 : gv ≠ g4 := by omega
          have hg4le : w.heap.size ≤ g4 := Nat.le_of_lt h4
          have HRd : Kp (Blk w13.drew g4 42 zeroT') := ⟨HR13.out.drew⟩
          have q8 : ∀ W, (Blk W gv 42 (tvL av9 v9) ∧ Only g4 w13 W) → W.cell? ⟨gv, 8, none⟩ = some (.bool v9.lost) := fun W hW => hW.1.cell? 8
          clear hv9 hav9 HW HW8 HVs HLv HOv
          go_wp2_with fail
          refine wp_region_held_drew (S := fun W => Blk W gv 42 (tvL av9 v9) ∧ Only g4 w13 W) (by kernel_rfl) (⟨HV13.out.drew, (Only.refl _ _).drew⟩) (fun hHeld => ?_)
          generalize w13.drew = wS at *
          refine wpAnyH_take (i := 0) (oi := ⟨some 56, _, _, _, _, _⟩) (v := _) rfl (by kernel_rfl) (by kernel_rfl) (by kernel_rfl) (fun _ _ _ h => h) (yieldsIf_load_mid (by rfl) 42 (.tmp 9) rfl gv 0 rfl (tvL av9 v9) _ (fun W hW => hW.1.allC) rwT.ty rwT.row (by rw [rwT.size, HL9.out])) (by assumption) ?_
          try simp only [Act.put, List.setIfInBounds_toArray, List.set_cons_zero, List.set_cons_succ]
          refine wpAnyH_take (i := 1) (oi := ⟨some 57, _, _, _, _, _⟩) (v := ?_) rfl (by kernel_rfl) (by kernel_rfl) (by kernel_rfl) (fun _ _ _ h => h) (Or.inl ⟨by rfl, by intro w hSw; go_simp; try rfl⟩) (by assumption) ?_
          try simp only [Act.put, List.setIfInBounds_toArray, List.set_cons_zero, List.set_cons_succ]
          refine wpAnyH_take (i := 2) (oi := ⟨some 58, _, _, _, _, _⟩) (v := ?_) rfl (by kernel_rfl) (by kernel_rfl) (by kernel_rfl) (fun _ _ _ h => h) (Or.inl ⟨by rfl, by intro w hSw; go_simp; try rfl⟩) (by assumption) ?_
          try simp only [Act.put, List.setIfInBounds_toArray, List.set_cons_zero, List.set_cons_succ]
          refine wpAnyH_take (i := 3) (oi := ⟨some 59, _, _, _, _, _⟩) (v := ?_) rfl (by kernel_rfl) (by kernel_rfl) (by kernel_rfl) (fun _ _ _ h => h) (Or.inl ⟨by rfl, by intro w hSw; go_simp; try rfl⟩) (by assumption) ?_
          try simp only [Act.put, List.setIfInBounds_toArray, List.set_cons_zero, List.set_cons_succ]
          refine wpAnyH_ready (rs := [4]) (by kernel_rfl) (by simp) ?_
          refine AllReadyH.cons (o := ⟨none, _, _, _, _, _⟩) rfl (fun K hK => ?_) AllReadyH.nil
          refine step_store rwT rfl (.tmp 6) (.tmp 56) rfl rfl rfl HRd.out HL9.out (by rw [HZ.out]; decide) (tvL_one _ _) ?_
          intro w51 hk ho
          have HF : Kp (Blk w51 g4 42 (tvL av9 v9)) := ⟨by have h := hk; rwa [List.drop_of_length_le (by rw [HZ.out]; decide), List.take_zero, List.nil_append, List.append_nil] at h⟩
          refine hK.out _ _ ⟨hHeld.1.only ho hne4, hHeld.2.trans ho⟩ (fun hHeld2 => ?_)
          clear hk ho
          clear hK K hHeld
          have hHeld := hHeld2
          clear hHeld2
          try simp only [Act.put]
          refine wpAnyH_take (i := 5) (oi := ⟨some 7, _, _, _, _, _⟩) (v := ?_) rfl (by kernel_rfl) (by kernel_rfl) (by kernel_rfl) (fun _ _ _ h => h) (Or.inl ⟨by rfl, by intro w hSw; go_simp; try rfl⟩) (by assumption) ?_
          try simp only [Act.put, List.setIfInBounds_toArray, List.set_cons_zero, List.set_cons_succ]
          refine wpAnyH_done (by kernel_rfl) ?_ _
          have ho := hHeld.2
          clear hHeld
          go_wp2
          refine ret_arrB rfl rwT rfl rfl HF.out (tvL_length _ _) rfl ?_
          rw [HW9.out.1, HW9.out.2]
          exact ⟨av9, rfl, hB13.trans (ho.below hg4le), HN9.out, HY13.out.chg (Chg.of_only (S := fun j => j = g4) ho rfl) hM4 hMM⟩
set_option maxRecDepth 100000 in
set_option maxHeartbeats 2000000 in
theorem rseal_any (h : TvM w M a t) (hM : ∀ k, M k → k < w.heap.size) (hlen : t.tr.length ≤ 1000000) (i : Int) (hi : (Lit.int .i64 i).wf = true) (B : Option Addr) (m d : Nat) (l : List UInt8) (hb : BsM w M B m d l) :
    Calls Try.prog 47 #[.agg (tvL a t).toArray, .int .i64 i, .slice B m d] w fun e w' => ∃ a', e = .returned (.tuple #[.agg (tvL a' (sealedW t i l)).toArray, .bool (sealB t i l)]) ∧ Below w.heap.size w w' ∧ a'.ln = a.ln ∧ TvM w' M a' (sealedW t i l) := by
  by_cases hth : sealW t i = true
  · exact rseal_yes h hM hlen i hi B m d l hb hth
  · have HW : Kp (sealedW t i l = t ∧ sealB t i l = false) := ⟨by unfold sealedW sealB; rw [if_neg hth, show sealW t i = false by simpa using hth]; exact ⟨rfl, rfl⟩⟩
    rw [HW.out.1, HW.out.2]
    have HZ : Kp (zeroT'.length = 10) := ⟨rfl⟩
    have HL10 : Kp _ := ⟨tvL_length a t⟩
    have HO10 : Kp _ := ⟨tvL_one a t⟩
    have HT : Kp _ := ⟨h⟩
    have hcase : t.lost = true ∨ (t.lost = false ∧ (i < 0 ∨ 0 ≤ i ∧ 1 < i)) := by
      unfold sealW at hth
      cases hl : t.lost
      · refine .inr ⟨rfl, ?_⟩
        simp only [hl, Bool.not_false, Bool.true_and, Bool.and_eq_true, decide_eq_true_eq] at hth
        omega
      · exact .inl rfl
    clear hth hi h hM hlen hb HW
    go_enter Try.func47, Try.ntmps47
    go_wp2_with (with_reducible refine wpList_box (o := ⟨some 3, _, _, _, _, _⟩) (cs := tvL a t) rfl (.tmp 0) rfl rfl ?_)
    intro w1 hk1 hb1 hs1
    have HK1 : Kp _ := ⟨hk1⟩
    clear hk1 hs1
    go_wp2_with (with_reducible refine wpList_alloc (o := ⟨some 6, _, _, _, _, _⟩) tyT rfl rfl ?_)
    intro w2 hk2 hb2 hs2
    have hl1 : w.heap.size < w1.heap.size := HK1.out.lt
    have HK2 : Kp _ := ⟨HK1.out.below hb2 HK1.out.lt⟩
    have HR2 : Kp _ := ⟨hk2⟩
    have hB2 : Below w.heap.size w w2 := hb1.trans (hb2.mono hb1.size)
    have e8 : w2.cell? ⟨w.heap.size, 8, none⟩ = some (.bool t.lost) := HK2.out.cell? 8
    clear hk2 hb2 hs2 HK1 hb1
    rcases hcase with hlo | ⟨hlo, hlt | ⟨hge, hlt⟩⟩
    all_goals
      rw [hlo] at e8
      go_wp2_with (first
        | (with_reducible refine wpList_loadAll (o := ⟨some 21, _, _, _, _, _⟩) rwT rfl (.tmp 3) rfl rfl HK2.out HL10.out ?_)
        | (with_reducible refine wpList_storeAll (o := ⟨none, _, _, _, _, _⟩) (vs := tvL a t) rwT rfl (.tmp 6) (.tmp 21) rfl rfl HR2.out HZ.out HL10.out HO10.out rfl ?_))
      intro w6 hk6 ho6
      have HK6 : Kp _ := ⟨hk6⟩
      clear hk6
      go_wp2
      refine ret_arrB rfl rwT rfl rfl HK6.out (tvL_length _ _) rfl ?_
      have hBf := hB2.trans (ho6.below (by omega))
      exact ⟨a, rfl, hBf, rfl, HT.out.below hBf⟩
end
end Go.Proofs.Ytpbpegoobgfjcaa
