/- 
   
    -/
import Derived.Test.YtcehkafddlfleaaGreatDoorG19
import Derived.Test.YtcehkafddlfleaaGreatDoorG14
namespace Go.Proofs.YtcehkafddlfleaaGreatDoor
def rcon : Nat → UInt8
 | 0 => 1
 | k + 1 => xt (rcon k)
def rl (x : UInt32) : UInt32 := w4 (by4 x 1) (by4 x 2) (by4 x 3) (by4 x 0)
def kg (bx : List UInt8) (m : Nat) (x : UInt32) : UInt32 := if m % 4 = 0 then subN4 bx (rl x) ^^^ w4 (rcon (m / 4)) 0 0 0 else x
def wl (bx key : List UInt8) : Nat → List UInt32
 | 0 => wordsL4 key
 | m + 1 => wl bx key m ++ [kg bx m ((wl bx key m).getD (m + 3) 0) ^^^ (wl bx key m).getD m 0]
def Wk (bx key : List UInt8) (m : Nat) : UInt32 := (wl bx key 40).getD m 0
section
variable (bx key : List UInt8)
theorem wl_length (m : Nat) : (wl bx key m).length = m + 4 := by
 induction m with
 | zero => exact wordsL_length4 key
 | succ m ih => simp [wl, ih]
theorem wl_next (m i : Nat) (h : i < m + 4) : (wl bx key (m + 1)).getD i 0 = (wl bx key m).getD i 0 := by
 simp only [wl, List.getD]
 rw [List.getElem?_append_left (by rw [wl_length]; exact h)]
theorem wl_stable (m d i : Nat) (h : i < m + 4) : (wl bx key (m + d)).getD i 0 = (wl bx key m).getD i 0 := by
 induction d with
 | zero => rfl
 | succ d ih => rw [← Nat.add_assoc, wl_next bx key _ i (by omega), ih]
theorem Wk_low (m : Nat) (h : m < 4) : Wk bx key m = wd key m := by
 have h1 := wl_stable bx key 0 40 m (by omega)
 rw [Nat.zero_add] at h1
 unfold Wk
 rw [h1]
 exact map_getD _ _ _ _ h
theorem Wk_step (m : Nat) (h : m < 40) : Wk bx key (m + 4) = kg bx m (Wk bx key (m + 3)) ^^^ Wk bx key m := by
 have e : ∀ n i, n ≤ 40 → i < n + 4 → Wk bx key i = (wl bx key n).getD i 0 := fun n i hn hi => by
  have h1 := wl_stable bx key n (40 - n) i hi
  rw [show n + (40 - n) = 40 by omega] at h1
  exact h1
 rw [e (m + 1) (m + 4) (by omega) (by omega), e m (m + 3) (by omega) (by omega), e m m (by omega) (by omega)]
 simp only [wl, List.getD]
 rw [List.getElem?_append_right (by rw [wl_length]; omega), wl_length]
 simp
def kch (r : Nat) : List UInt8 := (List.range 16).map fun p => by4 (Wk bx key (4 * r + p / 4)) (p % 4)
theorem wd_kch (r j : Nat) (h : j < 4) : wd (kch bx key r) j = Wk bx key (4 * r + j) := by
 have e : ∀ p, p < 16 → (kch bx key r).getD p 0 = by4 (Wk bx key (4 * r + p / 4)) (p % 4) := fun p hp => map_getD _ _ _ _ hp
 unfold wd
 rw [e _ (by omega), e _ (by omega), e _ (by omega), e _ (by omega)]
 rw [show 4 * j / 4 = j by omega, show (4 * j + 1) / 4 = j by omega, show (4 * j + 2) / 4 = j by omega, show (4 * j + 3) / 4 = j by omega, show 4 * j % 4 = 0 by omega, show (4 * j + 1) % 4 = 1 by omega, show (4 * j + 2) % 4 = 2 by omega, show (4 * j + 3) % 4 = 3 by omega]
 exact (w4_of _).symm
theorem kch_words (r : Nat) (hr : r < 11) : ((cells32 ((List.range 44).map (Wk bx key))).drop (4 * r)).take 4 = cells32 (wordsL4 (kch bx key r)) := by
 refine List.ext_getElem (by simp [cells32, wordsL4]; omega) fun i h1 h2 => ?_
 have hi : i < 4 := by simpa [cells32, wordsL4] using h2
 have e1 := wordsL_at (kch bx key r) i hi
 rw [wd_kch bx key r i hi] at e1
 have e2 := rangeW_at (Wk bx key) 44 (4 * r + i) (by omega)
 rw [List.getElem?_eq_getElem h2] at e1
 have e3 := Option.some.inj e1
 rw [e3, List.getElem_take, List.getElem_drop]
 have hl : 4 * r + i < (cells32 ((List.range 44).map (Wk bx key))).length := by simp [cells32]; omega
 rw [List.getElem?_eq_getElem hl] at e2
 exact Option.some.inj e2
def keysL : List (List UInt8) := (List.range 11).map (kch bx key)
theorem keysL_at (r : Nat) (h : r < 11) : (keysL bx key).getD r [] = kch bx key r := map_getD _ _ _ _ h
end
end Go.Proofs.YtcehkafddlfleaaGreatDoor

namespace Go.Proofs.YtcehkafddlfleaaGreatDoor
open Go.RowKit
theorem col_val (b : List UInt8) (q c : Nat) : bits .or .u32 (IntKind.u32.wrap (((colA b q c).toNat : Int) * 256)) (IntKind.u32.wrap ((b.getD (4 * q + c) 0).toNat : Int)) = ((colA b q (c + 1)).toNat : Int) := by
 have hy := (b.getD (4 * q + c) 0).toNat_lt
 have e1 : IntKind.u32.wrap (((colA b q c).toNat : Int) * 256) = (((colA b q c).toNat * 256 % 4294967296 : Nat) : Int) := by rw [IntKind.wrap_u32]; omega
 have e2 : IntKind.u32.wrap ((b.getD (4 * q + c) 0).toNat : Int) = ((b.getD (4 * q + c) 0).toNat : Int) := by rw [IntKind.wrap_u32]; omega
 rw [e1, e2, u32_or_nat _ _ (Nat.mod_lt _ (by decide)) (by omega), or_low, ← colA_nat]
set_option maxRecDepth 100000 in
set_option maxHeartbeats 4000000 in
theorem columns_any (b : List UInt8) (w : World) (hb : b.length = 16) : Calls Tryz.prog 233 #[.agg (cells8 b).toArray] w fun e w' => e = .returned (.agg (cells32 (wordsL4 b)).toArray) ∧ Below w.heap.size w w' := by
 have HLb : Kp (b.length = 16) := ⟨hb⟩
 clear hb
 go_enter Tryz.func233, Tryz.ntmps233
 go_wp2_with (with_reducible refine wpList_box (o := ⟨some 1, _, _, _, _, _⟩) rfl (.tmp 0) rfl rfl ?_)
 intro w1 hk1 hb1 hs1
 have HK1 : Kp _ := ⟨hk1⟩
 clear hk1 hs1
 go_wp2_with (with_reducible refine wpList_alloc (o := ⟨some 2, _, _, _, _, _⟩) tyState rfl rfl ?_)
 intro w2 hk2 hb2 hs2
 have HR2 : Kp _ := ⟨hk2⟩
 have HK12 : Kp _ := ⟨HK1.out.below hb2 HK1.out.lt⟩
 have hB2 : Below w.heap.size w w2 := hb1.trans (hb2.mono hb1.size)
 have n1 : w.heap.size < w1.heap.size := HK1.out.lt
 clear hk2 hs2 hb1 hb2 HK1
 go_wp2_with (with_reducible refine wpList_alloc (o := ⟨some 3, _, _, _, _, _⟩) tyState rfl rfl ?_)
 intro w3 hk3 hb3 hs3
 have HR3 : Kp _ := ⟨HR2.out.below hb3 HR2.out.lt⟩
 have HK13 : Kp _ := ⟨HK12.out.below hb3 HK12.out.lt⟩
 have HK3 : Kp (Blk w3 w2.heap.size 343 (cells32 (colS b 0))) := ⟨by rw [colS_none]; exact hk3⟩
 have n2 : w1.heap.size < w2.heap.size := HR2.out.lt
 have hB3 : Below w.heap.size w w3 := hB2.trans (hb3.mono hB2.size)
 obtain ⟨g1, hg1⟩ : ∃ g, g = w1.heap.size := ⟨_, rfl⟩
 obtain ⟨g2, hg2⟩ : ∃ g, g = w2.heap.size := ⟨_, rfl⟩
 rw [← hg1] at HR3 n1 n2 ⊢
 rw [← hg2] at HK3 n2 ⊢
 clear hk3 hs3 hb3 HR2 HK12 hB2 hg1 hg2
 go_wp2
 go_loopw [5] (fun vi wr => ∃ i : Nat, i ≤ 16 ∧ vi = .int .i64 i ∧ Kp (Blk wr g2 343 (cells32 (colS b i))) ∧ Only g2 w3 wr) (fun vi _ => 16 - (intOf vi).toNat)
 case atStart => exact ⟨0, by omega, rfl, HK3, Only.refl _ _⟩
 case round =>
  clear HK3
  obtain ⟨i, hi, rfl, HB, ho⟩ := hrel
  by_cases hlt : i < 16
  ·have cs := (HB.out.cell? (i / 4)).trans (colS_at b i hlt)
   have cb : wr.cell? ⟨w.heap.size, i, none⟩ = some (.int .u8 ((b.getD i 0).toNat : Int)) := by
    rw [(HK13.out.only ho (by omega)).cell? i, cells8_at b i (by rw [HLb.out]; exact hlt)]
    simp [List.getD, List.getElem?_eq_getElem (show i < b.length by rw [HLb.out]; exact hlt)]
   have hfo := HB.out.frozen (i / 4)
   have HSet : Kp _ := ⟨colS_set b i⟩
   have HV : Kp _ := ⟨col_val b (i / 4) (i % 4)⟩
   rw [show 4 * (i / 4) + i % 4 = i by omega] at HV
   obtain ⟨q, hq⟩ : ∃ q, q = i / 4 := ⟨_, rfl⟩
   rw [← hq] at cs hfo HSet HV
   generalize colA b q (i % 4) = x at *
   generalize colA b q (i % 4 + 1) = y at *
   generalize b.getD i 0 = z at *
   have hq1 : (i : Int) / 4 = (q : Int) := by omega
   have hq2 : (i : Int).tdiv 4 = (q : Int) := by rw [Int.tdiv_eq_ediv_of_nonneg (by omega)]; exact hq1
   have hq3 : IntKind.i64.wrap (q : Int) = (q : Int) := by rw [IntKind.wrap_i64]; omega
   have hq4 : (q : Int) < 4 := by omega
   have hi16 : (i : Int) < 16 := by omega
   clear hq
   go_wp2_with fail
   go_still_tail 12, (by kernel_rfl)
   change wpList _ _ _ _ _ wr.drew
   go_wp2
   refine ⟨⟨i + 1, by omega, by go_num, ⟨?_⟩, (ho.trans (Only.setCell wr ⟨g2, q, none⟩ _)).drew⟩, by simp [intOf]; omega⟩
   have HV2 := HV.out
   rw [IntKind.wrap_u32, IntKind.wrap_u32] at HV2
   rw [HV2]
   have h3 := (HB.out.set q (.int .u32 (y.toNat : Int))).drew
   rw [HSet.out] at h3
   exact h3
  ·obtain rfl : i = 16 := by omega
   have HD : Kp (Blk wr g2 343 (cells32 (wordsL4 b))) := ⟨by rw [← colS_done]; exact HB.out⟩
   have HLen : Kp ((cells32 (wordsL4 b)).length = 4) := ⟨by rw [cells32_length, wordsL_length4]⟩
   have HZ : Kp (zero4.length = 4) := ⟨rfl⟩
   have HRr : Kp _ := ⟨HR3.out.only ho (by omega)⟩
   generalize hL : wordsL4 b = L at *
   have HL : Kp _ := ⟨hL⟩
   clear HB hL
   go_wp2_with (first
    | (with_reducible refine wpList_loadAll (o := ⟨some 22, _, _, _, _, _⟩) rwState rfl (.tmp 3) rfl rfl HD.out HLen.out ?_)
    | (with_reducible refine wpList_storeAll (o := ⟨none, _, _, _, _, _⟩) (vs := cells32 L) rwState rfl (.tmp 2) (.tmp 22) rfl rfl HRr.out HZ.out HLen.out (cells32_one _) rfl ?_))
   intro w5 hk5 ho5
   have HK5 : Kp _ := ⟨hk5⟩
   clear hk5
   go_wp2
   exact ret_arr rfl rwState rfl HK5.out HLen.out rfl ⟨by first | rfl | rw [HL.out], (hB3.trans (ho.below (by omega))).trans (ho5.below (by omega))⟩
set_option maxRecDepth 100000 in
set_option maxHeartbeats 4000000 in
theorem bytes_any (l : List UInt8) (w : World) (hl : l.length = 16) : Calls Tryz.prog 263 #[.agg (cells32 (wordsL4 l)).toArray] w fun e w' => e = .returned (.agg (cells8 l).toArray) ∧ Below w.heap.size w w' := by
 have HLl : Kp (l.length = 16) := ⟨hl⟩
 clear hl
 go_enter Tryz.func263, Tryz.ntmps263
 go_wp2_with (with_reducible refine wpList_box (o := ⟨some 1, _, _, _, _, _⟩) rfl (.tmp 0) rfl rfl ?_)
 intro w1 hk1 hb1 hs1
 have HK1 : Kp _ := ⟨hk1⟩
 clear hk1 hs1
 go_wp2_with (with_reducible refine wpList_alloc (o := ⟨some 2, _, _, _, _, _⟩) tyBytes rfl rfl ?_)
 intro w2 hk2 hb2 hs2
 have HR2 : Kp _ := ⟨hk2⟩
 have HK12 : Kp _ := ⟨HK1.out.below hb2 HK1.out.lt⟩
 have hB2 : Below w.heap.size w w2 := hb1.trans (hb2.mono hb1.size)
 have n1 : w.heap.size < w1.heap.size := HK1.out.lt
 clear hk2 hs2 hb1 hb2 HK1
 go_wp2_with (with_reducible refine wpList_alloc (o := ⟨some 3, _, _, _, _, _⟩) tyBytes rfl rfl ?_)
 intro w3 hk3 hb3 hs3
 have HR3 : Kp _ := ⟨HR2.out.below hb3 HR2.out.lt⟩
 have HK13 : Kp _ := ⟨HK12.out.below hb3 HK12.out.lt⟩
 have HK3 : Kp (Blk w3 w2.heap.size 72 (cells8 (fillU (fun i => by4 (wd l (i / 4)) (i % 4)) 16 0))) := ⟨by rw [fillU_none]; exact hk3⟩
 have n2 : w1.heap.size < w2.heap.size := HR2.out.lt
 have hB3 : Below w.heap.size w w3 := hB2.trans (hb3.mono hB2.size)
 obtain ⟨g1, hg1⟩ : ∃ g, g = w1.heap.size := ⟨_, rfl⟩
 obtain ⟨g2, hg2⟩ : ∃ g, g = w2.heap.size := ⟨_, rfl⟩
 rw [← hg1] at HR3 n1 n2 ⊢
 rw [← hg2] at HK3 n2 ⊢
 clear hk3 hs3 hb3 HR2 HK12 hB2 hg1 hg2
 go_wp2
 go_loopw [5] (fun vi wr => ∃ i : Nat, i ≤ 16 ∧ vi = .int .i64 i ∧ Kp (Blk wr g2 72 (cells8 (fillU (fun i => by4 (wd l (i / 4)) (i % 4)) 16 i))) ∧ Only g2 w3 wr) (fun vi _ => 16 - (intOf vi).toNat)
 case atStart => exact ⟨0, by omega, rfl, HK3, Only.refl _ _⟩
 case round =>
  clear HK3
  obtain ⟨i, hi, rfl, HB, ho⟩ := hrel
  by_cases hlt : i < 16
  ·have cs := ((HK13.out.only ho (by omega)).cell? (i / 4)).trans (wordsL_at l (i / 4) (by omega))
   have hll : i < (cells8 (fillU (fun i => by4 (wd l (i / 4)) (i % 4)) 16 i)).length := by rw [cells8_length, fillU_length]; exact hlt
   have hco := HB.out.cell (i := i) hll
   have hfo := HB.out.frozen i
   have HSet : Kp _ := ⟨fillU_set (fun i => by4 (wd l (i / 4)) (i % 4)) 16 i⟩
   generalize (cells8 (fillU (fun i => by4 (wd l (i / 4)) (i % 4)) 16 i))[i]'_ = old at hco
   obtain ⟨q, hq⟩ : ∃ q, q = i / 4 := ⟨_, rfl⟩
   obtain ⟨r, hr⟩ : ∃ r, r = i % 4 := ⟨_, rfl⟩
   rw [← hq] at cs
   have hq1 : (i : Int) / 4 = (q : Int) := by omega
   have hq2 : (i : Int) % 4 = (r : Int) := by omega
   have hq4 : (q : Int) < 4 := by omega
   have hr3 : Kp (r ≤ 3) := ⟨by omega⟩
   have hi16 : (i : Int) < 16 := by omega
   have HV : Kp (by4 (wd l (i / 4)) (i % 4) = by4 (wd l q) r) := ⟨by rw [hq, hr]⟩
   generalize wd l q = x at *
   clear hq hr hll
   go_wp2_with fail
   refine (row_any x r _ hr3.out).mono ?_
   rintro e w' ⟨rfl, rfl⟩
   generalize by4 x r = y at *
   go_wp2
   refine ⟨⟨i + 1, by omega, by go_num, ⟨?_⟩, ho.trans (Only.setCell w' ⟨g2, i, none⟩ _)⟩, by simp [intOf]; omega⟩
   have h3 := HB.out.set i (.int .u8 (y.toNat : Int))
   have h4 := HSet.out
   simp only [HV.out] at h4
   rw [h4] at h3
   exact h3
  ·obtain rfl : i = 16 := by omega
   have HD : Kp (Blk wr g2 72 (cells8 l)) := ⟨by
    have h := HB.out
    rw [fillU_done] at h
    simp only [by4_wd] at h
    rw [range_getD l 16 HLl.out] at h
    exact h⟩
   have HLen : Kp ((cells8 l).length = 16) := ⟨by rw [cells8_length, HLl.out]⟩
   have HZ : Kp (zero16.length = 16) := ⟨rfl⟩
   have HRr : Kp _ := ⟨HR3.out.only ho (by omega)⟩
   clear HB
   go_wp2_with (first
    | (with_reducible refine wpList_loadAll (o := ⟨some 18, _, _, _, _, _⟩) rwBytes rfl (.tmp 3) rfl rfl HD.out HLen.out ?_)
    | (with_reducible refine wpList_storeAll (o := ⟨none, _, _, _, _, _⟩) (vs := cells8 l) rwBytes rfl (.tmp 2) (.tmp 18) rfl rfl HRr.out HZ.out HLen.out (cells8_one _) rfl ?_))
   intro w5 hk5 ho5
   have HK5 : Kp _ := ⟨hk5⟩
   clear hk5
   go_wp2
   exact ret_arr rfl rwBytes rfl HK5.out HLen.out rfl ⟨rfl, (hB3.trans (ho.below (by omega))).trans (ho5.below (by omega))⟩
set_option maxRecDepth 100000 in
set_option maxHeartbeats 4000000 in
theorem add4_any (l m : List UInt8) (w : World) : Calls Tryz.prog 275 #[.agg (cells32 (wordsL4 l)).toArray, .agg (cells32 (wordsL4 m)).toArray] w fun e w' => e = .returned (.agg (cells32 (wordsL4 (addL4 l m 16))).toArray) ∧ Below w.heap.size w w' := by
 go_enter Tryz.func275, Tryz.ntmps275
 go_wp2_with (with_reducible refine wpList_box (o := ⟨some 2, _, _, _, _, _⟩) rfl (.tmp 0) rfl rfl ?_)
 intro w1 hk1 hb1 hs1
 have HK1 : Kp _ := ⟨hk1⟩
 clear hk1 hs1
 go_wp2_with (with_reducible refine wpList_box (o := ⟨some 3, _, _, _, _, _⟩) rfl (.tmp 1) rfl rfl ?_)
 intro w2 hk2 hb2 hs2
 have HR2 : Kp _ := ⟨hk2⟩
 have HK12 : Kp _ := ⟨HK1.out.below hb2 HK1.out.lt⟩
 have hB2 : Below w.heap.size w w2 := hb1.trans (hb2.mono hb1.size)
 have n1 : w.heap.size < w1.heap.size := HK1.out.lt
 clear hk2 hs2 hb1 hb2 HK1
 go_wp2_with (with_reducible refine wpList_alloc (o := ⟨some 4, _, _, _, _, _⟩) tyState rfl rfl ?_)
 intro w3 hk3 hb3 hs3
 have HR3 : Kp _ := ⟨HR2.out.below hb3 HR2.out.lt⟩
 have HK13 : Kp (Blk w3 w.heap.size 343 (cells32 (partW4 (fun j => wd l j ^^^ wd m j) (wd l) 4 0))) := ⟨by rw [partW_none]; exact HK12.out.below hb3 HK12.out.lt⟩
 have HK3 : Kp _ := ⟨hk3⟩
 have n2 : w1.heap.size < w2.heap.size := HR2.out.lt
 have hB3 : Below w.heap.size w w3 := hB2.trans (hb3.mono hB2.size)
 obtain ⟨g1, hg1⟩ : ∃ g, g = w1.heap.size := ⟨_, rfl⟩
 obtain ⟨g2, hg2⟩ : ∃ g, g = w2.heap.size := ⟨_, rfl⟩
 rw [← hg1] at HR3 n1 n2 ⊢
 rw [← hg2] at HK3 n2 ⊢
 clear hk3 hs3 hb3 HR2 HK12 hB2 hg1 hg2
 go_wp2
 go_loopw [6] (fun vi wr => ∃ i : Nat, i ≤ 4 ∧ vi = .int .i64 i ∧ Kp (Blk wr w.heap.size 343 (cells32 (partW4 (fun j => wd l j ^^^ wd m j) (wd l) 4 i))) ∧ Only w.heap.size w3 wr) (fun vi _ => 4 - (intOf vi).toNat)
 case atStart => exact ⟨0, by omega, rfl, HK13, Only.refl _ _⟩
 case round =>
  clear HK13
  obtain ⟨i, hi, rfl, HB, ho⟩ := hrel
  by_cases hlt : i < 4
  ·have cs := (HB.out.cell? i).trans (partW_at4 (fun j => wd l j ^^^ wd m j) (wd l) 4 i hlt)
   have cx := ((HR3.out.only ho (by omega)).cell? i).trans (wordsL_at m i hlt)
   have hfo := HB.out.frozen i
   have HSet : Kp _ := ⟨partW_set (fun j => wd l j ^^^ wd m j) (wd l) 4 i⟩
   generalize hp : wd l i = x at cs
   generalize hq : wd m i = y at cx
   simp only [hp, hq] at HSet
   have hv := u32_xor' x y
   clear hp hq
   have hi16 : (i : Int) < 4 := by omega
   go_wp2_with fail
   go_still_tail 7, (by kernel_rfl)
   change wpList _ _ _ _ _ wr.drew
   go_wp2
   refine ⟨⟨i + 1, by omega, by go_num, ⟨?_⟩, (ho.trans (Only.setCell wr ⟨w.heap.size, i, none⟩ _)).drew⟩, by simp [intOf]; omega⟩
   have h3 := (HB.out.set i (.int .u32 ((x ^^^ y).toNat : Int))).drew
   rw [HSet.out] at h3
   first | exact h3 | (rw [← hv] at h3; exact h3)
  ·obtain rfl : i = 4 := by omega
   have HD : Kp (Blk wr w.heap.size 343 (cells32 (wordsL4 (addL4 l m 16)))) := ⟨by
    have h := HB.out
    rw [partW_done, wordsL_of _ (addL4 l m 16) (fun j hj => add_wd l m j hj)] at h
    exact h⟩
   have HLen : Kp ((cells32 (wordsL4 (addL4 l m 16))).length = 4) := ⟨by rw [cells32_length, wordsL_length4]⟩
   have HZ : Kp (zero4.length = 4) := ⟨rfl⟩
   have HRr : Kp _ := ⟨HK3.out.only ho (by omega)⟩
   generalize hL : wordsL4 (addL4 l m 16) = L at *
   have HL : Kp _ := ⟨hL⟩
   clear HB hL
   go_wp2_with (first
    | (with_reducible refine wpList_loadAll (o := ⟨some 18, _, _, _, _, _⟩) rwState rfl (.tmp 2) rfl rfl HD.out HLen.out ?_)
    | (with_reducible refine wpList_storeAll (o := ⟨none, _, _, _, _, _⟩) (vs := cells32 L) rwState rfl (.tmp 4) (.tmp 18) rfl rfl HRr.out HZ.out HLen.out (cells32_one _) rfl ?_))
   intro w5 hk5 ho5
   have HK5 : Kp _ := ⟨hk5⟩
   clear hk5
   go_wp2
   exact ret_arr rfl rwState rfl HK5.out HLen.out rfl ⟨by first | rfl | rw [HL.out], (hB3.trans (ho.below (by omega))).trans (ho5.below (by omega))⟩
end Go.Proofs.YtcehkafddlfleaaGreatDoor

namespace Go.Proofs.YtcehkafddlfleaaGreatDoor
open Go.RowKit
def zero44 : List Value := List.replicate 44 (.int .u32 0)
theorem tyKeys : Ty Tryz.prog 344 zero44 := ⟨by kernel_rfl⟩
theorem rwKeys : Rw Tryz.prog 344 (.array 11 343) 44 := ⟨by kernel_rfl, rfl, by kernel_rfl⟩
theorem keys_built (g : Nat → UInt32) : Tryz.prog.built 344 [(0, .agg (cells32 ((List.range 4).map g)).toArray)] = some (cells32 ((List.range 44).map fun j => if j < 4 then g j else 0)).toArray := by kernel_rfl
theorem keys_start (bx key : List UInt8) : ((List.range 44).map fun j => if j < 4 then wd key j else 0) = partW4 (Wk bx key) (fun _ => 0) 44 4 := by
 unfold partW4
 refine List.map_congr_left fun j _ => ?_
 by_cases h : j < 4
 ·rw [if_pos h, if_pos h, Wk_low bx key j h]
 ·rw [if_neg h, if_neg h]
theorem part_words (bx key : List UInt8) (r k : Nat) (hr : r < 11) (hk : 4 * r + 4 ≤ k) : ((cells32 (partW4 (Wk bx key) (fun _ => 0) 44 k)).drop (r * 4)).take 4 = cells32 (wordsL4 (kch bx key r)) := by
 refine List.ext_getElem (by simp [cells32, wordsL4, partW4]; omega) fun i h1 h2 => ?_
 have hi : i < 4 := by simpa [cells32, wordsL4] using h2
 have e1 := wordsL_at (kch bx key r) i hi
 rw [wd_kch bx key r i hi] at e1
 rw [List.getElem?_eq_getElem h2] at e1
 rw [Option.some.inj e1, List.getElem_take, List.getElem_drop]
 simp only [cells32, partW4, List.getElem_map, List.getElem_range]
 rw [if_pos (by omega), show r * 4 + i = 4 * r + i by omega]
def nw (bx key : List UInt8) (i j : Nat) : UInt32 := if j = 0 then subN4 bx (rl (Wk bx key (4 * i + 3))) ^^^ w4 (rcon i) 0 0 0 else Wk bx key (4 * (i + 1) + j - 1)
theorem nw_next (bx key : List UInt8) (i j : Nat) (hi : i < 10) (hj : j < 4) : nw bx key i j ^^^ Wk bx key (4 * i + j) = Wk bx key (4 * (i + 1) + j) := by
 rw [show 4 * (i + 1) + j = (4 * i + j) + 4 by omega, Wk_step bx key (4 * i + j) (by omega)]
 unfold nw kg
 by_cases h : j = 0
 ·subst h
  rw [if_pos rfl, if_pos (by omega), show (4 * i + 0) / 4 = i by omega, Nat.add_zero]
 ·rw [if_neg h, if_neg (by omega), show 4 * (i + 1) + j - 1 = 4 * i + j + 3 by omega]
theorem nw_succ (bx key : List UInt8) (i j : Nat) : nw bx key i (j + 1) = Wk bx key (4 * (i + 1) + j) := by
 unfold nw
 rw [if_neg (by omega)]; rfl
theorem rc_val (x : UInt32) (c : UInt8) : bits .xor .u32 (x.toNat : Int) ((c.toNat : Int) * 16777216) = ((x ^^^ w4 c 0 0 0).toNat : Int) := by
 have e1 : (c.toNat : Int) * 16777216 = ((w4 c 0 0 0).toNat : Int) := by rw [w4_nat]; simp
 rw [e1, u32_xor']
theorem rl_turn (x : UInt32) (w : World) : Calls Tryz.prog 260 #[.int .u32 x.toNat, .int .i64 8] w fun e w' => e = .returned (.int .u32 (rl x).toNat) ∧ ∃ q, w' = w.drewN q := by
 have h := turn_8 (by4 x 0) (by4 x 1) (by4 x 2) (by4 x 3) w
 rw [← w4_of] at h
 exact h
set_option maxRecDepth 100000 in
set_option maxHeartbeats 4000000 in
theorem expand_any (key : List UInt8) (gx : Nat) (t : TypeId) (bx : List UInt8) (w : World) (hb : Blk w gx t (cells8 bx)) (hl : bx.length = 256) :
  Calls Tryz.prog 232 #[.agg (cells32 (wordsL4 key)).toArray, .pointer (some ⟨gx, 0, none⟩)] w fun e w' => e = .returned (.agg (cells32 ((List.range 44).map (Wk bx key))).toArray) ∧ Below w.heap.size w w' := by
 have HX : Kp _ := ⟨hb⟩
 have HLx : Kp (bx.length = 256) := ⟨hl⟩
 have hgx := hb.lt
 clear hb hl
 go_enter Tryz.func232, Tryz.ntmps232
 go_wp2_with (with_reducible refine wpList_box (o := ⟨some 2, _, _, _, _, _⟩) rfl (.tmp 0) rfl rfl ?_)
 intro w1 hk1 hb1 hs1
 have HK1 : Kp _ := ⟨hk1⟩
 clear hk1 hs1
 go_wp2_with (with_reducible refine wpList_alloc (o := ⟨some 4, _, _, _, _, _⟩) tyKeys rfl rfl ?_)
 intro w2 hk2 hb2 hs2
 have HR2 : Kp _ := ⟨hk2⟩
 have HK12 : Kp _ := ⟨HK1.out.below hb2 HK1.out.lt⟩
 have HLw : Kp ((cells32 (wordsL4 key)).length = 4) := ⟨by rw [cells32_length, wordsL_length4]⟩
 have hB2 : Below w.heap.size w w2 := hb1.trans (hb2.mono hb1.size)
 have n1 : w.heap.size < w1.heap.size := HK1.out.lt
 have HBu : Kp (Tryz.prog.built 344 [(0, .agg (cells32 (wordsL4 key)).toArray)] = some (cells32 (partW4 (Wk bx key) (fun _ => 0) 44 4)).toArray) := ⟨by rw [← keys_start]; exact keys_built (wd key)⟩
 clear hk2 hs2 hb1 hb2 HK1
 go_wp2_with (first
  | (with_reducible refine wpList_loadAll (o := ⟨some 11, _, _, _, _, _⟩) rwState rfl (.tmp 2) rfl rfl HK12.out HLw.out ?_)
  | (refine wpList_build1 (o := ⟨some 12, _, _, _, _, _⟩) rfl 0 (.tmp 11) rfl rfl HBu.out ?_)
  | (with_reducible refine wpList_alloc (o := ⟨some 5, _, _, _, _, _⟩) tyKeys rfl rfl ?_))
 intro w3 hk3 hb3 hs3
 have HK3 : Kp _ := ⟨hk3⟩
 have HR3 : Kp _ := ⟨HR2.out.below hb3 HR2.out.lt⟩
 have HZ : Kp (zero44.length = 44) := ⟨by simp [zero44]⟩
 have HL4 : Kp ((cells32 (partW4 (Wk bx key) (fun _ => 0) 44 4)).length = 44) := ⟨by rw [cells32_length, partW_length4]⟩
 have n2 : w1.heap.size < w2.heap.size := HR2.out.lt
 have hB3 : Below w.heap.size w w3 := hB2.trans (hb3.mono hB2.size)
 obtain ⟨g1, hg1⟩ : ∃ g, g = w1.heap.size := ⟨_, rfl⟩
 obtain ⟨g2, hg2⟩ : ∃ g, g = w2.heap.size := ⟨_, rfl⟩
 rw [← hg1] at HR3 n1 n2 ⊢
 rw [← hg2] at HK3 n2 ⊢
 clear hk3 hs3 hb3 HR2 HK12 hB2 hg1 hg2 HLw HBu
 go_wp2_with (with_reducible refine wpList_storeAll (o := ⟨none, _, _, _, _, _⟩) (vs := cells32 (partW4 (Wk bx key) (fun _ => 0) 44 4)) rwKeys rfl (.tmp 5) (.tmp 12) rfl rfl HK3.out HZ.out HL4.out (cells32_one _) rfl ?_)
 intro w4' hk4 ho4
 have HK4 : Kp _ := ⟨hk4⟩
 have HR4 : Kp _ := ⟨HR3.out.only ho4 (by omega)⟩
 have hB4 : Below w.heap.size w w4' := hB3.trans (ho4.below (by omega))
 clear hk4 ho4 HK3 HR3 hB3 HL4
 go_wp2
 go_loopg [6, 13] 10 (fun gk vc vi wr => ∃ i : Nat, i + gk = 10 ∧ vi = .int .i64 i ∧ vc = .int .u8 (rcon i).toNat ∧ Kp (Blk wr g2 344 (cells32 (partW4 (Wk bx key) (fun _ => 0) 44 (4 * (i + 1))))) ∧ Kp (Blk wr g1 344 zero44) ∧ Below w.heap.size w wr)
 case atStart => exact ⟨0, by omega, rfl, rfl, HK4, HR4, hB4⟩
 case round =>
  clear HK4 HR4 hB4
  obtain ⟨i, hi, rfl, rfl, HK, HR, hB⟩ := hrel
  cases gk with
  | zero =>
   obtain rfl : i = 10 := by omega
   have HD : Kp (Blk wr g2 344 (cells32 ((List.range 44).map (Wk bx key)))) := ⟨by
    have h := HK.out
    rw [show 4 * (10 + 1) = 44 from rfl, partW_done] at h
    exact h⟩
   have HLen : Kp ((cells32 ((List.range 44).map (Wk bx key))).length = 44) := ⟨by rw [cells32_length]; simp⟩
   generalize hL : (List.range 44).map (Wk bx key) = L at *
   have HL : Kp _ := ⟨hL⟩
   clear HK hL
   go_wp2_with (first
    | (with_reducible refine wpList_loadAll (o := ⟨some 46, _, _, _, _, _⟩) rwKeys rfl (.tmp 5) rfl rfl HD.out HLen.out ?_)
    | (with_reducible refine wpList_storeAll (o := ⟨none, _, _, _, _, _⟩) (vs := cells32 L) rwKeys rfl (.tmp 4) (.tmp 46) rfl rfl HR.out HZ.out HLen.out (cells32_one _) rfl ?_))
   intro w5 hk5 ho5
   have HK5 : Kp _ := ⟨hk5⟩
   clear hk5
   go_wp2
   exact ret_arr rfl rwKeys rfl HK5.out HLen.out rfl ⟨by first | rfl | rw [HL.out], hB.trans (ho5.below (by omega))⟩
  | succ g3 =>
   have hiI : (i : Int) < 10 := by omega
   have hi11 : (i : Int) < 11 := by omega
   have hi10 : Kp (i < 10) := ⟨by omega⟩
   have HP : Kp _ := ⟨part_words bx key i (4 * (i + 1)) (by omega) (by omega)⟩
   have HL4 : Kp (i * 4 + 4 ≤ (cells32 (partW4 (Wk bx key) (fun _ => 0) 44 (4 * (i + 1)))).length) := ⟨by rw [cells32_length, partW_length4]; omega⟩
   have HLk : Kp ((cells32 (wordsL4 (kch bx key i))).length = 4) := ⟨by rw [cells32_length, wordsL_length4]⟩
   have HZ4 : Kp (zero4.length = 4) := ⟨rfl⟩
   obtain ⟨wa, rfl⟩ : ∃ x, x = wr := ⟨wr, rfl⟩
   go_wp2_with (first
    | (with_reducible refine wpList_loadv (o := ⟨some 18, _, _, _, _, _⟩) rwState rfl (.tmp 17) rfl rfl HK.out HL4.out HP.out ?_)
    | (with_reducible refine wpList_alloc (o := ⟨some 8, _, _, _, _, _⟩) tyState rfl rfl ?_))
   intro wb hkb hbb hsb
   have HKb : Kp _ := ⟨hkb⟩
   clear hkb hsb
   have HK2 : Kp _ := ⟨HK.out.below hbb HK.out.lt⟩
   have HR2 : Kp _ := ⟨HR.out.below hbb HR.out.lt⟩
   have hlt2 : g2 < wa.heap.size := HK.out.lt
   have hlt1 : g1 < wa.heap.size := HR.out.lt
   have hgs : w.heap.size ≤ wa.heap.size := hB.size
   have hBb : Below w.heap.size w wb := hB.trans (hbb.mono hgs)
   obtain ⟨g8, hg8⟩ : ∃ g, g = wa.heap.size := ⟨_, rfl⟩
   rw [← hg8] at HKb hlt2 hlt1 hgs ⊢
   clear HK HR hB hbb HL4 HP hg8
   go_wp2_with (refine wpList_storeAll (o := ⟨none, _, _, _, _, _⟩) (vs := cells32 (wordsL4 (kch bx key i))) rwState rfl (.tmp 8) (.tmp 18) rfl rfl HKb.out HZ4.out HLk.out (cells32_one _) rfl ?_)
   intro wc hkc hoc
   have HKc : Kp _ := ⟨hkc⟩
   have HK3 : Kp _ := ⟨HK2.out.only hoc (by omega)⟩
   have HR3 : Kp _ := ⟨HR2.out.only hoc (by omega)⟩
   have hBc : Below w.heap.size w wc := hBb.trans (hoc.below hgs)
   have c3 := (HKc.out.cell? 3).trans (wordsL_at (kch bx key i) 3 (by omega))
   rw [wd_kch bx key i 3 (by omega)] at c3
   have HXc : Kp _ := ⟨HX.out.below hBc hgx⟩
   have hrc := rc_val (subN4 bx (rl (Wk bx key (4 * i + 3)))) (rcon i)
   rw [show subN4 bx (rl (Wk bx key (4 * i + 3))) ^^^ w4 (rcon i) 0 0 0 = nw bx key i 0 from rfl] at hrc
   have hrc8 := (rcon i).toNat_lt
   clear hkc hoc HKb HK2 HR2 hBb
   generalize Wk bx key (4 * i + 3) = x3 at *
   go_wp2_with fail
   refine (rl_turn x3 _).mono ?_
   rintro e w' ⟨rfl, q1, rfl⟩
   go_wp2_with fail
   refine (sub_any (rl x3) gx t bx _ (HXc.out.drewN q1) HLx.out).mono ?_
   rintro e w' ⟨rfl, rfl⟩
   go_wp2_with fail
   have HK4 : Kp (Blk (wc.drewN (q1 + 1)) g2 344 (cells32 (partW4 (Wk bx key) (fun _ => 0) 44 (4 * (i + 1) + 0)))) := ⟨HK3.out.drewN _⟩
   have HR4 : Kp _ := ⟨HR3.out.drewN (q1 + 1)⟩
   have HKc4 : Kp _ := ⟨HKc.out.drewN (q1 + 1)⟩
   have hB4 : Below w.heap.size w (wc.drewN (q1 + 1)) := below_drewN' hBc _
   generalize wc.drewN (q1 + 1) = wd0 at *
   clear hrc c3 HXc HK3 HR3 HKc hBc
   go_loopg [9, 28] 4 (fun g vw vj wx => ∃ j : Nat, j + g = 4 ∧ vj = .int .i64 j ∧ vw = .int .u32 (nw bx key i j).toNat ∧ Kp (Blk wx g2 344 (cells32 (partW4 (Wk bx key) (fun _ => 0) 44 (4 * (i + 1) + j)))) ∧ Kp (Blk wx g1 344 zero44) ∧ Kp (Blk wx g8 343 (cells32 (wordsL4 (kch bx key i)))) ∧ Below w.heap.size w wx)
   case atStart => exact ⟨0, by omega, rfl, rfl, HK4, HR4, HKc4, hB4⟩
   case round =>
    clear HK4 HR4 HKc4 hB4
    obtain ⟨j, hj, rfl, rfl, HK, HR, HS, hB⟩ := hrel
    cases gk with
    | zero =>
     obtain rfl : j = 4 := by omega
     go_wp2_with fail
     refine (double_any (rcon i) _).mono ?_
     rintro e w' ⟨rfl, rfl⟩
     rw [show xt (rcon i) = rcon (i + 1) from rfl]
     go_wp2
     go_roundg g3
     case rel => exact ⟨i + 1, by omega, by go_num, rfl, HK, HR, hB⟩
     case measure => omega
    | succ g4 =>
     have hjI : (j : Int) < 4 := by omega
     have cs := (HS.out.cell? j).trans (wordsL_at (kch bx key i) j (by omega))
     rw [wd_kch bx key i j (by omega)] at cs
     have hv : bits .xor .u32 ((nw bx key i j).toNat : Int) ((Wk bx key (4 * i + j)).toNat : Int) = ((nw bx key i (j + 1)).toNat : Int) := by rw [u32_xor', nw_next bx key i j hi10.out (by omega), nw_succ]
     have HSet : Kp _ := ⟨partW_set (Wk bx key) (fun _ => 0) 44 (4 * (i + 1) + j)⟩
     have hco := (HK.out.cell? (4 * (i + 1) + j)).trans (partW_at4 (Wk bx key) (fun _ => 0) 44 (4 * (i + 1) + j) (by have := hi10.out; omega))
     have hfo := HK.out.frozen (4 * (i + 1) + j)
     rw [← nw_succ] at HSet
     have HO : Kp ((i + 1) * 4 + j = 4 * (i + 1) + j) := ⟨by omega⟩
     rw [← HO.out] at hco hfo
     obtain ⟨y, hy⟩ : ∃ y, nw bx key i (j + 1) = y := ⟨_, rfl⟩
     have HY : Kp _ := ⟨hy⟩
     rw [hy] at hv HSet
     clear hy
     go_wp2
     go_roundg g4
     case rel =>
      refine ⟨j + 1, by omega, by go_num, ?_, ⟨?_⟩, ⟨HR.out.other (by show g1 ≠ g2; omega) _⟩, ⟨HS.out.other (by show g8 ≠ g2; omega) _⟩, hB.setCell (by show w.heap.size ≤ g2; omega) _⟩
      ·rw [HY.out]
      ·have h3 := HK.out.set (4 * (i + 1) + j) (.int .u32 (y.toNat : Int))
       rw [HSet.out] at h3
       rw [HO.out]
       exact h3
     case measure => omega
end Go.Proofs.YtcehkafddlfleaaGreatDoor
