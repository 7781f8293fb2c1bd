/- 
   
   
    -/
import Derived.Test.YtcehkafddlfleaaGreatDoorG15
import Derived.Test.YtcehkafddlfleaaGreatDoorG14
namespace Go.Proofs.YtcehkafddlfleaaGreatDoor
open Go.RowKit
def zero256 : List Value := List.replicate 256 (.int .u8 0)
def zero255 : List Value := List.replicate 255 (.int .u8 0)
theorem tyTable : Ty Tryz.prog 340 zero256 := ⟨by kernel_rfl⟩
theorem rwTable : Rw Tryz.prog 340 (.array 256 5) 256 := ⟨by kernel_rfl, rfl, by kernel_rfl⟩
theorem tyPow : Ty Tryz.prog 369 zero255 := ⟨by kernel_rfl⟩
theorem rwPow : Rw Tryz.prog 369 (.array 255 5) 255 := ⟨by kernel_rfl, rfl, by kernel_rfl⟩
theorem plain84 : Plain1 Tryz.prog 5 := ⟨by kernel_rfl, by kernel_rfl⟩
theorem table_built (n : Nat) : Tryz.prog.built 340 [(0, .int .u8 (n : Int))] = some ((Value.int .u8 (n : Int)) :: List.replicate 255 (.int .u8 0)).toArray := by kernel_rfl
theorem mixIt_go (v : UInt8) (n : Nat) : bits .xor .u8 ((mixIt v n).toNat : Int) (((v.toNat * 2 ^ (n + 1) % 256 ||| v.toNat / 2 ^ (8 - (n + 1)) : Nat)) : Int) = ((mixIt v (n + 1)).toNat : Int) := by
 rw [t8_val, u8_xor']; rfl
def pw : Nat → UInt8
 | 0 => 1
 | k + 1 => pw k ^^^ xt (pw k)
def tabV (k : Nat) : UInt8 := mixIt (pw ((255 - k) % 255)) 4
def tabK : Nat → List UInt8
 | 0 => mixIt 0 4 :: List.replicate 255 0
 | k + 1 => (tabK k).set (pw k).toNat (tabV k)
theorem tabK_length : ∀ k, (tabK k).length = 256
 | 0 => by show (mixIt 0 4 :: List.replicate 255 0).length = 256; rw [List.length_cons, List.length_replicate]
 | k + 1 => by rw [tabK, List.length_set]; exact tabK_length k
theorem tabK_set (k : Nat) : (cells8 (tabK k)).set (pw k).toNat (.int .u8 ((tabV k).toNat : Int)) = cells8 (tabK (k + 1)) := by
 rw [tabK]; unfold cells8; rw [List.map_set]
theorem tab_done : tabK 255 = boxB := by decide +kernel
theorem tabK_none : cells8 (tabK 0) = (Value.int .u8 ((mixIt 0 4).toNat : Int)) :: List.replicate 255 (.int .u8 0) := by
 show cells8 (mixIt 0 4 :: List.replicate 255 0) = _
 unfold cells8
 rw [List.map_cons, List.map_replicate]; rfl
set_option maxHeartbeats 1000000 in
theorem blend_any (v : UInt8) (w : World) : Calls Tryz.prog 258 #[.int .u8 v.toNat] w fun e w' => e = .returned (.int .u8 (mixIt v 4).toNat) ∧ Below w.heap.size w w' := by
 go_enter Tryz.func258, Tryz.ntmps258
 have h99 : bits .xor .u8 (v.toNat : Int) 99 = ((mixIt v 0).toNat : Int) := u8_xor' v 99
 go_wp2
 clear h99
 go_loopg [3, 7] 4 (fun g3 vm vn wx => ∃ n : Nat, n + g3 = 4 ∧ vn = .int .i64 n ∧ vm = .int .u8 (mixIt v n).toNat ∧ Below w.heap.size w wx)
 case atStart => exact ⟨0, by omega, rfl, rfl, Below.refl _ _⟩
 case round =>
  obtain ⟨n, hn, rfl, rfl, hb⟩ := hrel
  cases gk with
  | zero =>
   obtain rfl : n = 4 := by omega
   obtain ⟨x, hx⟩ : ∃ x, x = mixIt v 4 := ⟨_, rfl⟩
   have HX : Kp _ := ⟨hx⟩
   rw [← hx]
   clear hx
   go_wp2
   go_ret
   exact ⟨by rw [← HX.out]; rfl, hb⟩
  | succ g4 =>
   have hnI : (n : Int) < 4 := by omega
   have HX : Kp _ := ⟨mixIt_go v n⟩
   obtain ⟨m, hm⟩ : ∃ m : Nat, m = n + 1 := ⟨_, rfl⟩
   have hmI : (n : Int) + 1 = (m : Int) := by omega
   rw [← hm] at HX
   have h17 : 1 ≤ m ∧ m ≤ 7 := by omega
   have HM : Kp _ := ⟨hm⟩
   clear hm
   go_wp2_with fail
   refine (turn8_any v m _ h17.1 h17.2).mono ?_
   rintro e w' ⟨rfl, q, rfl⟩
   have hxx := HX.out
   generalize (v.toNat * 2 ^ m % 256 ||| v.toNat / 2 ^ (8 - m) : Nat) = tt at *
   go_wp2
   go_roundg g4
   case rel => exact ⟨n + 1, by omega, by go_num, by rw [← HM.out], below_drewN' hb q⟩
   case measure => omega
theorem fillU_at (f : Nat → UInt8) (n k : Nat) (h : k < n) : (cells8 (fillU f n n))[k]? = some (.int .u8 ((f k).toNat : Int)) := by
 rw [fillU_done]; unfold cells8; rw [List.map_map, List.getElem?_map, List.getElem?_range h]; rfl
theorem tab_parts (k : Nat) (_h : k < 255) : ∃ (m : Nat) (p q y : UInt8), m < 255 ∧ (255 - (k : Int)).tmod 255 = (m : Int) ∧ Kp (pw k = p) ∧ Kp (pw m = q) ∧ Kp (mixIt q 4 = y) ∧ Kp (tabV k = y) :=
 ⟨(255 - k) % 255, pw k, pw ((255 - k) % 255), tabV k, Nat.mod_lt _ (by decide), by
  rw [Int.tmod_eq_emod_of_nonneg (by omega)]; omega, ⟨rfl⟩, ⟨rfl⟩, ⟨rfl⟩, ⟨rfl⟩⟩
set_option maxRecDepth 100000 in
set_option maxHeartbeats 4000000 in
theorem makeBox_any (w : World) : Calls Tryz.prog 231 #[] w fun e w' => e = .returned (.agg (cells8 boxB).toArray) ∧ Below w.heap.size w w' := by
 go_enter Tryz.func231, Tryz.ntmps231
 go_wp2_with (with_reducible refine wpList_alloc (o := ⟨some 0, _, _, _, _, _⟩) tyTable rfl rfl ?_)
 intro w1 hk1 hb1 hs1
 have HK1 : Kp _ := ⟨hk1⟩
 clear hk1 hs1
 go_wp2_with (with_reducible refine wpList_alloc (o := ⟨some 1, _, _, _, _, _⟩) tyPow rfl rfl ?_)
 intro w2 hk2 hb2 hs2
 have HR2 : Kp _ := ⟨HK1.out.below hb2 HK1.out.lt⟩
 have HP2 : Kp (Blk w2 w1.heap.size 369 (cells8 (fillU pw 255 0))) := ⟨by rw [fillU_none]; exact hk2⟩
 have hB2 : Below w.heap.size w w2 := hb1.trans (hb2.mono hb1.size)
 obtain ⟨g, hg⟩ : ∃ g, g = w1.heap.size := ⟨_, rfl⟩
 rw [← hg] at HP2 ⊢
 have hgg : w.heap.size < g := by rw [hg]; exact HK1.out.lt
 clear hk2 hb1 hb2 hs2 HK1 hg
 go_wp2
 go_loopg [2, 7] 255 (fun gk vp vi wr => ∃ k : Nat, k + gk = 255 ∧ vi = .int .i64 k ∧ vp = .int .u8 (pw k).toNat ∧ Kp (Blk wr g 369 (cells8 (fillU pw 255 k))) ∧ Only g w2 wr)
 case atStart => exact ⟨0, by omega, rfl, rfl, HP2, Only.refl _ _⟩
 case round =>
  clear HP2
  obtain ⟨k, hk, rfl, rfl, HB, ho⟩ := hrel
  cases gk with
  | succ g2 =>
   have hkI : (k : Int) < 255 := by omega
   have hlt : k < (cells8 (fillU pw 255 k)).length := by rw [cells8_length, fillU_length]; omega
   have hco := HB.out.cell (i := k) hlt
   have hfo := HB.out.frozen k
   have HSet : Kp _ := ⟨fillU_set pw 255 k⟩
   generalize (cells8 (fillU pw 255 k))[k]'_ = q at hco
   have HN : Kp (pw (k + 1) = pw k ^^^ xt (pw k)) := ⟨rfl⟩
   generalize pw k = x at *
   clear hlt
   go_wp2_with (go_at_call 257; refine (double_any _ _).mono ?_; rintro e w' ⟨rfl, rfl⟩)
   have hxx : bits .xor .u8 (x.toNat : Int) ((xt x).toNat : Int) = ((x ^^^ xt x).toNat : Int) := u8_xor' x (xt x)
   go_wp2
   go_roundg g2
   case rel => exact ⟨k + 1, by omega, by go_num, by rw [HN.out, hxx], ⟨by have h3 := HB.out.set k (.int .u8 (x.toNat : Int)); rw [HSet.out] at h3; exact h3⟩, ho.trans (Only.setCell wr ⟨g, k, none⟩ _)⟩
   case measure => omega
  | zero =>
   obtain rfl : k = 255 := by omega
   have hB3 : Below w.heap.size w wr := hB2.trans (ho.below (Nat.le_of_lt hgg))
   have HR3 : Kp _ := ⟨HR2.out.only ho (by omega)⟩
   have HPat : Kp (∀ k, k < 255 → (cells8 (fillU pw 255 255))[k]? = some (.int .u8 ((pw k).toNat : Int))) := ⟨fillU_at pw 255⟩
   have HPl : Kp ((cells8 (fillU pw 255 255)).length = 255) := ⟨by rw [cells8_length, fillU_length]⟩
   generalize cells8 (fillU pw 255 255) = PL at *
   have HZ : Kp (zero256.length = 256) := ⟨by unfold zero256; exact List.length_replicate⟩
   clear hB2 HR2 ho
   generalize pw 255 = p9
   go_wp2_with fail
   have hcall := blend_any 0 wr
   refine hcall.mono ?_
   rintro e w3 ⟨rfl, hb3⟩
   have hB4 := hB3.trans (hb3.mono hB3.size)
   have HP4 : Kp _ := ⟨HB.out.below hb3 HB.out.lt⟩
   have HR4 : Kp _ := ⟨HR3.out.below hb3 HR3.out.lt⟩
   have hg3 : g < w3.heap.size := Nat.lt_of_lt_of_le HB.out.lt hb3.size
   have HT0 : Kp _ := ⟨tabK_none⟩
   generalize mixIt 0 4 = y0 at *
   have HTB : Kp _ := ⟨table_built y0.toNat⟩
   have HTl : Kp ((cells8 (tabK 0)).length = 256) := ⟨by rw [cells8_length, tabK_length]⟩
   rw [← HT0.out] at HTB
   have hone := cells8_one (tabK 0)
   obtain ⟨T0, hT0⟩ : ∃ T, T = cells8 (tabK 0) := ⟨_, rfl⟩
   have HT1 : Kp _ := ⟨hT0⟩
   rw [← hT0] at HT0 HTB HTl hone
   clear hT0
   clear hB3 hb3 HB HR3
   go_wp2_with (first
    | (refine wpList_build1 (o := ⟨some 19, _, _, _, _, _⟩) rfl 0 (.tmp 18) rfl rfl HTB.out ?_)
    | (with_reducible refine wpList_alloc (o := ⟨some 4, _, _, _, _, _⟩) tyTable rfl rfl ?_))
   intro w4 hk4 hb4 hs4
   have HK4 : Kp _ := ⟨hk4⟩
   have HP5 : Kp _ := ⟨HP4.out.below hb4 HP4.out.lt⟩
   have HR5 : Kp _ := ⟨HR4.out.below hb4 HR4.out.lt⟩
   have hB5 := hB4.trans (hb4.mono hB4.size)
   clear hk4 hb4 hs4 HP4 HR4 hB4
   obtain ⟨gt, hgt⟩ : ∃ g, g = w3.heap.size := ⟨_, rfl⟩
   rw [← hgt] at HK4 hg3 ⊢
   clear hgt
   go_wp2_with (refine wpList_storeAll (o := ⟨none, _, _, _, _, _⟩) (vs := T0) rwTable rfl (.tmp 4) (.tmp 19) rfl rfl HK4.out HZ.out HTl.out hone rfl ?_)
   intro w5 hk5 ho5
   have hg5 : w.heap.size < gt := by omega
   have HK5 : Kp (Blk w5 gt 340 T0) := ⟨hk5⟩
   have HP6 : Kp _ := ⟨HP5.out.only ho5 (by omega)⟩
   have HR6 : Kp _ := ⟨HR5.out.only ho5 (by omega)⟩
   have hB6 := hB5.trans (ho5.below (Nat.le_of_lt hg5))
   clear hk5 ho5 HK4 HP5 HR5 hB5 HTB hone HTl
   go_wp2_with (with_reducible refine wpList_loadAll (o := ⟨some 20, _, _, _, _, _⟩) rwPow rfl (.tmp 1) rfl rfl HP6.out HPl.out ?_)
   go_wp2
   go_loopg [21] 255 (fun gk vi wr => ∃ k : Nat, k + gk = 255 ∧ vi = .int .i64 k ∧ Kp (Blk wr gt 340 (cells8 (tabK k))) ∧ Kp (Blk wr g 369 PL) ∧ Kp (Blk wr w.heap.size 340 zero256) ∧ Below w.heap.size w wr)
   case atStart => exact ⟨0, by omega, rfl, ⟨by rw [← HT1.out]; exact HK5.out⟩, HP6, HR6, hB6⟩
   case round =>
    clear HK5 HP6 HR6 hB6
    obtain ⟨k, hk, rfl, HB, HP, HR, hB⟩ := hrel
    cases gk with
    | zero =>
     obtain rfl : k = 255 := by omega
     have HD : Kp (Blk wr gt 340 (cells8 boxB)) := ⟨by rw [← tab_done]; exact HB.out⟩
     have HLen : Kp ((cells8 boxB).length = 256) := ⟨by rw [cells8_length, boxB_length]⟩
     generalize hL : boxB = L at *
     have HL : Kp _ := ⟨hL⟩
     clear HB hL
     go_wp2_with (first
      | (with_reducible refine wpList_loadAll (o := ⟨some 34, _, _, _, _, _⟩) rwTable rfl (.tmp 4) rfl rfl HD.out HLen.out ?_)
      | (with_reducible refine wpList_storeAll (o := ⟨none, _, _, _, _, _⟩) (vs := cells8 L) rwTable rfl (.tmp 0) (.tmp 34) rfl rfl HR.out HZ.out HLen.out (cells8_one _) rfl ?_))
     intro w7 hk7 ho7
     have HK7 : Kp _ := ⟨hk7⟩
     clear hk7
     go_wp2
     exact ret_arr rfl rwTable rfl HK7.out HLen.out rfl ⟨by rw [HL.out], hB.trans (ho7.below (Nat.le_refl _))⟩
    | succ g2 =>
     have hkI : (k : Int) < 255 := by omega
     have hpk := HPat.out k (by omega)
     obtain ⟨m, p, q, y, hm, hrem, HPp, HQ, HY, HV⟩ := tab_parts k (by omega)
     have hpm := HPat.out m hm
     rw [HPp.out] at hpk
     rw [HQ.out] at hpm
     have hPc : wr.cell? ⟨g, m, none⟩ = some (.int .u8 (q.toNat : Int)) := by rw [HP.out.cell?, hpm]
     have hpl := p.toNat_lt
     have hlt : p.toNat < (cells8 (tabK k)).length := by rw [cells8_length, tabK_length]; omega
     have hmI : (m : Int) < 255 := by omega
     have HSet : Kp _ := ⟨tabK_set k⟩
     rw [HPp.out, HV.out] at HSet
     clear hpm hm
     go_wp2_with (with_reducible refine wpList_index (o := ⟨some 24, _, _, _, _, _⟩) rwPow.ty plain84 rfl (.tmp 20) (.tmp 21) rfl rfl rfl k rfl (by omega) hpk ?_)
     have hcall := blend_any q wr
     rw [HY.out] at hcall
     refine hcall.mono ?_
     rintro e w7 ⟨rfl, hb7⟩
     have HB7 : Kp _ := ⟨HB.out.below hb7 HB.out.lt⟩
     have HP7 : Kp _ := ⟨HP.out.below hb7 HP.out.lt⟩
     have HR7 : Kp _ := ⟨HR.out.below hb7 HR.out.lt⟩
     have hB7 := hB.trans (hb7.mono hB.size)
     clear HB HP HR hB hb7 hPc hpk hrem
     have hco := HB7.out.cell (i := p.toNat) hlt
     have hfo := HB7.out.frozen p.toNat
     generalize (cells8 (tabK k))[p.toNat]'_ = qq at hco
     have hpI : (p.toNat : Int) < 256 := by omega
     go_wp2
     go_roundg g2
     case rel =>
      refine ⟨k + 1, by omega, by go_num, ⟨?_⟩, ⟨HP7.out.other (by show g ≠ gt; omega) _⟩, ⟨HR7.out.other (by show w.heap.size ≠ gt; omega) _⟩, hB7.setCell (by show w.heap.size ≤ gt; omega) _⟩
      have h3 := HB7.out.set p.toNat (.int .u8 (y.toNat : Int)); rw [HSet.out] at h3; exact h3
     case measure => omega
end Go.Proofs.YtcehkafddlfleaaGreatDoor

namespace Go.Proofs.YtcehkafddlfleaaGreatDoor
theorem map_getD {β : Type} (f : Nat → β) (n i : Nat) (d : β) (h : i < n) : ((List.range n).map f).getD i d = f i := by
 simp [List.getD, List.getElem?_map, List.getElem?_range h]
def partW4 (f s : Nat → UInt32) (n k : Nat) : List UInt32 := (List.range n).map fun j => if j < k then f j else s j
section
variable (f s : Nat → UInt32) (n k : Nat)
theorem partW_length4 : (partW4 f s n k).length = n := by simp [partW4]
theorem partW_set : (cells32 (partW4 f s n k)).set k (.int .u32 ((f k).toNat : Int)) = cells32 (partW4 f s n (k + 1)) := by
 have e : (partW4 f s n k).set k (f k) = partW4 f s n (k + 1) := by
  refine List.ext_getElem (by rw [List.length_set, partW_length4, partW_length4]) fun i h1 h2 => ?_
  rw [List.getElem_set]
  simp only [partW4, List.getElem_map, List.getElem_range]
  by_cases hi : k = i
  ·subst hi; simp
  ·rw [if_neg hi]
   by_cases h3 : i < k
   ·rw [if_pos h3, if_pos (by omega)]
   ·rw [if_neg h3, if_neg (by omega)]
 rw [← e]
 unfold cells32
 rw [List.map_set]
theorem partW_at4 (h : k < n) : (cells32 (partW4 f s n k))[k]? = some (.int .u32 ((s k).toNat : Int)) := by
 simp [cells32, partW4, List.getElem?_map, List.getElem?_range h]
theorem partW_done : partW4 f s n n = (List.range n).map f := by
 unfold partW4
 refine List.map_congr_left fun j hj => ?_
 rw [if_pos (List.mem_range.1 hj)]
theorem partW_none : partW4 f s n 0 = (List.range n).map s := by
 unfold partW4
 refine List.map_congr_left fun j _ => ?_
 rw [if_neg (by omega)]
end
theorem rangeW_at (f : Nat → UInt32) (n k : Nat) (h : k < n) : (cells32 ((List.range n).map f))[k]? = some (.int .u32 ((f k).toNat : Int)) := by
 simp [cells32, List.getElem?_map, List.getElem?_range h]
def wd (l : List UInt8) (j : Nat) : UInt32 := w4 (l.getD (4 * j) 0) (l.getD (4 * j + 1) 0) (l.getD (4 * j + 2) 0) (l.getD (4 * j + 3) 0)
def wordsL4 (l : List UInt8) : List UInt32 := (List.range 4).map (wd l)
theorem wordsL_length4 (l : List UInt8) : (wordsL4 l).length = 4 := by simp [wordsL4]
theorem wordsL_at (l : List UInt8) (j : Nat) (h : j < 4) : (cells32 (wordsL4 l))[j]? = some (.int .u32 ((wd l j).toNat : Int)) := rangeW_at _ _ _ h
theorem wordsL_of (f : Nat → UInt32) (l : List UInt8) (h : ∀ j, j < 4 → f j = wd l j) : (List.range 4).map f = wordsL4 l :=
 List.map_congr_left fun j hj => h j (List.mem_range.1 hj)
theorem add_wd (l m : List UInt8) (j : Nat) (h : j < 4) : wd l j ^^^ wd m j = wd (addL4 l m 16) j := by
 have e : ∀ i, i < 16 → (addL4 l m 16).getD i 0 = l.getD i 0 ^^^ m.getD i 0 := fun i hi => map_getD _ _ _ _ hi
 unfold wd
 rw [w4_xor, e _ (by omega), e _ (by omega), e _ (by omega), e _ (by omega)]
def subN4 (bx : List UInt8) (x : UInt32) : UInt32 := w4 (bx.getD (by4 x 0).toNat 0) (bx.getD (by4 x 1).toNat 0) (bx.getD (by4 x 2).toNat 0) (bx.getD (by4 x 3).toNat 0)
theorem by4_w4 (a b c d : UInt8) : by4 (w4 a b c d) 0 = a ∧ by4 (w4 a b c d) 1 = b ∧ by4 (w4 a b c d) 2 = c ∧ by4 (w4 a b c d) 3 = d := by
 have ha := a.toNat_lt; have hb := b.toNat_lt; have hc := c.toNat_lt; have hd := d.toNat_lt
 refine ⟨?_, ?_, ?_, ?_⟩ <;>
 ·apply UInt8.toNat_inj.1
  simp only [by4, UInt8.toNat_ofNat', w4_nat]
  omega
theorem sub_w4 (bx : List UInt8) (a b c d : UInt8) : subN4 bx (w4 a b c d) = w4 (bx.getD a.toNat 0) (bx.getD b.toNat 0) (bx.getD c.toNat 0) (bx.getD d.toNat 0) := by
 unfold subN4
 rw [(by4_w4 a b c d).1, (by4_w4 a b c d).2.1, (by4_w4 a b c d).2.2.1, (by4_w4 a b c d).2.2.2]
def selW (p q r s : UInt32) : UInt32 := (p &&& 4278190080) ||| (q &&& 16711680) ||| (r &&& 65280) ||| (s &&& 255)
theorem sel_w4 (a b c d a1 b1 c1 d1 a2 b2 c2 d2 a3 b3 c3 d3 : UInt8) : selW (w4 a b c d) (w4 a1 b1 c1 d1) (w4 a2 b2 c2 d2) (w4 a3 b3 c3 d3) = w4 a b1 c2 d3 := by
 have e0 : (4278190080 : UInt32) = w4 255 0 0 0 := by decide
 have e1 : (16711680 : UInt32) = w4 0 255 0 0 := by decide
 have e2 : (65280 : UInt32) = w4 0 0 255 0 := by decide
 have e3 : (255 : UInt32) = w4 0 0 0 255 := by decide
 have f1 : ∀ x : UInt8, x &&& 255 = x := fun x => by
  apply UInt8.toNat_inj.1
  rw [UInt8.toNat_and]
  have h := Nat.and_two_pow_sub_one_eq_mod x.toNat 8
  have := x.toNat_lt
  rw [show (255 : UInt8).toNat = 2 ^ 8 - 1 from rfl, h]; omega
 unfold selW
 rw [e0, e1, e2, e3, w4_and, w4_and, w4_and, w4_and, w4_or, w4_or, w4_or]
 simp [f1]
theorem shift_wd (l bx : List UInt8) (j : Nat) (h : j < 4) : subN4 bx (selW (wd l j) (wd l ((j + 1) % 4)) (wd l ((j + 2) % 4)) (wd l ((j + 3) % 4))) = wd (shiftL l bx 16) j := by
 have e : ∀ i, i < 16 → (shiftL l bx 16).getD i 0 = bx.getD (l.getD (shiftIx i) 0).toNat 0 := fun i hi => map_getD _ _ _ _ hi
 unfold wd
 rw [sel_w4, sub_w4, e _ (by omega), e _ (by omega), e _ (by omega), e _ (by omega)]
 have i0 : shiftIx (4 * j) = 4 * j := by unfold shiftIx; omega
 have i1 : shiftIx (4 * j + 1) = 4 * ((j + 1) % 4) + 1 := by unfold shiftIx; omega
 have i2 : shiftIx (4 * j + 2) = 4 * ((j + 2) % 4) + 2 := by unfold shiftIx; omega
 have i3 : shiftIx (4 * j + 3) = 4 * ((j + 3) % 4) + 3 := by unfold shiftIx; omega
 rw [i0, i1, i2, i3]
def mixW (x : UInt32) : Nat := dblN (x.toNat ^^^ rotN x.toNat 8) ^^^ rotN x.toNat 8 ^^^ rotN x.toNat 16 ^^^ rotN x.toNat 24
theorem mix_w4 (a b c d : UInt8) : mixW (w4 a b c d) = (w4 (xt (a ^^^ b) ^^^ b ^^^ c ^^^ d) (xt (b ^^^ c) ^^^ c ^^^ d ^^^ a) (xt (c ^^^ d) ^^^ d ^^^ a ^^^ b) (xt (d ^^^ a) ^^^ a ^^^ b ^^^ c)).toNat := by
 unfold mixW
 rw [rot8, rot16, rot24, ← UInt32.toNat_xor, w4_xor, dbl_w4, ← UInt32.toNat_xor, ← UInt32.toNat_xor, ← UInt32.toNat_xor, w4_xor, w4_xor, w4_xor]
theorem mix_wd (l : List UInt8) (j : Nat) (h : j < 4) : mixW (wd l j) = (wd (mixL l 16) j).toNat := by
 have e : ∀ i, i < 16 → (mixL l 16).getD i 0 = mixAcc l i 4 := fun i hi => map_getD _ _ _ _ hi
 unfold wd
 rw [mix_w4, e _ (by omega), e _ (by omega), e _ (by omega), e _ (by omega)]
 simp only [mixAcc]
 have q0 : 4 * j / 4 = j := by omega
 have q1 : (4 * j + 1) / 4 = j := by omega
 have q2 : (4 * j + 2) / 4 = j := by omega
 have q3 : (4 * j + 3) / 4 = j := by omega
 have r0 : 4 * j % 4 = 0 := by omega
 have r1 : (4 * j + 1) % 4 = 1 := by omega
 have r2 : (4 * j + 2) % 4 = 2 := by omega
 have r3 : (4 * j + 3) % 4 = 3 := by omega
 rw [q0, q1, q2, q3, r0, r1, r2, r3]
 simp only [mM, Nat.reduceAdd, Nat.reduceSub, Nat.reduceMod, mulU_one, mulU_two, mulU_three, Nat.add_zero, xt_xor]
 generalize l.getD (4 * j) 0 = a
 generalize l.getD (4 * j + 1) 0 = b
 generalize l.getD (4 * j + 2) 0 = c
 generalize l.getD (4 * j + 3) 0 = d
 congr 2 <;> ac_rfl
def colA (b : List UInt8) (j : Nat) : Nat → UInt32
 | 0 => 0
 | c + 1 => UInt32.ofNat ((colA b j c).toNat * 256 % 4294967296 ||| (b.getD (4 * j + c) 0).toNat)
theorem or_low (x : Nat) (y : UInt8) : (x * 256 % 4294967296 ||| y.toNat) = x * 256 % 4294967296 + y.toNat := by
 have h1 : x * 256 % 4294967296 = (x % 16777216) <<< 8 := by rw [Nat.shiftLeft_eq]; omega
 rw [h1, ← Nat.shiftLeft_add_eq_or_of_lt (by simpa using y.toNat_lt)]
theorem colA_nat (b : List UInt8) (j c : Nat) : (colA b j (c + 1)).toNat = (colA b j c).toNat * 256 % 4294967296 + (b.getD (4 * j + c) 0).toNat := by
 have h : (colA b j c).toNat * 256 % 4294967296 + (b.getD (4 * j + c) 0).toNat < 4294967296 := by
  have := (b.getD (4 * j + c) 0).toNat_lt; omega
 show (UInt32.ofNat _).toNat = _
 rw [or_low, UInt32.toNat_ofNat_of_lt' h]
theorem colA_four (b : List UInt8) (j : Nat) : colA b j 4 = wd b j := by
 unfold wd
 apply w4_eq
 have z : (colA b j 0).toNat = 0 := rfl
 have h0 := (b.getD (4 * j + 0) 0).toNat_lt
 have h1 := (b.getD (4 * j + 1) 0).toNat_lt
 have h2 := (b.getD (4 * j + 2) 0).toNat_lt
 have h3 := (b.getD (4 * j + 3) 0).toNat_lt
 rw [colA_nat, colA_nat, colA_nat, colA_nat, z]
 rw [Nat.add_zero] at *
 omega
def colS (b : List UInt8) (i : Nat) : List UInt32 := (List.range 4).map fun j => colA b j (min 4 (i - 4 * j))
theorem colS_at (b : List UInt8) (i : Nat) (h : i < 16) : (cells32 (colS b i))[i / 4]? = some (.int .u32 ((colA b (i / 4) (i % 4)).toNat : Int)) := by
 unfold colS
 rw [rangeW_at _ _ _ (by omega), show min 4 (i - 4 * (i / 4)) = i % 4 by omega]
theorem colS_set (b : List UInt8) (i : Nat) : (cells32 (colS b i)).set (i / 4) (.int .u32 ((colA b (i / 4) (i % 4 + 1)).toNat : Int)) = cells32 (colS b (i + 1)) := by
 have e : (colS b i).set (i / 4) (colA b (i / 4) (i % 4 + 1)) = colS b (i + 1) := by
  refine List.ext_getElem (by simp [colS]) fun t h1 h2 => ?_
  have ht : t < 4 := by simpa [colS] using h2
  rw [List.getElem_set]
  simp only [colS, List.getElem_map, List.getElem_range]
  by_cases hi : i / 4 = t
  ·subst hi; rw [if_pos rfl, show min 4 (i + 1 - 4 * (i / 4)) = i % 4 + 1 by omega]
  ·rw [if_neg hi, show min 4 (i + 1 - 4 * t) = min 4 (i - 4 * t) by omega]
 rw [← e]
 unfold cells32
 rw [List.map_set]
theorem colS_none (b : List UInt8) : cells32 (colS b 0) = List.replicate 4 (.int .u32 0) := by simp [colS, colA, cells32]; rfl
theorem colS_done (b : List UInt8) : colS b 16 = wordsL4 b := by
 unfold colS
 refine wordsL_of _ _ fun j hj => ?_
 rw [show min 4 (16 - 4 * j) = 4 by omega, colA_four]
theorem by4_wd (l : List UInt8) (i : Nat) : by4 (wd l (i / 4)) (i % 4) = l.getD i 0 := by
 unfold wd
 have h := by4_w4 (l.getD (4 * (i / 4)) 0) (l.getD (4 * (i / 4) + 1) 0) (l.getD (4 * (i / 4) + 2) 0) (l.getD (4 * (i / 4) + 3) 0)
 rcases (by omega : i % 4 = 0 ∨ i % 4 = 1 ∨ i % 4 = 2 ∨ i % 4 = 3) with e | e | e | e <;> rw [e]
 ·rw [h.1]; congr 1; omega
 ·rw [h.2.1]; congr 1; omega
 ·rw [h.2.2.1]; congr 1; omega
 ·rw [h.2.2.2]; congr 1; omega
theorem range_getD (l : List UInt8) (n : Nat) (h : l.length = n) : ((List.range n).map fun i => l.getD i 0) = l := by
 refine List.ext_getElem (by simp [h]) fun i h1 h2 => ?_
 simp [List.getD, List.getElem?_eq_getElem h2]
end Go.Proofs.YtcehkafddlfleaaGreatDoor

namespace Go.Proofs.YtcehkafddlfleaaGreatDoor
open Go.RowKit
def zero4 : List Value := List.replicate 4 (.int .u32 0)
theorem tyState : Ty Tryz.prog 343 zero4 := ⟨by kernel_rfl⟩
theorem rwState : Rw Tryz.prog 343 (.array 4 201) 4 := ⟨by kernel_rfl, rfl, by kernel_rfl⟩
theorem tyBytes : Ty Tryz.prog 72 zero16 := ⟨by kernel_rfl⟩
theorem rwBytes : Rw Tryz.prog 72 (.array 16 5) 16 := ⟨by kernel_rfl, rfl, by kernel_rfl⟩
theorem sub_val (p q r s : UInt8) : bits .or .u32 (bits .or .u32 (bits .or .u32 (IntKind.u32.wrap (IntKind.u32.wrap (p.toNat : Int) * 16777216)) (IntKind.u32.wrap (IntKind.u32.wrap (q.toNat : Int) * 65536))) (IntKind.u32.wrap (IntKind.u32.wrap (r.toNat : Int) * 256))) (IntKind.u32.wrap (s.toNat : Int)) = ((w4 p q r s).toNat : Int) := by
 have hp := p.toNat_lt; have hq := q.toNat_lt; have hr := r.toNat_lt; have hs := s.toNat_lt
 have e1 : IntKind.u32.wrap (IntKind.u32.wrap (p.toNat : Int) * 16777216) = ((w4 p 0 0 0).toNat : Int) := by rw [w4_nat, IntKind.wrap_u32, IntKind.wrap_u32]; simp; omega
 have e2 : IntKind.u32.wrap (IntKind.u32.wrap (q.toNat : Int) * 65536) = ((w4 0 q 0 0).toNat : Int) := by rw [w4_nat, IntKind.wrap_u32, IntKind.wrap_u32]; simp; omega
 have e3 : IntKind.u32.wrap (IntKind.u32.wrap (r.toNat : Int) * 256) = ((w4 0 0 r 0).toNat : Int) := by rw [w4_nat, IntKind.wrap_u32, IntKind.wrap_u32]; simp; omega
 have e4 : IntKind.u32.wrap (s.toNat : Int) = ((w4 0 0 0 s).toNat : Int) := by rw [w4_nat, IntKind.wrap_u32]; simp; omega
 rw [e1, e2, e3, e4, u32_or', u32_or', u32_or', w4_or, w4_or, w4_or]
 simp
theorem box_at {w : World} {g : Nat} {t : TypeId} {bx : List UInt8} (h : Blk w g t (cells8 bx)) (hl : bx.length = 256) (x : UInt8) : w.cell? ⟨g, x.toNat, none⟩ = some (.int .u8 ((bx.getD x.toNat 0).toNat : Int)) := by
 have hx : x.toNat < bx.length := by rw [hl]; exact x.toNat_lt
 rw [h.cell? x.toNat, cells8_at bx _ hx]
 simp [List.getD, List.getElem?_eq_getElem hx]
set_option maxRecDepth 100000 in
set_option maxHeartbeats 2000000 in
theorem sub_any (x : UInt32) (g : Nat) (t : TypeId) (bx : List UInt8) (w : World) (hb : Blk w g t (cells8 bx)) (hl : bx.length = 256) :
  Calls Tryz.prog 259 #[.int .u32 x.toNat, .pointer (some ⟨g, 0, none⟩)] w fun e w' => e = .returned (.int .u32 (subN4 bx x).toNat) ∧ w' = w.drew := by
 have HV : Kp _ := ⟨sub_val (bx.getD (by4 x 0).toNat 0) (bx.getD (by4 x 1).toNat 0) (bx.getD (by4 x 2).toNat 0) (bx.getD (by4 x 3).toNat 0)⟩
 have c0 := box_at hb hl (by4 x 0)
 have c1 := box_at hb hl (by4 x 1)
 have c2 := box_at hb hl (by4 x 2)
 have c3 := box_at hb hl (by4 x 3)
 have r0 : IntKind.u8.wrap ((x.toNat : Int) / 16777216) = ((by4 x 0).toNat : Int) := by rw [IntKind.wrap_u8]; exact row_val x 0 24 rfl
 have r1 : IntKind.u8.wrap ((x.toNat : Int) / 65536) = ((by4 x 1).toNat : Int) := by rw [IntKind.wrap_u8]; exact row_val x 1 16 rfl
 have r2 : IntKind.u8.wrap ((x.toNat : Int) / 256) = ((by4 x 2).toNat : Int) := by rw [IntKind.wrap_u8]; exact row_val x 2 8 rfl
 have r3 : IntKind.u8.wrap (x.toNat : Int) = ((by4 x 3).toNat : Int) := by rw [IntKind.wrap_u8]; have h := row_val x 3 0 rfl; simpa using h
 have HS : Kp (subN4 bx x = w4 (bx.getD (by4 x 0).toNat 0) (bx.getD (by4 x 1).toNat 0) (bx.getD (by4 x 2).toNat 0) (bx.getD (by4 x 3).toNat 0)) := ⟨rfl⟩
 generalize bx.getD (by4 x 0).toNat 0 = y0 at *
 generalize bx.getD (by4 x 1).toNat 0 = y1 at *
 generalize bx.getD (by4 x 2).toNat 0 = y2 at *
 generalize bx.getD (by4 x 3).toNat 0 = y3 at *
 have b0 := (by4 x 0).toNat_lt
 have b1 := (by4 x 1).toNat_lt
 have b2 := (by4 x 2).toNat_lt
 have b3 := (by4 x 3).toNat_lt
 generalize (by4 x 0).toNat = i0 at *
 generalize (by4 x 1).toNat = i1 at *
 generalize (by4 x 2).toNat = i2 at *
 generalize (by4 x 3).toNat = i3 at *
 have l0 : (i0 : Int) < 256 := by omega
 have l1 : (i1 : Int) < 256 := by omega
 have l2 : (i2 : Int) < 256 := by omega
 have l3 : (i3 : Int) < 256 := by omega
 clear hb hl b0 b1 b2 b3
 go_enter Tryz.func259, Tryz.ntmps259
 go_wp2_with fail
 go_still (by kernel_rfl)
 change Exit.then _ _ _ _ w.drew
 clear r0 r1 r2 r3 c0 c1 c2 c3 l0 l1 l2 l3
 go_wp2
 go_ret
 refine ⟨?_, rfl⟩
 show Ending.returned (.int .u32 _) = _
 rw [HV.out, HS.out]
end Go.Proofs.YtcehkafddlfleaaGreatDoor

namespace Go.Proofs.YtcehkafddlfleaaGreatDoor
open Go.RowKit
theorem sel_val (p q r s : UInt32) : bits .or .u32 (bits .or .u32 (bits .or .u32 (bits .and .u32 (p.toNat : Int) 4278190080) (bits .and .u32 (q.toNat : Int) 16711680)) (bits .and .u32 (r.toNat : Int) 65280)) (bits .and .u32 (s.toNat : Int) 255) = ((selW p q r s).toNat : Int) := by
 have e1 : (4278190080 : Int) = ((4278190080 : UInt32).toNat : Int) := rfl
 have e2 : (16711680 : Int) = ((16711680 : UInt32).toNat : Int) := rfl
 have e3 : (65280 : Int) = ((65280 : UInt32).toNat : Int) := rfl
 have e4 : (255 : Int) = ((255 : UInt32).toNat : Int) := rfl
 rw [e1, e2, e3, e4, u32_and', u32_and', u32_and', u32_and', u32_or', u32_or', u32_or']
 rfl
set_option maxRecDepth 100000 in
set_option maxHeartbeats 4000000 in
theorem shift_any (l : List UInt8) (gx : Nat) (t : TypeId) (bx : List UInt8) (w : World) (hb : Blk w gx t (cells8 bx)) (hl : bx.length = 256) :
  Calls Tryz.prog 277 #[.agg (cells32 (wordsL4 l)).toArray, .pointer (some ⟨gx, 0, none⟩)] w fun e w' => e = .returned (.agg (cells32 (wordsL4 (shiftL l bx 16))).toArray) ∧ Below w.heap.size w w' := by
 have HX : Kp _ := ⟨hb⟩
 have HLx : Kp (bx.length = 256) := ⟨hl⟩
 have hgx := hb.lt
 clear hb hl
 go_enter Tryz.func277, Tryz.ntmps277
 go_wp2_with (with_reducible refine wpList_box (o := ⟨some 2, _, _, _, _, _⟩) rfl (.tmp 0) rfl rfl ?_)
 intro w1 hk1 hb1 hs1
 have HK1 : Kp _ := ⟨hk1⟩
 clear hk1 hs1
 go_wp2_with (with_reducible refine wpList_alloc (o := ⟨some 4, _, _, _, _, _⟩) tyState rfl rfl ?_)
 intro w2 hk2 hb2 hs2
 have HR2 : Kp _ := ⟨hk2⟩
 have HK12 : Kp _ := ⟨HK1.out.below hb2 HK1.out.lt⟩
 have hB2 : Below w.heap.size w w2 := hb1.trans (hb2.mono hb1.size)
 have n1 : w.heap.size < w1.heap.size := HK1.out.lt
 clear hk2 hs2 hb1 hb2 HK1
 go_wp2_with (with_reducible refine wpList_alloc (o := ⟨some 5, _, _, _, _, _⟩) tyState rfl rfl ?_)
 intro w3 hk3 hb3 hs3
 have HR3 : Kp _ := ⟨HR2.out.below hb3 HR2.out.lt⟩
 have HK13 : Kp _ := ⟨HK12.out.below hb3 HK12.out.lt⟩
 have HK3 : Kp (Blk w3 w2.heap.size 343 (cells32 (partW4 (fun j => subN4 bx (selW (wd l j) (wd l ((j + 1) % 4)) (wd l ((j + 2) % 4)) (wd l ((j + 3) % 4)))) (fun _ => 0) 4 0))) := ⟨by rw [partW_none]; exact hk3⟩
 have n2 : w1.heap.size < w2.heap.size := HR2.out.lt
 have hB3 : Below w.heap.size w w3 := hB2.trans (hb3.mono hB2.size)
 have HX3 : Kp _ := ⟨HX.out.below hB3 hgx⟩
 obtain ⟨g1, hg1⟩ : ∃ g, g = w1.heap.size := ⟨_, rfl⟩
 obtain ⟨g2, hg2⟩ : ∃ g, g = w2.heap.size := ⟨_, rfl⟩
 rw [← hg1] at HR3 n1 n2 ⊢
 rw [← hg2] at HK3 n2 ⊢
 clear hk3 hs3 hb3 HR2 HK12 hB2 hg1 hg2 HX
 go_wp2
 go_loopw [10] (fun vi wr => ∃ i : Nat, i ≤ 4 ∧ vi = .int .i64 i ∧ Kp (Blk wr g2 343 (cells32 (partW4 (fun j => subN4 bx (selW (wd l j) (wd l ((j + 1) % 4)) (wd l ((j + 2) % 4)) (wd l ((j + 3) % 4)))) (fun _ => 0) 4 i))) ∧ Only g2 w3 wr) (fun vi _ => 4 - (intOf vi).toNat)
 case atStart => exact ⟨0, by omega, rfl, HK3, Only.refl _ _⟩
 case round =>
  clear HK3
  obtain ⟨i, hi, rfl, HB, ho⟩ := hrel
  by_cases hlt : i < 4
  ·have HKr : Kp _ := ⟨HK13.out.only ho (by omega)⟩
   have c0 := (HKr.out.cell? i).trans (wordsL_at l i hlt)
   have c1 := (HKr.out.cell? ((i + 1) % 4)).trans (wordsL_at l ((i + 1) % 4) (by omega))
   have c2 := (HKr.out.cell? ((i + 2) % 4)).trans (wordsL_at l ((i + 2) % 4) (by omega))
   have c3 := (HKr.out.cell? ((i + 3) % 4)).trans (wordsL_at l ((i + 3) % 4) (by omega))
   have HXr : Kp _ := ⟨HX3.out.only ho (by omega)⟩
   have hco := (HB.out.cell? i).trans (partW_at4 (fun j => subN4 bx (selW (wd l j) (wd l ((j + 1) % 4)) (wd l ((j + 2) % 4)) (wd l ((j + 3) % 4)))) (fun _ => 0) 4 i hlt)
   have hfo := HB.out.frozen i
   have HSet : Kp ((cells32 (partW4 (fun j => subN4 bx (selW (wd l j) (wd l ((j + 1) % 4)) (wd l ((j + 2) % 4)) (wd l ((j + 3) % 4)))) (fun _ => 0) 4 i)).set i (.int .u32 ((subN4 bx (selW (wd l i) (wd l ((i + 1) % 4)) (wd l ((i + 2) % 4)) (wd l ((i + 3) % 4)))).toNat : Int)) = _) := ⟨partW_set _ (fun _ => 0) 4 i⟩
   have HV : Kp _ := ⟨sel_val (wd l i) (wd l ((i + 1) % 4)) (wd l ((i + 2) % 4)) (wd l ((i + 3) % 4))⟩
   obtain ⟨i1, h1⟩ : ∃ q, q = (i + 1) % 4 := ⟨_, rfl⟩
   obtain ⟨i2, h2⟩ : ∃ q, q = (i + 2) % 4 := ⟨_, rfl⟩
   obtain ⟨i3, h3⟩ : ∃ q, q = (i + 3) % 4 := ⟨_, rfl⟩
   rw [← h1] at c1
   rw [← h2] at c2
   rw [← h3] at c3
   have HV2 : Kp (bits .or .u32 (bits .or .u32 (bits .or .u32 (bits .and .u32 ((wd l i).toNat : Int) 4278190080) (bits .and .u32 ((wd l i1).toNat : Int) 16711680)) (bits .and .u32 ((wd l i2).toNat : Int) 65280)) (bits .and .u32 ((wd l i3).toNat : Int) 255) = ((selW (wd l i) (wd l ((i + 1) % 4)) (wd l ((i + 2) % 4)) (wd l ((i + 3) % 4))).toNat : Int)) := ⟨by rw [h1, h2, h3]; exact HV.out⟩
   have a1 : ((i : Int) + 1).tmod 4 = (i1 : Int) := by rw [Int.tmod_eq_emod_of_nonneg (by omega)]; omega
   have a2 : ((i : Int) + 2).tmod 4 = (i2 : Int) := by rw [Int.tmod_eq_emod_of_nonneg (by omega)]; omega
   have a3 : ((i : Int) + 3).tmod 4 = (i3 : Int) := by rw [Int.tmod_eq_emod_of_nonneg (by omega)]; omega
   have b1 : IntKind.i64.wrap ((i : Int) + 1) = (i : Int) + 1 := by rw [IntKind.wrap_i64]; omega
   have b2 : IntKind.i64.wrap ((i : Int) + 2) = (i : Int) + 2 := by rw [IntKind.wrap_i64]; omega
   have b3 : IntKind.i64.wrap ((i : Int) + 3) = (i : Int) + 3 := by rw [IntKind.wrap_i64]; omega
   have d1 : (i1 : Int) < 4 := by omega
   have d2 : (i2 : Int) < 4 := by omega
   have d3 : (i3 : Int) < 4 := by omega
   have hi4 : (i : Int) < 4 := by omega
   generalize selW (wd l i) (wd l ((i + 1) % 4)) (wd l ((i + 2) % 4)) (wd l ((i + 3) % 4)) = x at *
   generalize wd l i = y0 at *
   generalize wd l i1 = y1 at *
   generalize wd l i2 = y2 at *
   generalize wd l i3 = y3 at *
   clear h1 h2 h3 HV HKr
   go_wp2_with fail
   go_still (by kernel_rfl)
   change Exit.then _ _ _ _ wr.drew
   have c0' : wr.drew.cell? ⟨w.heap.size, i, none⟩ = some (.int .u32 (y0.toNat : Int)) := c0
   clear c0 c1 c2 c3
   go_wp2_with fail
   rw [HV2.out]
   refine (sub_any x gx t bx wr.drew HXr.out.drew HLx.out).mono ?_
   rintro e w' ⟨rfl, rfl⟩
   generalize subN4 bx x = y at *
   have hco2 : wr.drew.drew.cell? ⟨g2, i, none⟩ = _ := hco
   have hfo2 : wr.drew.drew.frozen? ⟨g2, i, none⟩ = false := hfo
   clear hco hfo c0' HV2 a1 a2 a3 b1 b2 b3 d1 d2 d3
   go_wp2
   refine ⟨⟨i + 1, by omega, by go_num, ⟨?_⟩, ((ho.drew).drew.trans (Only.setCell wr.drew.drew ⟨g2, i, none⟩ _))⟩, by simp [intOf]; omega⟩
   have h3 := (HB.out.drew.drew.set i (.int .u32 (y.toNat : Int)))
   rw [HSet.out] at h3
   exact h3
  ·obtain rfl : i = 4 := by omega
   have HD : Kp (Blk wr g2 343 (cells32 (wordsL4 (shiftL l bx 16)))) := ⟨by
    have h := HB.out
    rw [partW_done, wordsL_of _ (shiftL l bx 16) (fun j hj => shift_wd l bx j hj)] at h
    exact h⟩
   have HLen : Kp ((cells32 (wordsL4 (shiftL l bx 16))).length = 4) := ⟨by rw [cells32_length, wordsL_length4]⟩
   have HZ : Kp (zero4.length = 4) := ⟨rfl⟩
   have HRr : Kp _ := ⟨HR3.out.only ho (by omega)⟩
   generalize hL : wordsL4 (shiftL l bx 16) = L at *
   have HL : Kp _ := ⟨hL⟩
   clear HB hL
   go_wp2_with (first
    | (with_reducible refine wpList_loadAll (o := ⟨some 46, _, _, _, _, _⟩) rwState rfl (.tmp 5) rfl rfl HD.out HLen.out ?_)
    | (with_reducible refine wpList_storeAll (o := ⟨none, _, _, _, _, _⟩) (vs := cells32 L) rwState rfl (.tmp 4) (.tmp 46) rfl rfl HRr.out HZ.out HLen.out (cells32_one _) rfl ?_))
   intro w5 hk5 ho5
   have HK5 : Kp _ := ⟨hk5⟩
   clear hk5
   go_wp2
   exact ret_arr rfl rwState rfl HK5.out HLen.out rfl ⟨by first | rfl | rw [HL.out], (hB3.trans (ho.below (by omega))).trans (ho5.below (by omega))⟩
theorem mix_words (l : List UInt8) (j : Nat) (h : j < 4) : ∃ a b c d : UInt8, wd l j = w4 a b c d ∧ wd (mixL l 16) j = w4 (xt (a ^^^ b)) (xt (b ^^^ c)) (xt (c ^^^ d)) (xt (d ^^^ a)) ^^^ w4 b c d a ^^^ w4 c d a b ^^^ w4 d a b c := by
 refine ⟨_, _, _, _, rfl, ?_⟩
 have h2 := mix_wd l j h
 apply UInt32.toNat_inj.1
 rw [← h2]
 unfold wd
 rw [mix_w4, w4_xor, w4_xor, w4_xor]
theorem plainU32 : Plain1 Tryz.prog 201 := ⟨by kernel_rfl, by kernel_rfl⟩
theorem turn_8 (a b c d : UInt8) (w : World) : Calls Tryz.prog 260 #[.int .u32 (w4 a b c d).toNat, .int .i64 8] w fun e w' => e = .returned (.int .u32 (w4 b c d a).toNat) ∧ ∃ q, w' = w.drewN q := by
 have h := turn32_any (w4 a b c d) 8 w (by decide) (by decide)
 rw [rot8] at h; exact h
theorem turn_16 (a b c d : UInt8) (w : World) : Calls Tryz.prog 260 #[.int .u32 (w4 a b c d).toNat, .int .i64 16] w fun e w' => e = .returned (.int .u32 (w4 c d a b).toNat) ∧ ∃ q, w' = w.drewN q := by
 have h := turn32_any (w4 a b c d) 16 w (by decide) (by decide)
 rw [rot16] at h; exact h
theorem turn_24 (a b c d : UInt8) (w : World) : Calls Tryz.prog 260 #[.int .u32 (w4 a b c d).toNat, .int .i64 24] w fun e w' => e = .returned (.int .u32 (w4 d a b c).toNat) ∧ ∃ q, w' = w.drewN q := by
 have h := turn32_any (w4 a b c d) 24 w (by decide) (by decide)
 rw [rot24] at h; exact h
theorem dblAll_w4 (a b c d : UInt8) (w : World) : Calls Tryz.prog 282 #[.int .u32 (w4 (a ^^^ b) (b ^^^ c) (c ^^^ d) (d ^^^ a)).toNat] w fun e w' => e = .returned (.int .u32 (w4 (xt (a ^^^ b)) (xt (b ^^^ c)) (xt (c ^^^ d)) (xt (d ^^^ a))).toNat) ∧ w' = w := by
 have h := dblAll_any (w4 (a ^^^ b) (b ^^^ c) (c ^^^ d) (d ^^^ a)) w
 rw [dbl_w4] at h; exact h
set_option maxRecDepth 100000 in
set_option maxHeartbeats 4000000 in
theorem mix_any (l : List UInt8) (w : World) :
  Calls Tryz.prog 276 #[.agg (cells32 (wordsL4 l)).toArray] w fun e w' => e = .returned (.agg (cells32 (wordsL4 (mixL l 16))).toArray) ∧ Below w.heap.size w w' := by
 go_enter Tryz.func276, Tryz.ntmps276
 go_wp2_with (with_reducible refine wpList_box (o := ⟨some 1, _, _, _, _, _⟩) rfl (.tmp 0) rfl rfl ?_)
 intro w1 hk1 hb1 hs1
 have HK1 : Kp _ := ⟨hk1⟩
 clear hk1 hs1
 go_wp2_with (with_reducible refine wpList_alloc (o := ⟨some 2, _, _, _, _, _⟩) tyState rfl rfl ?_)
 intro w2 hk2 hb2 hs2
 have HR2 : Kp _ := ⟨hk2⟩
 have HK12 : Kp (Blk w2 w.heap.size 343 (cells32 (partW4 (wd (mixL l 16)) (wd l) 4 0))) := ⟨by rw [partW_none]; exact HK1.out.below hb2 HK1.out.lt⟩
 have HW : Kp _ := ⟨HK1.out.below hb2 HK1.out.lt⟩
 have HLw : Kp ((cells32 (wordsL4 l)).length = 4) := ⟨by rw [cells32_length, wordsL_length4]⟩
 have hB2 : Below w.heap.size w w2 := hb1.trans (hb2.mono hb1.size)
 have n1 : w.heap.size < w1.heap.size := HK1.out.lt
 obtain ⟨g1, hg1⟩ : ∃ g, g = w1.heap.size := ⟨_, rfl⟩
 rw [← hg1] at HR2 n1 ⊢
 clear hk2 hs2 hb1 hb2 HK1 hg1
 go_wp2_with (with_reducible refine wpList_loadAll (o := ⟨some 6, _, _, _, _, _⟩) rwState rfl (.tmp 1) rfl rfl HW.out HLw.out ?_)
 clear HW HLw
 go_wp2
 go_loopw [7] (fun vi wr => ∃ i : Nat, i ≤ 4 ∧ vi = .int .i64 i ∧ Kp (Blk wr w.heap.size 343 (cells32 (partW4 (wd (mixL l 16)) (wd l) 4 i))) ∧ Only w.heap.size w2 wr) (fun vi _ => 4 - (intOf vi).toNat)
 case atStart => exact ⟨0, by omega, rfl, HK12, Only.refl _ _⟩
 case round =>
  clear HK12
  obtain ⟨i, hi, rfl, HB, ho⟩ := hrel
  by_cases hlt : i < 4
  ·have hco := (HB.out.cell? i).trans (partW_at4 (wd (mixL l 16)) (wd l) 4 i hlt)
   have hfo := HB.out.frozen i
   have HSet : Kp _ := ⟨partW_set (wd (mixL l 16)) (wd l) 4 i⟩
   obtain ⟨a, b, c, d, hx, hy⟩ := mix_words l i hlt
   have hidx := run_index_agg (P := Tryz.prog) (t := 343) Tryz.underlying343 plainU32 (cells32 (wordsL4 l)) .i64 i hlt _ (wordsL_at l i hlt) wr
   rw [hx] at hco hidx
   have HY : Kp _ := ⟨hy⟩
   have hi4 : (i : Int) < 4 := by omega
   have hxx : bits .xor .u32 ((w4 a b c d).toNat : Int) ((w4 b c d a).toNat : Int) = ((w4 (a ^^^ b) (b ^^^ c) (c ^^^ d) (d ^^^ a)).toNat : Int) := by rw [u32_xor', w4_xor]
   clear hx hy
   go_wp2_with fail
   refine (turn_8 a b c d _).mono ?_
   rintro e w' ⟨rfl, q8, rfl⟩
   clear hidx
   go_wp2_with fail
   refine (dblAll_w4 a b c d _).mono ?_
   rintro e w' ⟨rfl, rfl⟩
   generalize hD : w4 (xt (a ^^^ b)) (xt (b ^^^ c)) (xt (c ^^^ d)) (xt (d ^^^ a)) = D at *
   clear hxx hD
   go_wp2_with fail
   refine (turn_16 a b c d _).mono ?_
   rintro e w' ⟨rfl, q16, rfl⟩
   go_wp2_with fail
   refine (turn_24 a b c d _).mono ?_
   rintro e w' ⟨rfl, q24, rfl⟩
   have HB2 : Kp _ := ⟨HB.out.drewN (q8 + q16 + q24)⟩
   have ho2 := ho.drewN (q8 + q16 + q24)
   generalize w4 a b c d = W0 at *
   generalize w4 b c d a = W8 at *
   generalize w4 c d a b = W16 at *
   generalize w4 d a b c = W24 at *
   clear HB ho
   go_wp2
   refine ⟨⟨i + 1, by omega, by go_num, ⟨?_⟩, ho2.trans (Only.setCell (wr.drewN (q8 + q16 + q24)) ⟨w.heap.size, i, none⟩ _)⟩, by simp [intOf]; omega⟩
   rw [u32_xor', u32_xor', u32_xor', ← HY.out]
   have h3 := HB2.out.set i (.int .u32 ((wd (mixL l 16) i).toNat : Int))
   rw [HSet.out] at h3
   exact h3
  ·obtain rfl : i = 4 := by omega
   have HD : Kp (Blk wr w.heap.size 343 (cells32 (wordsL4 (mixL l 16)))) := ⟨by
    have h := HB.out
    rw [partW_done] at h
    exact h⟩
   have HLen : Kp ((cells32 (wordsL4 (mixL l 16))).length = 4) := ⟨by rw [cells32_length, wordsL_length4]⟩
   have HZ : Kp (zero4.length = 4) := ⟨rfl⟩
   have HRr : Kp _ := ⟨HR2.out.only ho (by omega)⟩
   generalize hL : wordsL4 (mixL l 16) = L at *
   have HL : Kp _ := ⟨hL⟩
   clear HB hL
   go_wp2_with (first
    | (with_reducible refine wpList_loadAll (o := ⟨some 28, _, _, _, _, _⟩) rwState rfl (.tmp 1) rfl rfl HD.out HLen.out ?_)
    | (with_reducible refine wpList_storeAll (o := ⟨none, _, _, _, _, _⟩) (vs := cells32 L) rwState rfl (.tmp 2) (.tmp 28) rfl rfl HRr.out HZ.out HLen.out (cells32_one _) rfl ?_))
   intro w5 hk5 ho5
   have HK5 : Kp _ := ⟨hk5⟩
   clear hk5
   go_wp2
   exact ret_arr rfl rwState rfl HK5.out HLen.out rfl ⟨by first | rfl | rw [HL.out], (hB2.trans (ho.below (by omega))).trans (ho5.below (by omega))⟩
end Go.Proofs.YtcehkafddlfleaaGreatDoor
