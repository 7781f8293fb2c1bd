/- 
   
   
    -/
import Derived.Test.YtcehkafddlfleaaGreatDoorG23
import Derived.Test.YtcehkafddlfleaaGreatDoorG30
import Derived.Test.YtcehkafddlfleaaGreatDoorG02
import Derived.Deep.RegionHeld3
import Derived.StillTailTactics
namespace Go.Proofs.YtcehkafddlfleaaGreatDoor
open Go.RowKit
theorem Blk.all {W : World} {g : Nat} {t : TypeId} {cs : List Value} (h : Blk W g t cs) : W.rangeAt g 0 cs := h.range (n := cs.length) (by rw [List.drop_zero, List.take_length])
structure SD (w0 W : World) (g1 : Nat) (t1 : TypeId) (c1 : List Value) (g2 : Nat) (t2 : TypeId) (c2 : List Value) : Prop where
 below : Below w0.heap.size w0 W
 a : Blk W g1 t1 c1
 b : Blk W g2 t2 c2
 la : g1 < w0.heap.size
 lb : g2 < w0.heap.size
theorem SD.next {w0 W W' : World} {g1 g2 : Nat} {t1 t2 : TypeId} {c1 c2 : List Value} (h : SD w0 W g1 t1 c1 g2 t2 c2) (hb : Below W.heap.size W W') : SD w0 W' g1 t1 c1 g2 t2 c2 :=
 ⟨h.below.trans (hb.mono h.below.size), h.a.below hb h.a.lt, h.b.below hb h.b.lt, h.la, h.lb⟩
theorem SD.drew {w0 W : World} {g1 g2 : Nat} {t1 t2 : TypeId} {c1 c2 : List Value} (h : SD w0 W g1 t1 c1 g2 t2 c2) : SD w0 W.drew g1 t1 c1 g2 t2 c2 := ⟨h.below.drew, h.a.drew, h.b.drew, h.la, h.lb⟩
structure SH (w0 W : World) (g1 : Nat) (t1 : TypeId) (c1 : List Value) (g2 : Nat) (t2 : TypeId) (c2 : List Value) (g3 : Nat) (t3 : TypeId) (c3 : List Value) : Prop where
 sd : SD w0 W g1 t1 c1 g2 t2 c2
 c : Blk W g3 t3 c3
 lc : g3 < w0.heap.size
theorem SH.next {w0 W W' : World} {g1 g2 g3 : Nat} {t1 t2 t3 : TypeId} {c1 c2 c3 : List Value} (h : SH w0 W g1 t1 c1 g2 t2 c2 g3 t3 c3) (hb : Below W.heap.size W W') : SH w0 W' g1 t1 c1 g2 t2 c2 g3 t3 c3 :=
 ⟨h.sd.next hb, h.c.below hb h.c.lt, h.lc⟩
theorem SH.drew {w0 W : World} {g1 g2 g3 : Nat} {t1 t2 t3 : TypeId} {c1 c2 c3 : List Value} (h : SH w0 W g1 t1 c1 g2 t2 c2 g3 t3 c3) : SH w0 W.drew g1 t1 c1 g2 t2 c2 g3 t3 c3 := ⟨h.sd.drew, h.c.drew, h.lc⟩
def xorL (key hd b : List UInt8) : List UInt8 := addL4 (strL (strF key hd) 256) b 256
theorem xorL_length (key hd b : List UInt8) : (xorL key hd b).length = 256 := addL4_length _ _ _
def hideL (key : List UInt8) (e s : Nat) (b : List UInt8) : List UInt8 := headL e s ++ xorL key (headL e s) (pad256 b)
theorem hideL_length (key : List UInt8) (e s : Nat) (b : List UInt8) : (hideL key e s b).length = 272 := by simp [hideL, headL_length, xorL_length]
def showL (key b : List UInt8) : List UInt8 := xorL key (b.take 16) (b.drop 16)
theorem Blk.whole {W : World} {g : Nat} {t : TypeId} {l : List UInt8} {n : Nat} (h : Blk W g t (cells8 l)) (hl : l.length = n) (hm : n ≤ maxLen) : Bs W W.heap.size (some ⟨g, 0, none⟩) n n l :=
 h.bytes h.lt (by rw [List.drop_zero, List.take_of_length_le (by rw [cells8_length]; omega)]) hl n (Nat.le_refl _) hm
end Go.Proofs.YtcehkafddlfleaaGreatDoor

namespace Go.Proofs.YtcehkafddlfleaaGreatDoor
open Go.RowKit
set_option maxRecDepth 100000 in
set_option maxHeartbeats 4000000 in
theorem hide_any (key : List UInt8) (e s : Nat) (A : Option Addr) (n c : Nat) (b : List UInt8) (w : World) (hk : key.length = 16) (he : e < 18446744073709551616) (hs : s < 4294967296) (hn : n ≤ 256) (ha : Bs w w.heap.size A n c b) :
  Calls Tryz.prog 140 #[.agg (cells8 key).toArray, .int .u64 e, .int .u32 s, .slice A n c] w fun x w' => ∃ A' c', x = .returned (.tuple #[.slice A' 272 c', .int .i64 0]) ∧ BsN w.heap.size w' A' 272 c' (hideL key e s b) ∧ Below w.heap.size w w' := by
 have HA : Kp _ := ⟨ha⟩
 have HK : Kp _ := ⟨hk⟩
 have HKl : Kp ((cells8 key).length = 16) := ⟨by rw [cells8_length]; exact hk⟩
 have HPl : Kp ((pad256 b).length = 256) := ⟨pad256_length b (by have := ha.len; omega)⟩
 have HHl : Kp ((headL e s).length = 16) := ⟨headL_length e s⟩
 have HXl : Kp ((hideL key e s b).length = 272) := ⟨hideL_length key e s b⟩
 clear ha hk
 have heI : (e : Int) < 18446744073709551616 := by omega
 have hsI : (s : Int) < 4294967296 := by omega
 go_enter Tryz.func140, Tryz.ntmps140
 go_wp2_with (with_reducible refine wpList_box (o := ⟨some 4, _, _, _, _, _⟩) rfl (.tmp 0) rfl rfl ?_)
 intro w1 hk1 hb1 hs1
 have HA1 : Kp _ := ⟨HA.out.next hb1 (Nat.le_refl _)⟩
 have HB1 : Kp _ := ⟨hk1⟩
 clear hk1 hs1 HA
 go_wp2_with fail
 refine (fill_ok A n c b w1 HA1.out hn).mono ?_
 rintro x w2 ⟨rfl, hb2⟩
 have HB2 : Kp _ := ⟨HB1.out.below hb2 HB1.out.lt⟩
 have hB2 := hb1.trans (hb2.mono hb1.size)
 have h1 := HB1.out.lt
 clear HA1 HB1 hb1
 obtain ⟨P, hP⟩ : ∃ P, P = pad256 b := ⟨_, rfl⟩
 have HGP : Kp _ := ⟨hP⟩
 have HPc : Kp ((cells8 P).length = 256) := ⟨by rw [cells8_length, hP]; exact HPl.out⟩
 have HZc : Kp ((cells8 z256).length = 256) := ⟨by rw [cells8_length]; exact z256_length⟩
 have HOne : Kp (∀ v ∈ cells8 P, v.oneCell' = true) := ⟨cells8_one _⟩
 rw [← hP] at HPl ⊢
 clear hP
 go_wp2_with (with_reducible refine wpList_alloc (o := ⟨some 10, _, _, _, _, _⟩) ty256 rfl rfl ?_)
 intro w3 hk3 hb3 hs3
 have HK3 : Kp _ := ⟨hk3⟩
 have HB3 : Kp _ := ⟨HB2.out.below hb3 HB2.out.lt⟩
 have hB3 := hB2.trans (hb3.mono hB2.size)
 have h2 : w.heap.size < w2.heap.size := HB2.out.lt
 obtain ⟨gp, hgp⟩ : ∃ g, g = w2.heap.size := ⟨_, rfl⟩
 rw [← hgp] at HK3 h2 ⊢
 clear hk3 hs3 hb3 hB2 HB2 hgp hb2 h1
 go_wp2_with (with_reducible refine wpList_storeAll (o := ⟨none, _, _, _, _, _⟩) (vs := cells8 P) rw256 rfl (.tmp 10) (.tmp 16) rfl rfl HK3.out HZc.out HPc.out HOne.out rfl ?_)
 intro w4 hk4 ho4
 have HP4 : Kp _ := ⟨hk4⟩
 have HB4 : Kp _ := ⟨HB3.out.only ho4 (by omega)⟩
 have hB4 := hB3.trans (ho4.below (Nat.le_of_lt h2))
 clear hk4 ho4 HK3 HB3 hB3
 go_wp2_with fail
 refine (head_any e s w4 he hs).mono ?_
 rintro x w5 ⟨rfl, hb5⟩
 have HP5 : Kp _ := ⟨HP4.out.below hb5 HP4.out.lt⟩
 have HB5 : Kp _ := ⟨HB4.out.below hb5 HB4.out.lt⟩
 have hB5 := hB4.trans (hb5.mono hB4.size)
 have h5 : gp < w5.heap.size := HP5.out.lt
 clear hb5 HP4 HB4 hB4
 obtain ⟨X, hX⟩ : ∃ P, P = hideL key e s b := ⟨_, rfl⟩
 have HGX : Kp _ := ⟨hX⟩
 rw [← hX] at HXl
 obtain ⟨Hd, hH⟩ : ∃ P, P = headL e s := ⟨_, rfl⟩
 have HGX2 : Kp (Hd ++ xorL key Hd P = X) := ⟨by rw [hX, hideL, ← hH, HGP.out]⟩
 rw [← hH] at HHl ⊢
 have HHc : Kp ((cells8 Hd).length = 16) := ⟨by rw [cells8_length]; exact HHl.out⟩
 have HZn : Kp (zero16.length = 16) := ⟨rfl⟩
 have HOnh : Kp (∀ v ∈ cells8 Hd, v.oneCell' = true) := ⟨cells8_one _⟩
 clear hX hH
 go_wp2_with (with_reducible refine wpList_alloc (o := ⟨some 12, _, _, _, _, _⟩) tyNonce rfl rfl ?_)
 intro w6 hk6 hb6 hs6
 have HK6 : Kp _ := ⟨hk6⟩
 have HP6 : Kp _ := ⟨HP5.out.below hb6 HP5.out.lt⟩
 have HB6 : Kp _ := ⟨HB5.out.below hb6 HB5.out.lt⟩
 have hB6 := hB5.trans (hb6.mono hB5.size)
 obtain ⟨gh, hgh⟩ : ∃ g, g = w5.heap.size := ⟨_, rfl⟩
 have h6 : gp < gh := by omega
 have h7 : w.heap.size < gh := by omega
 rw [← hgh] at HK6 ⊢
 clear hk6 hs6 hb6 hB5 HB5 HP5 hgh h5
 go_wp2_with (with_reducible refine wpList_storeAll (o := ⟨none, _, _, _, _, _⟩) (vs := cells8 Hd) rwNonce rfl (.tmp 12) (.tmp 24) rfl rfl HK6.out HZn.out HHc.out HOnh.out rfl ?_)
 intro w7 hk7 ho7
 have HS : Kp (SH w7 w7 w.heap.size 76 (cells8 key) gh 73 (cells8 Hd) gp 286 (cells8 P)) :=
  ⟨⟨⟨Below.refl _ _, HB6.out.only ho7 (by omega), hk7, (HB6.out.only ho7 (by omega)).lt, hk7.lt⟩, HP6.out.only ho7 (by omega), (HP6.out.only ho7 (by omega)).lt⟩⟩
 have hB7 := hB6.trans (ho7.below (Nat.le_of_lt h7))
 clear hk7 ho7 HK6 HB6 HP6 hB6 h2 h6 h7 HZn HZc HOne HOnh
 go_wp2_with fail
 refine wp_region_held_drew (S := fun W => SH w7 W w.heap.size 76 (cells8 key) gh 73 (cells8 Hd) gp 286 (cells8 P)) (by kernel_rfl) (HS.out.drew) (fun hHeld => ?_)
 generalize w7.drew = wS at *
 refine wU 0 25 ?_ rfl ?_
 try simp only [Act.put, sA, sB, sC]
 refine wpAnyH_take (i := 1) (oi := ⟨some 26, _, _, _, _, _⟩) (v := _) rfl (by kernel_rfl) (by kernel_rfl) (by kernel_rfl) (fun _ _ _ h => h) (yieldsIf_load_mid (by rfl) 76 (.tmp 4) rfl w.heap.size 0 rfl (cells8 key) _ (fun W hW => hW.sd.a.all) rwKey.ty rwKey.row (by rw [rwKey.size, HKl.out])) (by assumption) ?_
 try simp only [Act.put, sA, sB, sC]
 refine wpAnyH_take (i := 3) (oi := ⟨some 28, _, _, _, _, _⟩) (v := _) rfl (by kernel_rfl) (by kernel_rfl) (by kernel_rfl) (fun _ _ _ h => h) (yieldsIf_load_mid (by rfl) 73 (.tmp 12) rfl gh 0 rfl (cells8 Hd) _ (fun W hW => hW.sd.b.all) rwNonce.ty rwNonce.row (by rw [rwNonce.size, HHc.out])) (by assumption) ?_
 try simp only [Act.put, sA, sB, sC]
 refine wU 4 29 ?_ rfl ?_
 try simp only [Act.put, sA, sB, sC]
 refine rH [2] ?_
 refine aH 27 rfl fun K hK => ?_
 go_simp
 refine (aesnew_any key wS HK.out).mono ?_
 rintro x w51 ⟨gc, rfl, hci, hb'⟩
 have HC : Kp _ := ⟨hci⟩
 refine hK.out _ _ (hHeld.next hb') (fun hHeld2 => ?_)
 clear hb' hci
 clear hK K hHeld
 have hHeld := hHeld2
 clear hHeld2
 try simp only [Act.put, sA, sB, sC]
 refine rH [5] ?_
 refine aH 30 rfl fun K hK => ?_
 have HBp : Kp _ := ⟨hHeld.c.whole HPl.out (by simp [maxLen])⟩
 go_simp
 refine (xor_any gc key Hd (some ⟨gp, 0, none⟩) 256 256 P w51 HC.out HHl.out HBp.out (by omega)).mono ?_
 rintro x w52 ⟨A5, d5, rfl, hx5, hb'⟩
 have HX5 : Kp _ := ⟨hx5.bs⟩
 refine hK.out _ _ (hHeld.next hb') (fun hHeld2 => ?_)
 clear hb' hx5 HC HBp
 clear hK K hHeld
 have hHeld := hHeld2
 clear hHeld2
 try simp only [Act.put, sA, sB, sC]
 refine rH [6] ?_
 refine aH 31 rfl fun K hK => ?_
 have HL2 : Kp _ := ⟨ls_two w52 29 (hHeld.sd.b.whole HHl.out (by simp [maxLen])) HX5.out⟩
 go_simp
 refine hK.out _ _ (hHeld.next ((Below.refl _ _).alloc (Nat.le_refl _) _)) (fun hHeld2 => ?_)
 clear HX5
 clear hK K hHeld
 have hHeld := hHeld2
 clear hHeld2
 try simp only [Act.put, sA, sB, sC]
 refine rH [7] ?_
 refine aH 32 rfl fun K hK => ?_
 go_simp
 refine (joinL_any _ _ _ _ 272 X _ HL2.out (by rw [← HGX2.out]; simp [xorL]) HXl.out (by omega)).mono ?_
 rintro x w54 ⟨A6, d6, rfl, hx6, hb'⟩
 have HX6 : Kp _ := ⟨hx6.low (L' := w.heap.size) (by have h1 := hB7.size; have h2 := hHeld.sd.below.size; exact Nat.le_trans h1 h2)⟩
 refine hK.out _ _ (hHeld.next hb') (fun hHeld2 => ?_)
 clear hb' hx6 HL2
 clear hK K hHeld
 have hHeld := hHeld2
 clear hHeld2
 try simp only [Act.put, sA, sB, sC]
 refine wU 8 8 ?_ rfl ?_
 try simp only [Act.put, sA, sB, sC]
 refine wU 9 9 ?_ rfl ?_
 try simp only [Act.put, sA, sB, sC]
 refine wpAnyH_done (by kernel_rfl) ?_ _
 have hB := hB7.trans (hHeld.sd.below.mono hB7.size)
 clear hHeld
 go_wp2
 go_ret2
 exact ⟨A6, d6, rfl, by rw [← HGX.out]; exact HX6.out, hB⟩
end Go.Proofs.YtcehkafddlfleaaGreatDoor

namespace Go.Proofs.YtcehkafddlfleaaGreatDoor
open Go.RowKit
def wrongL (b : List UInt8) : Prop := b.length ≠ 272 ∨ (b.drop 12).take 4 ≠ z4
theorem cut_right (A : Option Addr) (n c : Nat) (b : List UInt8) (h : ¬ wrongL b) (W : World) (ha : Bs W W.heap.size A n c b) :
  Calls Tryz.prog 207 #[.slice A n c] W fun e w' => e = .returned (.tuple #[.agg (cells8 b).toArray, .nilIface]) ∧ Below W.heap.size W w' := by
 have hl := ha.len
 have h1 : b.length = 272 := by
  rcases Nat.decEq b.length 272 with h3 | h3
  ·exact absurd (.inl h3) h
  ·exact h3
 refine (cut_any A n c b W ha (by omega)).mono ?_
 rintro e w' ⟨⟨_, rfl⟩ | ⟨h2, _⟩, hb⟩
 ·exact ⟨rfl, hb⟩
 ·exact absurd (.inr h2) h
set_option maxRecDepth 100000 in
set_option maxHeartbeats 4000000 in
theorem show_any (key : List UInt8) (A : Option Addr) (n c : Nat) (b : List UInt8) (w : World) (hk : key.length = 16) (ha : Bs w w.heap.size A n c b) (h : ¬ wrongL b) :
  Calls Tryz.prog 151 #[.agg (cells8 key).toArray, .slice A n c] w fun x w' => ∃ A' c', x = .returned (.tuple #[.slice A' 256 c', .int .i64 0]) ∧ BsN w.heap.size w' A' 256 c' (showL key b) ∧ Below w.heap.size w w' := by
 have HA : Kp _ := ⟨ha⟩
 have HK : Kp _ := ⟨hk⟩
 have HKl : Kp ((cells8 key).length = 16) := ⟨by rw [cells8_length]; exact hk⟩
 have HCut : Kp _ := ⟨cut_right A n c b h⟩
 have hbl : b.length = 272 := Classical.not_not.1 fun h3 => h (.inl h3)
 have HBc : Kp ((cells8 b).length = 272) := ⟨by rw [cells8_length]; exact hbl⟩
 have HLh : Kp ((b.take 16).length = 16) := ⟨by simp [hbl]⟩
 have HLt : Kp ((b.drop 16).length = 256) := ⟨by simp [hbl]⟩
 have HLc : Kp ((cells8 (b.take 16)).length = 16) := ⟨by rw [cells8_length]; exact HLh.out⟩
 clear ha hk h hbl
 go_enter Tryz.func151, Tryz.ntmps151
 go_wp2_with (with_reducible refine wpList_box (o := ⟨some 2, _, _, _, _, _⟩) rfl (.tmp 0) rfl rfl ?_)
 intro w1 hk1 hb1 hs1
 have HA1 : Kp _ := ⟨HA.out.next hb1 (Nat.le_refl _)⟩
 have HB1 : Kp _ := ⟨hk1⟩
 clear hk1 hs1 HA
 go_wp2_with fail
 refine (HCut.out w1 HA1.out).mono ?_
 rintro x w2 ⟨rfl, hb2⟩
 have hB2 := hb1.trans (hb2.mono hb1.size)
 have HZc : Kp ((cells8 z272).length = 272) := ⟨by rw [cells8_length]; exact z272_length⟩
 have HOne : Kp (∀ v ∈ cells8 b, v.oneCell' = true) := ⟨cells8_one _⟩
 go_wp2_with (with_reducible refine wpList_alloc (o := ⟨some 6, _, _, _, _, _⟩) tyKept rfl rfl ?_)
 intro w3 hk3 hb3 hs3
 have HK3 : Kp _ := ⟨hk3⟩
 have hB3 := hB2.trans (hb3.mono hB2.size)
 have h2 := hB2.size
 have HB2 : Kp _ := ⟨HB1.out.below hb2 HB1.out.lt⟩
 have HB3 : Kp _ := ⟨HB2.out.below hb3 HB2.out.lt⟩
 have h3 : w.heap.size < w2.heap.size := HB2.out.lt
 obtain ⟨gp, hgp⟩ : ∃ g, g = w2.heap.size := ⟨_, rfl⟩
 rw [← hgp] at HK3 h2 h3 ⊢
 clear hk3 hs3 hgp
 go_wp2_with (with_reducible refine wpList_storeAll (o := ⟨none, _, _, _, _, _⟩) (vs := cells8 b) rwKept rfl (.tmp 6) (.tmp 11) rfl rfl HK3.out HZc.out HBc.out HOne.out rfl ?_)
 intro w4 hk4 ho4
 have HP4 : Kp _ := ⟨hk4⟩
 have hB4 := hB3.trans (ho4.below h2)
 have HB4 : Kp _ := ⟨HB3.out.only ho4 (by omega)⟩
 have HS : Kp (SD w4 w4 w.heap.size 76 (cells8 key) gp 305 (cells8 b)) := ⟨⟨Below.refl _ _, HB4.out, hk4, HB4.out.lt, hk4.lt⟩⟩
 have HRh : Kp (∀ W, Blk W gp 305 (cells8 b) → W.rangeAt gp 0 (cells8 (b.take 16))) := ⟨fun W hW => hW.range (n := 16) (by rw [List.drop_zero]; simp [cells8, List.map_take])⟩
 have HBt : Kp (∀ W, Blk W gp 305 (cells8 b) → Bs W W.heap.size (some ⟨gp, 16, none⟩) 256 256 (b.drop 16)) := ⟨fun W hW => hW.bytes (o := 16) hW.lt (by rw [List.take_of_length_le (by rw [List.length_drop, HBc.out]; decide)]; simp [cells8, List.map_drop]) HLt.out 256 (Nat.le_refl _) (by simp [maxLen])⟩
 clear hk4 ho4 HK3 HB1 HB2 HB3 HB4 hB3 HP4 h2 h3 HA1 hB2 hb1 hb2 hb3 HCut HZc HOne HBc
 go_wp2_with fail
 refine wp_region_held_drew (S := fun W => SD w4 W w.heap.size 76 (cells8 key) gp 305 (cells8 b)) (by kernel_rfl) (HS.out.drew) (fun hHeld => ?_)
 generalize w4.drew = wS at *
 refine wpAnyH_take (i := 0) (oi := ⟨some 17, _, _, _, _, _⟩) (v := _) rfl (by kernel_rfl) (by kernel_rfl) (by kernel_rfl) (fun _ _ _ h => h) (yieldsIf_load_mid (by rfl) 76 (.tmp 2) rfl w.heap.size 0 rfl (cells8 key) _ (fun W hW => hW.a.all) rwKey.ty rwKey.row (by rw [rwKey.size, HKl.out])) (by assumption) ?_
 try simp only [Act.put, sA, sB, sC]
 refine wU 2 19 ?_ rfl ?_
 try simp only [Act.put, sA, sB, sC]
 refine wpAnyH_take (i := 3) (oi := ⟨some 20, _, _, _, _, _⟩) (v := _) rfl (by kernel_rfl) (by kernel_rfl) (by kernel_rfl) (fun _ _ _ h => h) (yieldsIf_load_mid (by rfl) 73 (.tmp 19) rfl gp 0 rfl (cells8 (b.take 16)) _ (fun W hW => HRh.out W hW.b) rwNonce.ty rwNonce.row (by rw [rwNonce.size, HLc.out])) (by assumption) ?_
 try simp only [Act.put, sA, sB, sC]
 refine wU 4 21 ?_ rfl ?_
 try simp only [Act.put, sA, sB, sC]
 refine wU 5 22 ?_ rfl ?_
 try simp only [Act.put, sA, sB, sC]
 refine rH [1] ?_
 refine aH 18 rfl fun K hK => ?_
 go_simp
 refine (aesnew_any key wS HK.out).mono ?_
 rintro x w51 ⟨gc, rfl, hci, hb'⟩
 have HC : Kp _ := ⟨hci⟩
 refine hK.out _ _ (hHeld.next hb') (fun hHeld2 => ?_)
 clear hb' hci
 clear hK K hHeld
 have hHeld := hHeld2
 clear hHeld2
 try simp only [Act.put, sA, sB, sC]
 refine rH [6] ?_
 refine aH 23 rfl fun K hK => ?_
 have HBp : Kp _ := ⟨HBt.out _ hHeld.b⟩
 go_simp
 refine (xor_any gc key (b.take 16) (some ⟨gp, 16, none⟩) 256 256 (b.drop 16) w51 HC.out HLh.out HBp.out (by omega)).mono ?_
 rintro x w52 ⟨A5, d5, rfl, hx5, hb'⟩
 have HX5 : Kp _ := ⟨hx5.low (Nat.le_trans hB4.size hHeld.below.size)⟩
 refine hK.out _ _ (hHeld.next hb') (fun hHeld2 => ?_)
 clear hb' hx5 HC HBp
 clear hK K hHeld
 have hHeld := hHeld2
 clear hHeld2
 try simp only [Act.put, sA, sB, sC]
 refine wU 7 4 ?_ rfl ?_
 try simp only [Act.put, sA, sB, sC]
 refine wU 8 5 ?_ rfl ?_
 try simp only [Act.put, sA, sB, sC]
 refine wpAnyH_done (by kernel_rfl) ?_ _
 have hB := hB4.trans (hHeld.below.mono hB4.size)
 clear hHeld
 go_wp2
 go_ret2
 exact ⟨A5, d5, rfl, HX5.out, hB⟩
theorem get_st (A : Option Addr) (n c : Nat) (xs : List UInt8) (w : World) (L : Nat) (ha : Bs w L A n c xs) :
  Calls Tryz.prog 208 #[.slice A n c] w fun e w' => e = .returned (.int .u64 (getN (xs.drop (n - 8)))) ∧ w' = w := (get_any A n c xs w L ha).mono fun _ _ h => ⟨h.1, h.2.symm⟩
set_option maxRecDepth 100000 in
set_option maxHeartbeats 4000000 in
theorem when_any (A : Option Addr) (n c : Nat) (b : List UInt8) (w : World) (ha : Bs w w.heap.size A n c b) (h : ¬ wrongL b) :
  Calls Tryz.prog 152 #[.slice A n c] w fun x w' => x = .returned (.tuple #[.int .u64 (getN (b.take 8) : Nat), .int .u32 (getN ((b.drop 8).take 4) : Nat), .int .i64 0]) ∧ Below w.heap.size w w' := by
 have HA1 : Kp _ := ⟨ha⟩
 have HCut : Kp _ := ⟨cut_right A n c b h⟩
 have hbl : b.length = 272 := Classical.not_not.1 fun h3 => h (.inl h3)
 have HBc : Kp ((cells8 b).length = 272) := ⟨by rw [cells8_length]; exact hbl⟩
 have HL8 : Kp ((b.take 8).length = 8) := ⟨by simp [hbl]⟩
 have HL4 : Kp (((b.drop 8).take 4).length = 4) := ⟨by simp [hbl]⟩
 have hb1 : Below w.heap.size w w := Below.refl _ _
 clear ha h hbl
 go_enter Tryz.func152, Tryz.ntmps152
 go_wp2_with fail
 refine (HCut.out w HA1.out).mono ?_
 rintro x w2 ⟨rfl, hb2⟩
 have hB2 := hb1.trans (hb2.mono hb1.size)
 have HZc : Kp ((cells8 z272).length = 272) := ⟨by rw [cells8_length]; exact z272_length⟩
 have HOne : Kp (∀ v ∈ cells8 b, v.oneCell' = true) := ⟨cells8_one _⟩
 go_wp2_with (with_reducible refine wpList_alloc (o := ⟨some 5, _, _, _, _, _⟩) tyKept rfl rfl ?_)
 intro w3 hk3 hb3 hs3
 have HK3 : Kp _ := ⟨hk3⟩
 have hB3 := hB2.trans (hb3.mono hB2.size)
 have h2 := hB2.size
 obtain ⟨gp, hgp⟩ : ∃ g, g = w2.heap.size := ⟨_, rfl⟩
 rw [← hgp] at HK3 h2 ⊢
 clear hk3 hs3 hgp
 go_wp2_with (with_reducible refine wpList_storeAll (o := ⟨none, _, _, _, _, _⟩) (vs := cells8 b) rwKept rfl (.tmp 5) (.tmp 10) rfl rfl HK3.out HZc.out HBc.out HOne.out rfl ?_)
 intro w4 hk4 ho4
 have HP4 : Kp _ := ⟨hk4⟩
 have hB4 := hB3.trans (ho4.below h2)
 have HG1 : Kp (∀ W, Blk W gp 305 (cells8 b) → Bs W W.heap.size (some ⟨gp, 0, none⟩) 8 16 (b.take 8)) := ⟨fun W hW => hW.bytes (o := 0) hW.lt (by rw [List.drop_zero]; simp [cells8, List.map_take]) HL8.out 16 (by omega) (by simp [maxLen])⟩
 have HG2 : Kp (∀ W, Blk W gp 305 (cells8 b) → Bs W W.heap.size (some ⟨gp, 8, none⟩) 4 8 ((b.drop 8).take 4)) := ⟨fun W hW => hW.bytes (o := 8) hW.lt (by simp [cells8, List.map_take, List.map_drop]) HL4.out 8 (by omega) (by simp [maxLen])⟩
 have hlt : getN ((b.drop 8).take 4) < 4294967296 := by have := getN_lt ((b.drop 8).take 4); rw [HL4.out] at this; exact this
 obtain ⟨N1, hN1⟩ : ∃ N, N = getN (b.take 8) := ⟨_, rfl⟩
 obtain ⟨N2, hN2⟩ : ∃ N, N = getN ((b.drop 8).take 4) := ⟨_, rfl⟩
 have HN1 : Kp _ := ⟨hN1⟩
 have HN2 : Kp _ := ⟨hN2⟩
 rw [← hN2] at hlt
 have hltI : (N2 : Int) < 4294967296 := by omega
 have HC1 : Kp (∀ W, Blk W gp 305 (cells8 b) → Calls Tryz.prog 208 #[.slice (some ⟨gp, 0, none⟩) 8 16] W fun e w' => e = .returned (.int .u64 (N1 : Nat)) ∧ w' = W) := ⟨fun W hW => by
  have h1 := get_st _ _ _ _ W _ (HG1.out W hW)
  rwa [show 8 - 8 = 0 from rfl, List.drop_zero, ← hN1] at h1⟩
 have HC2 : Kp (∀ W, Blk W gp 305 (cells8 b) → Calls Tryz.prog 208 #[.slice (some ⟨gp, 8, none⟩) 4 8] W fun e w' => e = .returned (.int .u64 (N2 : Nat)) ∧ w' = W) := ⟨fun W hW => by
  have h1 := get_st _ _ _ _ W _ (HG2.out W hW)
  rwa [show 4 - 8 = 0 from rfl, List.drop_zero, ← hN2] at h1⟩
 have HS : Kp (SD w4 w4 gp 305 (cells8 b) gp 305 (cells8 b)) := ⟨⟨Below.refl _ _, hk4, hk4, hk4.lt, hk4.lt⟩⟩
 clear hk4 ho4 HK3 hB3 HP4 h2 HA1 hB2 hb1 hb2 hb3 HCut HZc HOne HBc hN1 hN2 HG1 HG2
 go_wp2_with fail
 refine wp_region_held_drew (S := fun W => SD w4 W gp 305 (cells8 b) gp 305 (cells8 b)) (by kernel_rfl) (HS.out.drew) (fun hHeld => ?_)
 generalize w4.drew = wS at *
 refine wU 0 16 ?_ rfl ?_
 try simp only [Act.put, sA, sB, sC]
 refine wU 1 17 ?_ rfl ?_
 try simp only [Act.put, sA, sB, sC]
 refine wU 3 19 ?_ rfl ?_
 try simp only [Act.put, sA, sB, sC]
 refine wU 4 20 ?_ rfl ?_
 try simp only [Act.put, sA, sB, sC]
 refine rH [2] ?_
 refine aH 18 rfl fun K hK => ?_
 go_simp
 refine (HC1.out wS hHeld.a).mono ?_
 rintro x w51 ⟨rfl, rfl⟩
 refine hK.out _ _ hHeld (fun hHeld2 => ?_)
 clear hK K hHeld
 have hHeld := hHeld2
 clear hHeld2
 try simp only [Act.put, sA, sB, sC]
 refine rH [5] ?_
 refine aH 21 rfl fun K hK => ?_
 go_simp
 refine (HC2.out w51 hHeld.a).mono ?_
 rintro x w52 ⟨rfl, rfl⟩
 refine hK.out _ _ hHeld (fun hHeld2 => ?_)
 clear hK K hHeld
 have hHeld := hHeld2
 clear hHeld2
 try simp only [Act.put, sA, sB, sC]
 refine wU 6 22 ?_ rfl ?_
 try simp only [Act.put, sA, sB, sC]
 refine wU 7 2 ?_ rfl ?_
 try simp only [Act.put, sA, sB, sC]
 refine wU 8 3 ?_ rfl ?_
 try simp only [Act.put, sA, sB, sC]
 refine wU 9 4 ?_ rfl ?_
 try simp only [Act.put, sA, sB, sC]
 refine wpAnyH_done (by kernel_rfl) ?_ _
 have hB := hB4.trans (hHeld.below.mono hB4.size)
 clear hHeld
 go_wp2
 refine bodyPost_ret (results_tmp3 rfl _ _ _) rfl ?_
 refine ⟨?_, hB⟩
 rw [← HN1.out, ← HN2.out]
 show Ending.returned (.tuple #[.int .u64 (N1 : Int), .int .u32 (IntKind.u32.wrap (N2 : Int)), .int .i64 0]) = _
 rw [IntKind.wrap_u32, Int.emod_eq_of_lt (by omega) hltI]
end Go.Proofs.YtcehkafddlfleaaGreatDoor

namespace Go.Proofs.YtcehkafddlfleaaGreatDoor
theorem addL_twice (S b : List UInt8) (n : Nat) (h : b.length = n) : addL4 S (addL4 S b n) n = b := by
 refine List.ext_getElem (by rw [addL4_length, h]) fun i h1 h2 => ?_
 have hi : i < n := by rw [addL4_length] at h1; exact h1
 have e : (addL4 S b n).getD i 0 = S.getD i 0 ^^^ b.getD i 0 := by
  simp [addL4, List.getD, List.getElem?_map, List.getElem?_range hi]
 have e2 : b.getD i 0 = b[i] := by simp [List.getD, List.getElem?_eq_getElem h2]
 simp only [addL4, List.getElem_map, List.getElem_range]
 have e3 := e
 simp only [addL4] at e3
 rw [e3, e2, ← UInt8.xor_assoc, UInt8.xor_self, UInt8.zero_xor]
theorem xorL_twice (key hd b : List UInt8) (h : b.length = 256) : xorL key hd (xorL key hd b) = b := addL_twice _ _ _ h
theorem headL_take8 (e s : Nat) : (headL e s).take 8 = putN e 8 := by
 unfold headL
 rw [List.take_append_of_le_length (by rw [putN_length]; exact Nat.le_refl _), List.take_of_length_le (by rw [putN_length]; exact Nat.le_refl _)]
theorem headL_drop8 (e s : Nat) : (headL e s).drop 8 = putN s 4 ++ putN 0 4 := by
 unfold headL
 rw [List.drop_append_of_le_length (by rw [putN_length]; exact Nat.le_refl _), List.drop_of_length_le (by rw [putN_length]; exact Nat.le_refl _), List.nil_append]
theorem headL_seq (e s : Nat) : ((headL e s).drop 8).take 4 = putN s 4 := by
 rw [headL_drop8, List.take_append_of_le_length (by rw [putN_length]; exact Nat.le_refl _), List.take_of_length_le (by rw [putN_length]; exact Nat.le_refl _)]
theorem headL_rest (e s : Nat) : ((headL e s).drop 12).take 4 = z4 := by
 rw [show (headL e s).drop 12 = ((headL e s).drop 8).drop 4 by rw [List.drop_drop], headL_drop8, List.drop_append_of_le_length (by rw [putN_length]; exact Nat.le_refl _), List.drop_of_length_le (by rw [putN_length]; exact Nat.le_refl _), List.nil_append, putN_zeros]
 rfl
theorem getN_put8 (e : Nat) (h : e < 18446744073709551616) : getN (putN e 8) = e := by rw [getN_putN]; exact Nat.mod_eq_of_lt h
theorem getN_put4 (s : Nat) (h : s < 4294967296) : getN (putN s 4) = s := by rw [getN_putN]; exact Nat.mod_eq_of_lt h
section
variable (key : List UInt8) (e s : Nat) (b : List UInt8)
theorem hideL_take : (hideL key e s b).take 16 = headL e s := by
 unfold hideL
 rw [List.take_append_of_le_length (by rw [headL_length]; exact Nat.le_refl _), List.take_of_length_le (by rw [headL_length]; exact Nat.le_refl _)]
theorem hideL_drop : (hideL key e s b).drop 16 = xorL key (headL e s) (pad256 b) := by
 unfold hideL
 rw [List.drop_append_of_le_length (by rw [headL_length]; exact Nat.le_refl _), List.drop_of_length_le (by rw [headL_length]; exact Nat.le_refl _), List.nil_append]
theorem take_in (l : List UInt8) (i k : Nat) (h : i + k ≤ 16) : (l.drop i).take k = ((l.take 16).drop i).take k := by
 rw [List.drop_take, List.take_take, Nat.min_eq_left (by omega)]
theorem hideL_right : ¬ wrongL (hideL key e s b) := by
 rintro (h | h)
 ·exact h (hideL_length key e s b)
 ·refine h ?_
  rw [take_in _ 12 4 (by omega), hideL_take, headL_rest]
theorem hideL_epoch (he : e < 18446744073709551616) : getN ((hideL key e s b).take 8) = e := by
 have h := take_in (hideL key e s b) 0 8 (by omega)
 rw [List.drop_zero, List.drop_zero, hideL_take, headL_take8] at h
 rw [h, getN_put8 e he]
theorem hideL_seq (hs : s < 4294967296) : getN (((hideL key e s b).drop 8).take 4) = s := by
 rw [take_in _ 8 4 (by omega), hideL_take, headL_seq, getN_put4 s hs]
theorem show_hide (hb : b.length ≤ 256) : showL key (hideL key e s b) = pad256 b := by
 unfold showL
 rw [hideL_take, hideL_drop, xorL_twice _ _ _ (pad256_length b hb)]
end
end Go.Proofs.YtcehkafddlfleaaGreatDoor
