/-  -/
import Derived.Test.YtcehkafddlfleaaGreatDoorG02
import Derived.Test.YtcehkafddlfleaaGreatDoorG17
import Derived.Test.YtcehkafddlfleaaGreatDoorG11
import Derived.Test.YtcehkafddlfleaaGreatDoorG24
import Derived.Test.YtcehkafddlfleaaGreatDoorG05
import Derived.Test.YtcehkafddlfleaaGreatDoorG10
import Derived.Test.YtcehkafddlfleaaGreatDoorG16
import Derived.Deep.CutRange
namespace Go.Proofs.YtcehkafddlfleaaGreatDoor
open Go.RowKit
theorem put8_any (N : Nat) (w : World) (h : N < 18446744073709551616) :
  Calls Tryz.prog 123 #[.int .u64 N, .int .i64 8] w fun e w' => ∃ A c, e = .returned (.slice A 8 c) ∧ Bs w' w'.heap.size A 8 c (putN N 8) ∧ Below w.heap.size w w' := by
 refine (put_any N 8 w h).mono ?_
 rintro e w' ⟨v, rfl, ho, hb⟩
 obtain ⟨A, c, rfl, hB⟩ := Bs.of_own ho
 exact ⟨A, c, rfl, hB, hb⟩
theorem put4_any (N : Nat) (w : World) (h : N < 18446744073709551616) :
  Calls Tryz.prog 123 #[.int .u64 N, .int .i64 4] w fun e w' => ∃ A c, e = .returned (.slice A 4 c) ∧ Bs w' w'.heap.size A 4 c (putN N 4) ∧ Below w.heap.size w w' := by
 refine (put_any N 4 w h).mono ?_
 rintro e w' ⟨v, rfl, ho, hb⟩
 obtain ⟨A, c, rfl, hB⟩ := Bs.of_own ho
 exact ⟨A, c, rfl, hB, hb⟩
theorem Ds.bs {w : World} {B : Nat} {b o n c : Nat} {ds : List (List UInt8)} (h : Ds w B (some ⟨b, o, none⟩) n c ds) {i : Nat} (hi : i < n) : Bs w B (some ⟨b, o + i * 32, none⟩) 32 32 (ds[i]'(by have := h.len; omega)) := by
 obtain ⟨b', o', e, hb, hc, hl⟩ := h.at hi
 cases e
 refine ⟨hl, Nat.le_refl _, by decide, (fun h => by cases h), fun _ => ⟨b, o + i * 32, rfl, hb, fun j hj => hc j _ (cells8_at _ j hj)⟩⟩
def headF (num b : Nat) (sl : List UInt8) : List (List UInt8) := [markL, putN num 8, putN b 4, sl]
theorem headF_flat (num b : Nat) (sl : List UInt8) (su : List (List UInt8)) : (headF num b sl ++ su).flatten = bodyL ⟨num, (b : Int), sl, su⟩ := by
 simp [headF, bodyL, List.append_assoc]
theorem enc_flat (key : List UInt8) (num b : Nat) (sl : List UInt8) (su : List (List UInt8)) : (headF num b sl ++ su ++ [hmacL key (bodyL ⟨num, (b : Int), sl, su⟩)]).flatten = encL key ⟨num, (b : Int), sl, su⟩ := by
 rw [List.flatten_append, headF_flat]; simp [encL]
set_option maxRecDepth 100000 in
set_option maxHeartbeats 8000000 in
theorem swrite_own (key : List UInt8) (KA : Option Addr) (kn kc : Nat) (r : Rc) (A : Option Addr) (n c : Nat) (D : Option Addr) (m e : Nat) (w : World) (hK : Bs w w.heap.size KA kn kc key) (hR : Rs w w.heap.size A n c D m e r) (ht : Rt r) (hkn : kn ≤ 524288) :
  Calls Tryz.prog 203 #[.slice KA kn kc, rcV r A n c D m e] w fun x w' => ∃ A' c', x = .returned (.slice A' (encL key r).length c') ∧ w'.ownsRow w.heap.size 5 1 (.slice A' (encL key r).length c') (encL key r).length (cells8 (encL key r)) ∧ Below w.heap.size w w' := by
 obtain ⟨num, blk, sl, su⟩ := r
 obtain ⟨b, rfl⟩ : ∃ b : Nat, blk = (b : Int) := ⟨blk.toNat, by have := ht.lo; simp at this ⊢; omega⟩
 have hb4 : b ≤ 4096 := by have := ht.hi; simp at this; omega
 have HB4 : Kp (b ≤ 4096) := ⟨hb4⟩
 have HLn : Kp (sl.length = n) := ⟨hR.sl.len⟩
 have HLm : Kp (su.length = m) := ⟨hR.su.len⟩
 have HN5 : Kp (n ≤ 512) := ⟨by have := ht.sl; have h2 := hR.sl.len; simp at this h2; omega⟩
 have HM2 : Kp (m ≤ 256) := ⟨by have := ht.su; have h2 := hR.su.len; simp at this h2; omega⟩
 have HNum : Kp (num < 18446744073709551616) := ⟨hR.num⟩
 have HK : Kp _ := ⟨hK⟩
 have HR : Kp _ := ⟨hR⟩
 have HKn : Kp _ := ⟨hkn⟩
 have wb : IntKind.u64.wrap (b : Int) = (b : Int) := by rw [IntKind.wrap_u64]; omega
 clear hK hR ht hkn hb4
 go_enter Tryz.func203, Tryz.ntmps203
 go_wp2_with (with_reducible refine wpList_box (o := ⟨some 3, _, _, _, _, _⟩) (cs := rcL num b A n c D m e) rfl (.tmp 1) rfl rfl ?_)
 intro w1 hk1 hb1 hs1
 have HK1 : Kp _ := ⟨hk1⟩
 have HB1 : Kp _ := ⟨hb1⟩
 clear hk1 hb1 hs1
 go_wp2_with fail
 obtain ⟨w2, hw2⟩ : ∃ x, x = w1.alloc (.cells #[.slice none 0 0] 33) := ⟨_, rfl⟩
 rw [← hw2]
 have hk2 : Blk w2 w1.heap.size 33 [.slice none 0 0] := by rw [hw2]; exact Blk.new w1 _ _
 have hb2 : Below w1.heap.size w1 w2 := by rw [hw2]; exact (Below.refl _ _).alloc (Nat.le_refl _) _
 clear hw2
 obtain ⟨g, hg⟩ : ∃ g, g = w1.heap.size := ⟨_, rfl⟩
 have HF2 : Kp (Fld w2 w1.heap.size w2.heap.size 0 none 0 []) := ⟨Fld.start w2 _ hk2⟩
 have HB2 : Kp (Below w.heap.size w w2) := ⟨HB1.out.trans (hb2.mono HB1.out.size)⟩
 have HKa : Kp (Blk w2 w.heap.size 63 (rcL num b A n c D m e)) := ⟨HK1.out.below hb2 HK1.out.lt⟩
 have HG : Kp (w.heap.size < w1.heap.size ∧ w1.heap.size < w2.heap.size) := ⟨HK1.out.lt, hk2.lt⟩
 rw [← hg] at HF2 HG ⊢
 have HKo : Kp (∀ W, Below g w2 W → Bs W W.heap.size KA kn kc key) := ⟨fun W h => (HK.out.below (HB2.out.trans (h.mono (Nat.le_of_lt HG.out.1)))).more (Nat.le_trans HB2.out.size (by have := h.size; exact this))⟩
 have HSo : Kp (∀ W, Below g w2 W → Bs W W.heap.size A n c sl) := ⟨fun W h => (HR.out.sl.below (HB2.out.trans (h.mono (Nat.le_of_lt HG.out.1)))).more (Nat.le_trans HB2.out.size (by have := h.size; exact this))⟩
 have HDo : Kp (∀ W, Below g w2 W → Ds W w.heap.size D m e su) := ⟨fun W h => (HR.out.su.below (HB2.out.trans (h.mono (Nat.le_of_lt HG.out.1))))⟩
 clear hk2 hb2 hg HK1 HB1 HK HR
 go_cut [23] from 10 to 22 (fun v23 wx => ∃ A3 c3, v23 = .tuple #[] ∧ Kp (Fld wx g w2.heap.size 4 A3 c3 (headF num b sl)) ∧ Kp (Below g w2 wx))
 case first =>
  have hBW : Below w2.heap.size w2 w2 := Below.refl _ _
  have hg2 : g ≤ w2.heap.size := Nat.le_of_lt HG.out.2
  go_wp2_with fail
  replace hBW := hBW.drew
  refine wp_region_held_drew (S := fun W => Below g w2 W) (by kernel_rfl) ((Below.refl _ _).drew) (fun hHeld => ?_)
  generalize w2.drew = wS at *
  refine wU 0 10 ?_ rfl ?_
  try simp only [Act.put, sA, sB, sC]
  refine wU 3 13 ?_ rfl ?_
  try simp only [Act.put, sA, sB, sC]
  refine wpAnyH_take (i := 4) (oi := ⟨some 14, _, _, _, _, _⟩) (v := _) rfl (by kernel_rfl) (by kernel_rfl) (by kernel_rfl) (fun _ _ _ h => h) (Or.inl ⟨by rfl, fun W hW => by have ce : W.cell? ⟨w.heap.size, 0, none⟩ = some (.int .u64 num) := (hW.cell (p := ⟨w.heap.size, 0, none⟩) HG.out.1).trans (HKa.out.cell? 0); go_simp; rfl⟩) (by assumption) ?_
  try simp only [Act.put, sA, sB, sC]
  refine wU 6 16 ?_ rfl ?_
  try simp only [Act.put, sA, sB, sC]
  refine wpAnyH_take (i := 7) (oi := ⟨some 17, _, _, _, _, _⟩) (v := _) rfl (by kernel_rfl) (by kernel_rfl) (by kernel_rfl) (fun _ _ _ h => h) (Or.inl ⟨by rfl, fun W hW => by have ce : W.cell? ⟨w.heap.size, 1, none⟩ = some (.int .i64 b) := (hW.cell (p := ⟨w.heap.size, 1, none⟩) HG.out.1).trans (HKa.out.cell? 1); go_simp; rfl⟩) (by assumption) ?_
  try simp only [Act.put, sA, sB, sC]
  refine wU 8 18 ?_ rfl ?_
  try simp only [Act.put, sA, sB, sC]
  refine wU 10 20 ?_ rfl ?_
  try simp only [Act.put, sA, sB, sC]
  refine wpAnyH_take (i := 11) (oi := ⟨some 21, _, _, _, _, _⟩) (v := _) rfl (by kernel_rfl) (by kernel_rfl) (by kernel_rfl) (fun _ _ _ h => h) (Or.inl ⟨by rfl, fun W hW => by have ce : W.cell? ⟨w.heap.size, 2, none⟩ = some (.slice A n c) := (hW.cell (p := ⟨w.heap.size, 2, none⟩) HG.out.1).trans (HKa.out.cell? 2); go_simp; rfl⟩) (by assumption) ?_
  try simp only [Act.put, sA, sB, sC]
  refine rH [1, 5] ?_
  refine AllReadyH.cons (o := ⟨some 11, _, _, _, _, _⟩) rfl (fun K hK => ?_) (aH 15 rfl fun K hK => ?_)
  ·go_simp
   have hsz := hBW.size
   have hb' : Below wS.heap.size wS (wS.alloc (.cells #[.int .u8 83, .int .u8 69, .int .u8 65, .int .u8 76] 5)) := (Below.refl _ _).alloc (Nat.le_refl _) _
   try replace HMr : Kp _ := ⟨raw_below HMr.out hb' (Nat.le_refl _)⟩
   try replace HM : Kp _ := ⟨HM.out.next hb' (Nat.le_refl _)⟩
   try replace H15 : Kp _ := ⟨H15.out.next hb' (Nat.le_refl _)⟩
   try replace H19 : Kp _ := ⟨H19.out.next hb' (Nat.le_refl _)⟩
   refine hK.out _ _ (hHeld.trans (hb'.mono (Nat.le_trans hg2 hBW.size))) (fun hHeld2 => ?_)
   replace hBW := hBW.trans (hb'.mono hBW.size)
   obtain ⟨gm, hgm⟩ : ∃ x, x = wS.heap.size := ⟨_, rfl⟩
   rw [← hgm]
   have HMr : Kp ((wS.alloc (.cells #[.int .u8 83, .int .u8 69, .int .u8 65, .int .u8 76] 5)).heap[gm]? = some (.cells (cells8 markL).toArray 5 (0, 0))) := ⟨by rw [hgm]; exact heap_alloc_new wS _⟩
   have HGm : Kp (w2.heap.size ≤ gm) := ⟨by rw [hgm]; exact hsz⟩
   clear hgm hb'
   generalize wS.alloc (.cells #[.int .u8 83, .int .u8 69, .int .u8 65, .int .u8 76] 5) = w51 at *
   clear hK K hHeld
   have hHeld := hHeld2
   clear hHeld2
   try simp only [Act.put, sA, sB, sC]
   refine rH [2, 5] ?_
   refine AllReadyH.cons (o := ⟨some 12, _, _, _, _, _⟩) rfl (fun K hK => ?_) (aH 15 rfl fun K hK => ?_)
   ·refine step_mark el8 Tryz.underlying5 rfl (.tmp 11) rfl rfl HMr.out ?_
    intro w52 fr2 hm2 ho hsame
    refine hK.out _ _ (hHeld.trans (ho.below (Nat.le_trans hg2 HGm.out))) (fun hHeld2 => ?_)
    have hsz' := ho.size
    replace hBW := hBW.trans (ho.below HGm.out)
    have HM : Kp (Bs w52 w52.heap.size (some ⟨gm, 0, none⟩) 4 4 markL) := ⟨raw_bs hm2 markL rfl 4 rfl (by decide)⟩
    try replace H15 : Kp _ := ⟨(H15.out.keep (fun p _ => hsame p)).more (Nat.le_of_eq hsz'.symm)⟩
    try replace H19 : Kp _ := ⟨(H19.out.keep (fun p _ => hsame p)).more (Nat.le_of_eq hsz'.symm)⟩
    clear HMr ho hsame hm2 hsz'
    clear hK K hHeld
    have hHeld := hHeld2
    clear hHeld2
    try simp only [Act.put, sA, sB, sC]
    refine rH [5] ?_
    refine aH 15 rfl fun K hK => ?_
    go_simp
    refine (put8_any num w52 HNum.out).mono ?_
    rintro e w53 ⟨A15, c15, rfl, hbs, hb'⟩
    try replace HMr : Kp _ := ⟨raw_below HMr.out hb' (Nat.le_refl _)⟩
    try replace HM : Kp _ := ⟨HM.out.next hb' (Nat.le_refl _)⟩
    try replace H15 : Kp _ := ⟨H15.out.next hb' (Nat.le_refl _)⟩
    try replace H19 : Kp _ := ⟨H19.out.next hb' (Nat.le_refl _)⟩
    refine hK.out _ _ (hHeld.trans (hb'.mono (Nat.le_trans hg2 hBW.size))) (fun hHeld2 => ?_)
    replace hBW := hBW.trans (hb'.mono hBW.size)
    have H15 : Kp _ := ⟨hbs⟩
    clear hb' hbs
    clear hK K hHeld
    have hHeld := hHeld2
    clear hHeld2
    try simp only [Act.put, sA, sB, sC]
    refine rH [9] ?_
    refine aH 19 rfl fun K hK => ?_
    go_simp
    refine (put4_any b w53 (by have := HB4.out; omega)).mono ?_
    rintro e w54 ⟨A19, c19, rfl, hbs, hb'⟩
    try replace HMr : Kp _ := ⟨raw_below HMr.out hb' (Nat.le_refl _)⟩
    try replace HM : Kp _ := ⟨HM.out.next hb' (Nat.le_refl _)⟩
    try replace H15 : Kp _ := ⟨H15.out.next hb' (Nat.le_refl _)⟩
    try replace H19 : Kp _ := ⟨H19.out.next hb' (Nat.le_refl _)⟩
    refine hK.out _ _ (hHeld.trans (hb'.mono (Nat.le_trans hg2 hBW.size))) (fun hHeld2 => ?_)
    replace hBW := hBW.trans (hb'.mono hBW.size)
    have H19 : Kp _ := ⟨hbs⟩
    clear hb' hbs
    clear hK K hHeld
    have hHeld := hHeld2
    clear hHeld2
    try simp only [Act.put, sA, sB, sC]
    refine rH [12] ?_
    refine aH 22 rfl fun K hK => ?_
    go_simp
    have hb' : Below w54.heap.size w54 (w54.alloc (.cells #[.slice (some ⟨gm, 0, none⟩) 4 4, .slice A15 8 c15, .slice A19 4 c19, .slice A n c] 29)) := (Below.refl _ _).alloc (Nat.le_refl _) _
    try replace HMr : Kp _ := ⟨raw_below HMr.out hb' (Nat.le_refl _)⟩
    try replace HM : Kp _ := ⟨HM.out.next hb' (Nat.le_refl _)⟩
    try replace H15 : Kp _ := ⟨H15.out.next hb' (Nat.le_refl _)⟩
    try replace H19 : Kp _ := ⟨H19.out.next hb' (Nat.le_refl _)⟩
    refine hK.out _ _ (hHeld.trans (hb'.mono (Nat.le_trans hg2 hBW.size))) (fun hHeld2 => ?_)
    replace hBW := hBW.trans (hb'.mono hBW.size)
    obtain ⟨gq, hgq⟩ : ∃ x, x = w54.heap.size := ⟨_, rfl⟩
    rw [← hgq]
    have HCl : Kp (∀ j u, ([.slice (some ⟨gm, 0, none⟩) 4 4, .slice A15 8 c15, .slice A19 4 c19, .slice A n c] : List Value)[j]? = some u → (w54.alloc (.cells #[.slice (some ⟨gm, 0, none⟩) 4 4, .slice A15 8 c15, .slice A19 4 c19, .slice A n c] 29)).cell? (Addr.add ⟨gq, 0, none⟩ j) = some u) := ⟨fun j u hu => by rw [hgq, Addr.add_lit, (Blk.new w54 29 [.slice (some ⟨gm, 0, none⟩) 4 4, .slice A15 8 c15, .slice A19 4 c19, .slice A n c]).cell? (0 + j), Nat.zero_add]; exact hu⟩
    clear hgq hb'
    generalize w54.alloc (.cells #[.slice (some ⟨gm, 0, none⟩) 4 4, .slice A15 8 c15, .slice A19 4 c19, .slice A n c] 29) = w55 at *
    clear hK K hHeld
    have hHeld := hHeld2
    clear hHeld2
    try simp only [Act.put, sA, sB, sC]
    refine rH [13] ?_
    refine aH 23 rfl fun K hK => ?_
    have HS4 := HSo.out w55 hHeld
    have HFl := HF2.out.below hBW
    go_simp
    refine ((write1_any ⟨gq, 0, none⟩ 4 4 w55 HFl rfl HCl.out (by intro u hu; simp at hu; rcases hu with rfl | rfl | rfl | rfl <;> rfl) (((((Fs.zero _ _ _).snoc HM.out (fun _ _ _ h => by cases h)).snoc H15.out (fun _ _ _ h => by cases h)).snoc H19.out (fun _ _ _ h => by cases h)).snoc HS4 (fun _ _ _ h => by cases h)) (by omega)) : Calls _ _ #[_, _] _ _).mono ?_
    rintro e w56 ⟨A3, c3, rfl, hfl3, hb'⟩
    refine hK.out _ _ (hHeld.trans hb') (fun hHeld2 => ?_)
    have HF3 : Kp _ := ⟨hfl3⟩
    clear hb' hfl3 hBW HFl HM H15 H19 HCl HS4
    clear hK K hHeld
    have hHeld := hHeld2
    clear hHeld2
    try simp only [Act.put, sA, sB, sC]
    refine wpAnyH_done (by kernel_rfl) ?_ _
    go_wp2_with fail
    go_meet
    case rel => exact ⟨A3, c3, rfl, HF3, ⟨hHeld⟩⟩
   ·go_simp
    refine (put8_any num w51 HNum.out).mono ?_
    rintro e w57 ⟨A15, c15, rfl, hbs, hb'⟩
    try replace HMr : Kp _ := ⟨raw_below HMr.out hb' (Nat.le_refl _)⟩
    try replace HM : Kp _ := ⟨HM.out.next hb' (Nat.le_refl _)⟩
    try replace H15 : Kp _ := ⟨H15.out.next hb' (Nat.le_refl _)⟩
    try replace H19 : Kp _ := ⟨H19.out.next hb' (Nat.le_refl _)⟩
    refine hK.out _ _ (hHeld.trans (hb'.mono (Nat.le_trans hg2 hBW.size))) (fun hHeld2 => ?_)
    replace hBW := hBW.trans (hb'.mono hBW.size)
    have H15 : Kp _ := ⟨hbs⟩
    clear hb' hbs
    clear hK K hHeld
    have hHeld := hHeld2
    clear hHeld2
    try simp only [Act.put, sA, sB, sC]
    refine rH [2, 9] ?_
    refine AllReadyH.cons (o := ⟨some 12, _, _, _, _, _⟩) rfl (fun K hK => ?_) (aH 19 rfl fun K hK => ?_)
    ·refine step_mark el8 Tryz.underlying5 rfl (.tmp 11) rfl rfl HMr.out ?_
     intro w58 fr2 hm2 ho hsame
     refine hK.out _ _ (hHeld.trans (ho.below (Nat.le_trans hg2 HGm.out))) (fun hHeld2 => ?_)
     have hsz' := ho.size
     replace hBW := hBW.trans (ho.below HGm.out)
     have HM : Kp (Bs w58 w58.heap.size (some ⟨gm, 0, none⟩) 4 4 markL) := ⟨raw_bs hm2 markL rfl 4 rfl (by decide)⟩
     try replace H15 : Kp _ := ⟨(H15.out.keep (fun p _ => hsame p)).more (Nat.le_of_eq hsz'.symm)⟩
     try replace H19 : Kp _ := ⟨(H19.out.keep (fun p _ => hsame p)).more (Nat.le_of_eq hsz'.symm)⟩
     clear HMr ho hsame hm2 hsz'
     clear hK K hHeld
     have hHeld := hHeld2
     clear hHeld2
     try simp only [Act.put, sA, sB, sC]
     refine rH [9] ?_
     refine aH 19 rfl fun K hK => ?_
     go_simp
     refine (put4_any b w58 (by have := HB4.out; omega)).mono ?_
     rintro e w59 ⟨A19, c19, rfl, hbs, hb'⟩
     try replace HMr : Kp _ := ⟨raw_below HMr.out hb' (Nat.le_refl _)⟩
     try replace HM : Kp _ := ⟨HM.out.next hb' (Nat.le_refl _)⟩
     try replace H15 : Kp _ := ⟨H15.out.next hb' (Nat.le_refl _)⟩
     try replace H19 : Kp _ := ⟨H19.out.next hb' (Nat.le_refl _)⟩
     refine hK.out _ _ (hHeld.trans (hb'.mono (Nat.le_trans hg2 hBW.size))) (fun hHeld2 => ?_)
     replace hBW := hBW.trans (hb'.mono hBW.size)
     have H19 : Kp _ := ⟨hbs⟩
     clear hb' hbs
     clear hK K hHeld
     have hHeld := hHeld2
     clear hHeld2
     try simp only [Act.put, sA, sB, sC]
     refine rH [12] ?_
     refine aH 22 rfl fun K hK => ?_
     go_simp
     have hb' : Below w59.heap.size w59 (w59.alloc (.cells #[.slice (some ⟨gm, 0, none⟩) 4 4, .slice A15 8 c15, .slice A19 4 c19, .slice A n c] 29)) := (Below.refl _ _).alloc (Nat.le_refl _) _
     try replace HMr : Kp _ := ⟨raw_below HMr.out hb' (Nat.le_refl _)⟩
     try replace HM : Kp _ := ⟨HM.out.next hb' (Nat.le_refl _)⟩
     try replace H15 : Kp _ := ⟨H15.out.next hb' (Nat.le_refl _)⟩
     try replace H19 : Kp _ := ⟨H19.out.next hb' (Nat.le_refl _)⟩
     refine hK.out _ _ (hHeld.trans (hb'.mono (Nat.le_trans hg2 hBW.size))) (fun hHeld2 => ?_)
     replace hBW := hBW.trans (hb'.mono hBW.size)
     obtain ⟨gq, hgq⟩ : ∃ x, x = w59.heap.size := ⟨_, rfl⟩
     rw [← hgq]
     have HCl : Kp (∀ j u, ([.slice (some ⟨gm, 0, none⟩) 4 4, .slice A15 8 c15, .slice A19 4 c19, .slice A n c] : List Value)[j]? = some u → (w59.alloc (.cells #[.slice (some ⟨gm, 0, none⟩) 4 4, .slice A15 8 c15, .slice A19 4 c19, .slice A n c] 29)).cell? (Addr.add ⟨gq, 0, none⟩ j) = some u) := ⟨fun j u hu => by rw [hgq, Addr.add_lit, (Blk.new w59 29 [.slice (some ⟨gm, 0, none⟩) 4 4, .slice A15 8 c15, .slice A19 4 c19, .slice A n c]).cell? (0 + j), Nat.zero_add]; exact hu⟩
     clear hgq hb'
     generalize w59.alloc (.cells #[.slice (some ⟨gm, 0, none⟩) 4 4, .slice A15 8 c15, .slice A19 4 c19, .slice A n c] 29) = w60 at *
     clear hK K hHeld
     have hHeld := hHeld2
     clear hHeld2
     try simp only [Act.put, sA, sB, sC]
     refine rH [13] ?_
     refine aH 23 rfl fun K hK => ?_
     have HS4 := HSo.out w60 hHeld
     have HFl := HF2.out.below hBW
     go_simp
     refine ((write1_any ⟨gq, 0, none⟩ 4 4 w60 HFl rfl HCl.out (by intro u hu; simp at hu; rcases hu with rfl | rfl | rfl | rfl <;> rfl) (((((Fs.zero _ _ _).snoc HM.out (fun _ _ _ h => by cases h)).snoc H15.out (fun _ _ _ h => by cases h)).snoc H19.out (fun _ _ _ h => by cases h)).snoc HS4 (fun _ _ _ h => by cases h)) (by omega)) : Calls _ _ #[_, _] _ _).mono ?_
     rintro e w61 ⟨A3, c3, rfl, hfl3, hb'⟩
     refine hK.out _ _ (hHeld.trans hb') (fun hHeld2 => ?_)
     have HF3 : Kp _ := ⟨hfl3⟩
     clear hb' hfl3 hBW HFl HM H15 H19 HCl HS4
     clear hK K hHeld
     have hHeld := hHeld2
     clear hHeld2
     try simp only [Act.put, sA, sB, sC]
     refine wpAnyH_done (by kernel_rfl) ?_ _
     go_wp2_with fail
     go_meet
     case rel => exact ⟨A3, c3, rfl, HF3, ⟨hHeld⟩⟩
    ·go_simp
     refine (put4_any b w57 (by have := HB4.out; omega)).mono ?_
     rintro e w62 ⟨A19, c19, rfl, hbs, hb'⟩
     try replace HMr : Kp _ := ⟨raw_below HMr.out hb' (Nat.le_refl _)⟩
     try replace HM : Kp _ := ⟨HM.out.next hb' (Nat.le_refl _)⟩
     try replace H15 : Kp _ := ⟨H15.out.next hb' (Nat.le_refl _)⟩
     try replace H19 : Kp _ := ⟨H19.out.next hb' (Nat.le_refl _)⟩
     refine hK.out _ _ (hHeld.trans (hb'.mono (Nat.le_trans hg2 hBW.size))) (fun hHeld2 => ?_)
     replace hBW := hBW.trans (hb'.mono hBW.size)
     have H19 : Kp _ := ⟨hbs⟩
     clear hb' hbs
     clear hK K hHeld
     have hHeld := hHeld2
     clear hHeld2
     try simp only [Act.put, sA, sB, sC]
     refine rH [2] ?_
     refine aH 12 rfl fun K hK => ?_
     refine step_mark el8 Tryz.underlying5 rfl (.tmp 11) rfl rfl HMr.out ?_
     intro w63 fr2 hm2 ho hsame
     refine hK.out _ _ (hHeld.trans (ho.below (Nat.le_trans hg2 HGm.out))) (fun hHeld2 => ?_)
     have hsz' := ho.size
     replace hBW := hBW.trans (ho.below HGm.out)
     have HM : Kp (Bs w63 w63.heap.size (some ⟨gm, 0, none⟩) 4 4 markL) := ⟨raw_bs hm2 markL rfl 4 rfl (by decide)⟩
     try replace H15 : Kp _ := ⟨(H15.out.keep (fun p _ => hsame p)).more (Nat.le_of_eq hsz'.symm)⟩
     try replace H19 : Kp _ := ⟨(H19.out.keep (fun p _ => hsame p)).more (Nat.le_of_eq hsz'.symm)⟩
     clear HMr ho hsame hm2 hsz'
     clear hK K hHeld
     have hHeld := hHeld2
     clear hHeld2
     try simp only [Act.put, sA, sB, sC]
     refine rH [12] ?_
     refine aH 22 rfl fun K hK => ?_
     go_simp
     have hb' : Below w63.heap.size w63 (w63.alloc (.cells #[.slice (some ⟨gm, 0, none⟩) 4 4, .slice A15 8 c15, .slice A19 4 c19, .slice A n c] 29)) := (Below.refl _ _).alloc (Nat.le_refl _) _
     try replace HMr : Kp _ := ⟨raw_below HMr.out hb' (Nat.le_refl _)⟩
     try replace HM : Kp _ := ⟨HM.out.next hb' (Nat.le_refl _)⟩
     try replace H15 : Kp _ := ⟨H15.out.next hb' (Nat.le_refl _)⟩
     try replace H19 : Kp _ := ⟨H19.out.next hb' (Nat.le_refl _)⟩
     refine hK.out _ _ (hHeld.trans (hb'.mono (Nat.le_trans hg2 hBW.size))) (fun hHeld2 => ?_)
     replace hBW := hBW.trans (hb'.mono hBW.size)
     obtain ⟨gq, hgq⟩ : ∃ x, x = w63.heap.size := ⟨_, rfl⟩
     rw [← hgq]
     have HCl : Kp (∀ j u, ([.slice (some ⟨gm, 0, none⟩) 4 4, .slice A15 8 c15, .slice A19 4 c19, .slice A n c] : List Value)[j]? = some u → (w63.alloc (.cells #[.slice (some ⟨gm, 0, none⟩) 4 4, .slice A15 8 c15, .slice A19 4 c19, .slice A n c] 29)).cell? (Addr.add ⟨gq, 0, none⟩ j) = some u) := ⟨fun j u hu => by rw [hgq, Addr.add_lit, (Blk.new w63 29 [.slice (some ⟨gm, 0, none⟩) 4 4, .slice A15 8 c15, .slice A19 4 c19, .slice A n c]).cell? (0 + j), Nat.zero_add]; exact hu⟩
     clear hgq hb'
     generalize w63.alloc (.cells #[.slice (some ⟨gm, 0, none⟩) 4 4, .slice A15 8 c15, .slice A19 4 c19, .slice A n c] 29) = w64 at *
     clear hK K hHeld
     have hHeld := hHeld2
     clear hHeld2
     try simp only [Act.put, sA, sB, sC]
     refine rH [13] ?_
     refine aH 23 rfl fun K hK => ?_
     have HS4 := HSo.out w64 hHeld
     have HFl := HF2.out.below hBW
     go_simp
     refine ((write1_any ⟨gq, 0, none⟩ 4 4 w64 HFl rfl HCl.out (by intro u hu; simp at hu; rcases hu with rfl | rfl | rfl | rfl <;> rfl) (((((Fs.zero _ _ _).snoc HM.out (fun _ _ _ h => by cases h)).snoc H15.out (fun _ _ _ h => by cases h)).snoc H19.out (fun _ _ _ h => by cases h)).snoc HS4 (fun _ _ _ h => by cases h)) (by omega)) : Calls _ _ #[_, _] _ _).mono ?_
     rintro e w65 ⟨A3, c3, rfl, hfl3, hb'⟩
     refine hK.out _ _ (hHeld.trans hb') (fun hHeld2 => ?_)
     have HF3 : Kp _ := ⟨hfl3⟩
     clear hb' hfl3 hBW HFl HM H15 H19 HCl HS4
     clear hK K hHeld
     have hHeld := hHeld2
     clear hHeld2
     try simp only [Act.put, sA, sB, sC]
     refine wpAnyH_done (by kernel_rfl) ?_ _
     go_wp2_with fail
     go_meet
     case rel => exact ⟨A3, c3, rfl, HF3, ⟨hHeld⟩⟩
  ·go_simp
   refine (put8_any num wS HNum.out).mono ?_
   rintro e w66 ⟨A15, c15, rfl, hbs, hb'⟩
   try replace HMr : Kp _ := ⟨raw_below HMr.out hb' (Nat.le_refl _)⟩
   try replace HM : Kp _ := ⟨HM.out.next hb' (Nat.le_refl _)⟩
   try replace H15 : Kp _ := ⟨H15.out.next hb' (Nat.le_refl _)⟩
   try replace H19 : Kp _ := ⟨H19.out.next hb' (Nat.le_refl _)⟩
   refine hK.out _ _ (hHeld.trans (hb'.mono (Nat.le_trans hg2 hBW.size))) (fun hHeld2 => ?_)
   replace hBW := hBW.trans (hb'.mono hBW.size)
   have H15 : Kp _ := ⟨hbs⟩
   clear hb' hbs
   clear hK K hHeld
   have hHeld := hHeld2
   clear hHeld2
   try simp only [Act.put, sA, sB, sC]
   refine rH [1, 9] ?_
   refine AllReadyH.cons (o := ⟨some 11, _, _, _, _, _⟩) rfl (fun K hK => ?_) (aH 19 rfl fun K hK => ?_)
   ·go_simp
    have hsz := hBW.size
    have hb' : Below w66.heap.size w66 (w66.alloc (.cells #[.int .u8 83, .int .u8 69, .int .u8 65, .int .u8 76] 5)) := (Below.refl _ _).alloc (Nat.le_refl _) _
    try replace HMr : Kp _ := ⟨raw_below HMr.out hb' (Nat.le_refl _)⟩
    try replace HM : Kp _ := ⟨HM.out.next hb' (Nat.le_refl _)⟩
    try replace H15 : Kp _ := ⟨H15.out.next hb' (Nat.le_refl _)⟩
    try replace H19 : Kp _ := ⟨H19.out.next hb' (Nat.le_refl _)⟩
    refine hK.out _ _ (hHeld.trans (hb'.mono (Nat.le_trans hg2 hBW.size))) (fun hHeld2 => ?_)
    replace hBW := hBW.trans (hb'.mono hBW.size)
    obtain ⟨gm, hgm⟩ : ∃ x, x = w66.heap.size := ⟨_, rfl⟩
    rw [← hgm]
    have HMr : Kp ((w66.alloc (.cells #[.int .u8 83, .int .u8 69, .int .u8 65, .int .u8 76] 5)).heap[gm]? = some (.cells (cells8 markL).toArray 5 (0, 0))) := ⟨by rw [hgm]; exact heap_alloc_new w66 _⟩
    have HGm : Kp (w2.heap.size ≤ gm) := ⟨by rw [hgm]; exact hsz⟩
    clear hgm hb'
    generalize w66.alloc (.cells #[.int .u8 83, .int .u8 69, .int .u8 65, .int .u8 76] 5) = w67 at *
    clear hK K hHeld
    have hHeld := hHeld2
    clear hHeld2
    try simp only [Act.put, sA, sB, sC]
    refine rH [2, 9] ?_
    refine AllReadyH.cons (o := ⟨some 12, _, _, _, _, _⟩) rfl (fun K hK => ?_) (aH 19 rfl fun K hK => ?_)
    ·refine step_mark el8 Tryz.underlying5 rfl (.tmp 11) rfl rfl HMr.out ?_
     intro w68 fr2 hm2 ho hsame
     refine hK.out _ _ (hHeld.trans (ho.below (Nat.le_trans hg2 HGm.out))) (fun hHeld2 => ?_)
     have hsz' := ho.size
     replace hBW := hBW.trans (ho.below HGm.out)
     have HM : Kp (Bs w68 w68.heap.size (some ⟨gm, 0, none⟩) 4 4 markL) := ⟨raw_bs hm2 markL rfl 4 rfl (by decide)⟩
     try replace H15 : Kp _ := ⟨(H15.out.keep (fun p _ => hsame p)).more (Nat.le_of_eq hsz'.symm)⟩
     try replace H19 : Kp _ := ⟨(H19.out.keep (fun p _ => hsame p)).more (Nat.le_of_eq hsz'.symm)⟩
     clear HMr ho hsame hm2 hsz'
     clear hK K hHeld
     have hHeld := hHeld2
     clear hHeld2
     try simp only [Act.put, sA, sB, sC]
     refine rH [9] ?_
     refine aH 19 rfl fun K hK => ?_
     go_simp
     refine (put4_any b w68 (by have := HB4.out; omega)).mono ?_
     rintro e w69 ⟨A19, c19, rfl, hbs, hb'⟩
     try replace HMr : Kp _ := ⟨raw_below HMr.out hb' (Nat.le_refl _)⟩
     try replace HM : Kp _ := ⟨HM.out.next hb' (Nat.le_refl _)⟩
     try replace H15 : Kp _ := ⟨H15.out.next hb' (Nat.le_refl _)⟩
     try replace H19 : Kp _ := ⟨H19.out.next hb' (Nat.le_refl _)⟩
     refine hK.out _ _ (hHeld.trans (hb'.mono (Nat.le_trans hg2 hBW.size))) (fun hHeld2 => ?_)
     replace hBW := hBW.trans (hb'.mono hBW.size)
     have H19 : Kp _ := ⟨hbs⟩
     clear hb' hbs
     clear hK K hHeld
     have hHeld := hHeld2
     clear hHeld2
     try simp only [Act.put, sA, sB, sC]
     refine rH [12] ?_
     refine aH 22 rfl fun K hK => ?_
     go_simp
     have hb' : Below w69.heap.size w69 (w69.alloc (.cells #[.slice (some ⟨gm, 0, none⟩) 4 4, .slice A15 8 c15, .slice A19 4 c19, .slice A n c] 29)) := (Below.refl _ _).alloc (Nat.le_refl _) _
     try replace HMr : Kp _ := ⟨raw_below HMr.out hb' (Nat.le_refl _)⟩
     try replace HM : Kp _ := ⟨HM.out.next hb' (Nat.le_refl _)⟩
     try replace H15 : Kp _ := ⟨H15.out.next hb' (Nat.le_refl _)⟩
     try replace H19 : Kp _ := ⟨H19.out.next hb' (Nat.le_refl _)⟩
     refine hK.out _ _ (hHeld.trans (hb'.mono (Nat.le_trans hg2 hBW.size))) (fun hHeld2 => ?_)
     replace hBW := hBW.trans (hb'.mono hBW.size)
     obtain ⟨gq, hgq⟩ : ∃ x, x = w69.heap.size := ⟨_, rfl⟩
     rw [← hgq]
     have HCl : Kp (∀ j u, ([.slice (some ⟨gm, 0, none⟩) 4 4, .slice A15 8 c15, .slice A19 4 c19, .slice A n c] : List Value)[j]? = some u → (w69.alloc (.cells #[.slice (some ⟨gm, 0, none⟩) 4 4, .slice A15 8 c15, .slice A19 4 c19, .slice A n c] 29)).cell? (Addr.add ⟨gq, 0, none⟩ j) = some u) := ⟨fun j u hu => by rw [hgq, Addr.add_lit, (Blk.new w69 29 [.slice (some ⟨gm, 0, none⟩) 4 4, .slice A15 8 c15, .slice A19 4 c19, .slice A n c]).cell? (0 + j), Nat.zero_add]; exact hu⟩
     clear hgq hb'
     generalize w69.alloc (.cells #[.slice (some ⟨gm, 0, none⟩) 4 4, .slice A15 8 c15, .slice A19 4 c19, .slice A n c] 29) = w70 at *
     clear hK K hHeld
     have hHeld := hHeld2
     clear hHeld2
     try simp only [Act.put, sA, sB, sC]
     refine rH [13] ?_
     refine aH 23 rfl fun K hK => ?_
     have HS4 := HSo.out w70 hHeld
     have HFl := HF2.out.below hBW
     go_simp
     refine ((write1_any ⟨gq, 0, none⟩ 4 4 w70 HFl rfl HCl.out (by intro u hu; simp at hu; rcases hu with rfl | rfl | rfl | rfl <;> rfl) (((((Fs.zero _ _ _).snoc HM.out (fun _ _ _ h => by cases h)).snoc H15.out (fun _ _ _ h => by cases h)).snoc H19.out (fun _ _ _ h => by cases h)).snoc HS4 (fun _ _ _ h => by cases h)) (by omega)) : Calls _ _ #[_, _] _ _).mono ?_
     rintro e w71 ⟨A3, c3, rfl, hfl3, hb'⟩
     refine hK.out _ _ (hHeld.trans hb') (fun hHeld2 => ?_)
     have HF3 : Kp _ := ⟨hfl3⟩
     clear hb' hfl3 hBW HFl HM H15 H19 HCl HS4
     clear hK K hHeld
     have hHeld := hHeld2
     clear hHeld2
     try simp only [Act.put, sA, sB, sC]
     refine wpAnyH_done (by kernel_rfl) ?_ _
     go_wp2_with fail
     go_meet
     case rel => exact ⟨A3, c3, rfl, HF3, ⟨hHeld⟩⟩
    ·go_simp
     refine (put4_any b w67 (by have := HB4.out; omega)).mono ?_
     rintro e w72 ⟨A19, c19, rfl, hbs, hb'⟩
     try replace HMr : Kp _ := ⟨raw_below HMr.out hb' (Nat.le_refl _)⟩
     try replace HM : Kp _ := ⟨HM.out.next hb' (Nat.le_refl _)⟩
     try replace H15 : Kp _ := ⟨H15.out.next hb' (Nat.le_refl _)⟩
     try replace H19 : Kp _ := ⟨H19.out.next hb' (Nat.le_refl _)⟩
     refine hK.out _ _ (hHeld.trans (hb'.mono (Nat.le_trans hg2 hBW.size))) (fun hHeld2 => ?_)
     replace hBW := hBW.trans (hb'.mono hBW.size)
     have H19 : Kp _ := ⟨hbs⟩
     clear hb' hbs
     clear hK K hHeld
     have hHeld := hHeld2
     clear hHeld2
     try simp only [Act.put, sA, sB, sC]
     refine rH [2] ?_
     refine aH 12 rfl fun K hK => ?_
     refine step_mark el8 Tryz.underlying5 rfl (.tmp 11) rfl rfl HMr.out ?_
     intro w73 fr2 hm2 ho hsame
     refine hK.out _ _ (hHeld.trans (ho.below (Nat.le_trans hg2 HGm.out))) (fun hHeld2 => ?_)
     have hsz' := ho.size
     replace hBW := hBW.trans (ho.below HGm.out)
     have HM : Kp (Bs w73 w73.heap.size (some ⟨gm, 0, none⟩) 4 4 markL) := ⟨raw_bs hm2 markL rfl 4 rfl (by decide)⟩
     try replace H15 : Kp _ := ⟨(H15.out.keep (fun p _ => hsame p)).more (Nat.le_of_eq hsz'.symm)⟩
     try replace H19 : Kp _ := ⟨(H19.out.keep (fun p _ => hsame p)).more (Nat.le_of_eq hsz'.symm)⟩
     clear HMr ho hsame hm2 hsz'
     clear hK K hHeld
     have hHeld := hHeld2
     clear hHeld2
     try simp only [Act.put, sA, sB, sC]
     refine rH [12] ?_
     refine aH 22 rfl fun K hK => ?_
     go_simp
     have hb' : Below w73.heap.size w73 (w73.alloc (.cells #[.slice (some ⟨gm, 0, none⟩) 4 4, .slice A15 8 c15, .slice A19 4 c19, .slice A n c] 29)) := (Below.refl _ _).alloc (Nat.le_refl _) _
     try replace HMr : Kp _ := ⟨raw_below HMr.out hb' (Nat.le_refl _)⟩
     try replace HM : Kp _ := ⟨HM.out.next hb' (Nat.le_refl _)⟩
     try replace H15 : Kp _ := ⟨H15.out.next hb' (Nat.le_refl _)⟩
     try replace H19 : Kp _ := ⟨H19.out.next hb' (Nat.le_refl _)⟩
     refine hK.out _ _ (hHeld.trans (hb'.mono (Nat.le_trans hg2 hBW.size))) (fun hHeld2 => ?_)
     replace hBW := hBW.trans (hb'.mono hBW.size)
     obtain ⟨gq, hgq⟩ : ∃ x, x = w73.heap.size := ⟨_, rfl⟩
     rw [← hgq]
     have HCl : Kp (∀ j u, ([.slice (some ⟨gm, 0, none⟩) 4 4, .slice A15 8 c15, .slice A19 4 c19, .slice A n c] : List Value)[j]? = some u → (w73.alloc (.cells #[.slice (some ⟨gm, 0, none⟩) 4 4, .slice A15 8 c15, .slice A19 4 c19, .slice A n c] 29)).cell? (Addr.add ⟨gq, 0, none⟩ j) = some u) := ⟨fun j u hu => by rw [hgq, Addr.add_lit, (Blk.new w73 29 [.slice (some ⟨gm, 0, none⟩) 4 4, .slice A15 8 c15, .slice A19 4 c19, .slice A n c]).cell? (0 + j), Nat.zero_add]; exact hu⟩
     clear hgq hb'
     generalize w73.alloc (.cells #[.slice (some ⟨gm, 0, none⟩) 4 4, .slice A15 8 c15, .slice A19 4 c19, .slice A n c] 29) = w74 at *
     clear hK K hHeld
     have hHeld := hHeld2
     clear hHeld2
     try simp only [Act.put, sA, sB, sC]
     refine rH [13] ?_
     refine aH 23 rfl fun K hK => ?_
     have HS4 := HSo.out w74 hHeld
     have HFl := HF2.out.below hBW
     go_simp
     refine ((write1_any ⟨gq, 0, none⟩ 4 4 w74 HFl rfl HCl.out (by intro u hu; simp at hu; rcases hu with rfl | rfl | rfl | rfl <;> rfl) (((((Fs.zero _ _ _).snoc HM.out (fun _ _ _ h => by cases h)).snoc H15.out (fun _ _ _ h => by cases h)).snoc H19.out (fun _ _ _ h => by cases h)).snoc HS4 (fun _ _ _ h => by cases h)) (by omega)) : Calls _ _ #[_, _] _ _).mono ?_
     rintro e w75 ⟨A3, c3, rfl, hfl3, hb'⟩
     refine hK.out _ _ (hHeld.trans hb') (fun hHeld2 => ?_)
     have HF3 : Kp _ := ⟨hfl3⟩
     clear hb' hfl3 hBW HFl HM H15 H19 HCl HS4
     clear hK K hHeld
     have hHeld := hHeld2
     clear hHeld2
     try simp only [Act.put, sA, sB, sC]
     refine wpAnyH_done (by kernel_rfl) ?_ _
     go_wp2_with fail
     go_meet
     case rel => exact ⟨A3, c3, rfl, HF3, ⟨hHeld⟩⟩
   ·go_simp
    refine (put4_any b w66 (by have := HB4.out; omega)).mono ?_
    rintro e w76 ⟨A19, c19, rfl, hbs, hb'⟩
    try replace HMr : Kp _ := ⟨raw_below HMr.out hb' (Nat.le_refl _)⟩
    try replace HM : Kp _ := ⟨HM.out.next hb' (Nat.le_refl _)⟩
    try replace H15 : Kp _ := ⟨H15.out.next hb' (Nat.le_refl _)⟩
    try replace H19 : Kp _ := ⟨H19.out.next hb' (Nat.le_refl _)⟩
    refine hK.out _ _ (hHeld.trans (hb'.mono (Nat.le_trans hg2 hBW.size))) (fun hHeld2 => ?_)
    replace hBW := hBW.trans (hb'.mono hBW.size)
    have H19 : Kp _ := ⟨hbs⟩
    clear hb' hbs
    clear hK K hHeld
    have hHeld := hHeld2
    clear hHeld2
    try simp only [Act.put, sA, sB, sC]
    refine rH [1] ?_
    refine aH 11 rfl fun K hK => ?_
    go_simp
    have hsz := hBW.size
    have hb' : Below w76.heap.size w76 (w76.alloc (.cells #[.int .u8 83, .int .u8 69, .int .u8 65, .int .u8 76] 5)) := (Below.refl _ _).alloc (Nat.le_refl _) _
    try replace HMr : Kp _ := ⟨raw_below HMr.out hb' (Nat.le_refl _)⟩
    try replace HM : Kp _ := ⟨HM.out.next hb' (Nat.le_refl _)⟩
    try replace H15 : Kp _ := ⟨H15.out.next hb' (Nat.le_refl _)⟩
    try replace H19 : Kp _ := ⟨H19.out.next hb' (Nat.le_refl _)⟩
    refine hK.out _ _ (hHeld.trans (hb'.mono (Nat.le_trans hg2 hBW.size))) (fun hHeld2 => ?_)
    replace hBW := hBW.trans (hb'.mono hBW.size)
    obtain ⟨gm, hgm⟩ : ∃ x, x = w76.heap.size := ⟨_, rfl⟩
    rw [← hgm]
    have HMr : Kp ((w76.alloc (.cells #[.int .u8 83, .int .u8 69, .int .u8 65, .int .u8 76] 5)).heap[gm]? = some (.cells (cells8 markL).toArray 5 (0, 0))) := ⟨by rw [hgm]; exact heap_alloc_new w76 _⟩
    have HGm : Kp (w2.heap.size ≤ gm) := ⟨by rw [hgm]; exact hsz⟩
    clear hgm hb'
    generalize w76.alloc (.cells #[.int .u8 83, .int .u8 69, .int .u8 65, .int .u8 76] 5) = w77 at *
    clear hK K hHeld
    have hHeld := hHeld2
    clear hHeld2
    try simp only [Act.put, sA, sB, sC]
    refine rH [2] ?_
    refine aH 12 rfl fun K hK => ?_
    refine step_mark el8 Tryz.underlying5 rfl (.tmp 11) rfl rfl HMr.out ?_
    intro w78 fr2 hm2 ho hsame
    refine hK.out _ _ (hHeld.trans (ho.below (Nat.le_trans hg2 HGm.out))) (fun hHeld2 => ?_)
    have hsz' := ho.size
    replace hBW := hBW.trans (ho.below HGm.out)
    have HM : Kp (Bs w78 w78.heap.size (some ⟨gm, 0, none⟩) 4 4 markL) := ⟨raw_bs hm2 markL rfl 4 rfl (by decide)⟩
    try replace H15 : Kp _ := ⟨(H15.out.keep (fun p _ => hsame p)).more (Nat.le_of_eq hsz'.symm)⟩
    try replace H19 : Kp _ := ⟨(H19.out.keep (fun p _ => hsame p)).more (Nat.le_of_eq hsz'.symm)⟩
    clear HMr ho hsame hm2 hsz'
    clear hK K hHeld
    have hHeld := hHeld2
    clear hHeld2
    try simp only [Act.put, sA, sB, sC]
    refine rH [12] ?_
    refine aH 22 rfl fun K hK => ?_
    go_simp
    have hb' : Below w78.heap.size w78 (w78.alloc (.cells #[.slice (some ⟨gm, 0, none⟩) 4 4, .slice A15 8 c15, .slice A19 4 c19, .slice A n c] 29)) := (Below.refl _ _).alloc (Nat.le_refl _) _
    try replace HMr : Kp _ := ⟨raw_below HMr.out hb' (Nat.le_refl _)⟩
    try replace HM : Kp _ := ⟨HM.out.next hb' (Nat.le_refl _)⟩
    try replace H15 : Kp _ := ⟨H15.out.next hb' (Nat.le_refl _)⟩
    try replace H19 : Kp _ := ⟨H19.out.next hb' (Nat.le_refl _)⟩
    refine hK.out _ _ (hHeld.trans (hb'.mono (Nat.le_trans hg2 hBW.size))) (fun hHeld2 => ?_)
    replace hBW := hBW.trans (hb'.mono hBW.size)
    obtain ⟨gq, hgq⟩ : ∃ x, x = w78.heap.size := ⟨_, rfl⟩
    rw [← hgq]
    have HCl : Kp (∀ j u, ([.slice (some ⟨gm, 0, none⟩) 4 4, .slice A15 8 c15, .slice A19 4 c19, .slice A n c] : List Value)[j]? = some u → (w78.alloc (.cells #[.slice (some ⟨gm, 0, none⟩) 4 4, .slice A15 8 c15, .slice A19 4 c19, .slice A n c] 29)).cell? (Addr.add ⟨gq, 0, none⟩ j) = some u) := ⟨fun j u hu => by rw [hgq, Addr.add_lit, (Blk.new w78 29 [.slice (some ⟨gm, 0, none⟩) 4 4, .slice A15 8 c15, .slice A19 4 c19, .slice A n c]).cell? (0 + j), Nat.zero_add]; exact hu⟩
    clear hgq hb'
    generalize w78.alloc (.cells #[.slice (some ⟨gm, 0, none⟩) 4 4, .slice A15 8 c15, .slice A19 4 c19, .slice A n c] 29) = w79 at *
    clear hK K hHeld
    have hHeld := hHeld2
    clear hHeld2
    try simp only [Act.put, sA, sB, sC]
    refine rH [13] ?_
    refine aH 23 rfl fun K hK => ?_
    have HS4 := HSo.out w79 hHeld
    have HFl := HF2.out.below hBW
    go_simp
    refine ((write1_any ⟨gq, 0, none⟩ 4 4 w79 HFl rfl HCl.out (by intro u hu; simp at hu; rcases hu with rfl | rfl | rfl | rfl <;> rfl) (((((Fs.zero _ _ _).snoc HM.out (fun _ _ _ h => by cases h)).snoc H15.out (fun _ _ _ h => by cases h)).snoc H19.out (fun _ _ _ h => by cases h)).snoc HS4 (fun _ _ _ h => by cases h)) (by omega)) : Calls _ _ #[_, _] _ _).mono ?_
    rintro e w80 ⟨A3, c3, rfl, hfl3, hb'⟩
    refine hK.out _ _ (hHeld.trans hb') (fun hHeld2 => ?_)
    have HF3 : Kp _ := ⟨hfl3⟩
    clear hb' hfl3 hBW HFl HM H15 H19 HCl HS4
    clear hK K hHeld
    have hHeld := hHeld2
    clear hHeld2
    try simp only [Act.put, sA, sB, sC]
    refine wpAnyH_done (by kernel_rfl) ?_ _
    go_wp2_with fail
    go_meet
    case rel => exact ⟨A3, c3, rfl, HF3, ⟨hHeld⟩⟩
 case rest =>
  obtain ⟨A3, c3, rfl, HF3, HB3⟩ := hcut
  have a3 : wc.cell? ⟨w.heap.size, 3, none⟩ = some (.slice D m e) := (HB3.out.cell (p := ⟨w.heap.size, 3, none⟩) HG.out.1).trans (HKa.out.cell? 3)
  have HHF : Kp ((headF num b sl).length = 4) := ⟨rfl⟩
  have HFlat : Kp _ := ⟨headF_flat num b sl su⟩
  have HEnc : Kp _ := ⟨enc_flat key num b sl su⟩
  have HLen : Kp ((bodyL ⟨num, (b : Int), sl, su⟩).length ≤ 16000) := ⟨by
   rw [bodyL_len _ ⟨HNum.out, (HDo.out w2 (Below.refl _ _)).wide⟩]
   have h1 := HLn.out
   have h2 := HLm.out
   have h3 := HN5.out
   have h4 := HM2.out
   show 16 + sl.length + 32 * su.length ≤ 16000
   omega⟩
  have HLenE : Kp ((encL key ⟨num, (b : Int), sl, su⟩).length ≤ 20000) := ⟨by
   rw [encL_len _ _ ⟨HNum.out, (HDo.out w2 (Below.refl _ _)).wide⟩]
   have h1 := HLn.out
   have h2 := HLm.out
   have h3 := HN5.out
   have h4 := HM2.out
   show 48 + sl.length + 32 * su.length ≤ 20000
   omega⟩
  generalize bodyL ⟨num, (b : Int), sl, su⟩ = body at *
  generalize hE : encL key ⟨num, (b : Int), sl, su⟩ = enc at *
  have HE : Kp _ := ⟨hE⟩
  clear hE
  generalize headF num b sl = hd at *
  have hm63 : m ≤ 256 := HM2.out
  go_wp2
  clear a3
  go_loopw [7, 27] (fun _ i wr => ∃ (k : Nat) (A' : Option Addr) (c' : Nat), k ≤ m ∧ i = .int .i64 k ∧ Kp (Fld wr g w2.heap.size (4 + k) A' c' (hd ++ su.take k)) ∧ Kp (Below g w2 wr)) (fun _ i _ => m - (intOf i).toNat)
  case atStart => exact ⟨0, A3, c3, Nat.zero_le _, rfl, ⟨by simpa using HF3.out⟩, HB3⟩
  case round =>
   clear HF3 HB3
   obtain ⟨k, A', c', hk, rfl, HF, HW⟩ := hrel
   by_cases hlt : k < m
   ·have hks : k < su.length := by rw [HLm.out]; exact hlt
    have a3 : wr.cell? ⟨w.heap.size, 3, none⟩ = some (.slice D m e) := (HW.out.cell (p := ⟨w.heap.size, 3, none⟩) HG.out.1).trans (HKa.out.cell? 3)
    obtain ⟨b1, o1, rfl, hl1, _, _⟩ := (HDo.out wr HW.out).at hlt
    have HBs : Kp _ := ⟨((HDo.out wr HW.out).bs hlt)⟩
    have HT : Kp (su.take (k + 1) = su.take k ++ [su[k]]) := ⟨List.take_succ_eq_append_getElem hks⟩
    have HL1 : Kp (b1 < w2.heap.size) := ⟨by have := HG.out; omega⟩
    have HFa : Kp (Fld (wr.alloc (.cells #[.slice (some ⟨b1, o1 + k * 32, none⟩) 32 32] 29)) g w2.heap.size (4 + k) A' c' (hd ++ su.take k)) := ⟨HF.out.below ((Below.refl _ _).alloc (Nat.le_refl _) _)⟩
    have HBa : Kp (Below g w2 (wr.alloc (.cells #[.slice (some ⟨b1, o1 + k * 32, none⟩) 32 32] 29))) := ⟨HW.out.trans ((Below.refl _ _).alloc (by have := HF.out.le; have := HF.out.lt; omega) _)⟩
    have HCl : Kp (∀ j u, ([.slice (some ⟨b1, o1 + k * 32, none⟩) 32 32] : List Value)[j]? = some u → (wr.alloc (.cells #[.slice (some ⟨b1, o1 + k * 32, none⟩) 32 32] 29)).cell? (Addr.add ⟨wr.heap.size, 0, none⟩ j) = some u) := ⟨fun j u hu => by rw [Addr.add_lit, (Blk.new wr 29 [.slice (some ⟨b1, o1 + k * 32, none⟩) 32 32]).cell? (0 + j), Nat.zero_add]; exact hu⟩
    have HFs : Kp (Fs (wr.alloc (.cells #[.slice (some ⟨b1, o1 + k * 32, none⟩) 32 32] 29)) (wr.alloc (.cells #[.slice (some ⟨b1, o1 + k * 32, none⟩) 32 32] 29)).heap.size (Value.slice A' (4 + k) c').ownBlock ([] ++ [.slice (some ⟨b1, o1 + k * 32, none⟩) 32 32]) ([] ++ [su[k]])) := ⟨(Fs.zero _ _ _).snoc (((HBs.out.below ((Below.refl _ _).alloc (show w.heap.size ≤ wr.heap.size by have := HF.out.le; have := HG.out; omega) _)).more (by have := HF.out.le; have := HG.out; simp; omega))) (fun ad h _ => by cases h; exact HF.out.ap_lo HL1.out)⟩
    generalize su[k] = x at *
    go_wp2_with fail
    refine (write1_any ⟨wr.heap.size, 0, none⟩ 1 1 _ HFa.out rfl HCl.out (by intro u hu; simp at hu; subst hu; rfl) HFs.out (by omega) : Calls _ _ #[_, _] _ _).mono ?_
    rintro ex wz ⟨A5, c5, rfl, hf5, hb5⟩
    have HF5 : Kp (Fld wz g w2.heap.size (4 + (k + 1)) A5 c5 (hd ++ su.take (k + 1))) := ⟨by rw [HT.out, ← List.append_assoc]; exact hf5⟩
    have HB5 : Kp (Below g w2 wz) := ⟨HBa.out.trans hb5⟩
    clear hf5 hb5 HFa HCl HFs HBa HBs a3
    go_wp2
    go_roundw
    case rel => exact ⟨k + 1, A5, c5, by omega, by go_num, HF5, HB5⟩
    case measure => simp [intOf]; omega
   ·have HI : Kp (k = m) := ⟨by omega⟩
    have HT : Kp (su.take k = su) := ⟨List.take_of_length_le (by rw [HLm.out, HI.out]; exact Nat.le_refl _)⟩
    have HF6 : Kp (Fld wr g w2.heap.size (4 + k) A' c' (hd ++ su)) := ⟨by have h := HF.out; rwa [HT.out] at h⟩
    have v0 : wr.cell? ⟨g, 0, none⟩ = some (.slice A' (4 + k) c') := HF6.out.var.cell? 0
    have HLs : Kp _ := ⟨HF6.out.lists⟩
    have HKw : Kp _ := ⟨HKo.out wr HW.out⟩
    have hge : ¬ ((k : Int) < (m : Int)) := by omega
    clear HF
    go_wp2_with fail
    refine (tag_any KA kn kc key A' (4 + k) c' (hd ++ su) wr HKw.out HLs.out HKn.out (by rw [HFlat.out]; have := HLen.out; omega)).mono ?_
    rintro ex w4 ⟨rfl, hb4⟩
    have HLt : Kp ((hmacL key body).length = 32) := ⟨shaL_len _⟩
    have ef : hmacL key (hd ++ su).flatten = hmacL key body := by rw [HFlat.out]
    rw [ef]
    have HF7 : Kp _ := ⟨HF6.out.below hb4⟩
    have HW7 : Kp (Below g w2 w4) := ⟨HW.out.trans (hb4.mono (by have := HF6.out.le; have := HF6.out.lt; omega))⟩
    have HC32 : Kp ((cells8 (hmacL key body)).length = 32) := ⟨by rw [cells8_length]; exact HLt.out⟩
    have HZ32 : Kp (zero32.length = 32) := ⟨rfl⟩
    generalize hmacL key body = tg at *
    clear ef hb4 v0 HF6 HW HLs HKw
    go_wp2_with (with_reducible refine wpList_alloc (o := ⟨some 8, _, _, _, _, _⟩) tyDig rfl rfl ?_)
    intro w5 hk5 hb5 hs5
    have HK5 : Kp _ := ⟨hk5⟩
    have HF8 : Kp _ := ⟨HF7.out.below hb5⟩
    have HW8 : Kp (Below g w2 w5) := ⟨HW7.out.trans (hb5.mono (by have := HF7.out.le; have := HF7.out.lt; omega))⟩
    have HAp : Kp ((Value.slice A' (4 + k) c').ownBlock ≠ some w4.heap.size) := ⟨HF7.out.ap_hi (Nat.le_refl _)⟩
    have HB45 : Kp _ := ⟨hb5⟩
    clear hk5 hb5 hs5 HF8 HW8
    go_wp2_with (with_reducible refine wpList_storeAll (o := ⟨none, _, _, _, _, _⟩) (vs := cells8 tg) rwDig rfl (.tmp 8) (.tmp 41) rfl rfl HK5.out HZ32.out HC32.out (cells8_one _) rfl ?_)
    intro w6 hk6 ho6
    have HK6 : Kp _ := ⟨hk6⟩
    have hb46 : Below w4.heap.size w4 w6 := HB45.out.trans (ho6.below (Nat.le_refl _))
    have HF9 : Kp _ := ⟨HF7.out.below hb46⟩
    have HW9 : Kp (Below g w2 w6) := ⟨HW7.out.trans (hb46.mono (by have := HF7.out.le; have := HF7.out.lt; omega))⟩
    have hlt4 : w4.heap.size < w6.heap.size := HK6.out.lt
    have HBt : Kp (Bs w6 w6.heap.size (some ⟨w4.heap.size, 0, none⟩) 32 32 tg) := ⟨hk6.bytes hlt4 (by rw [List.drop_zero, List.take_of_length_le (by rw [HC32.out]; exact Nat.le_refl _)]) HLt.out 32 (Nat.le_refl _) (by decide)⟩
    have HFa : Kp (Fld (w6.alloc (.cells #[.slice (some ⟨w4.heap.size, 0, none⟩) 32 32] 29)) g w2.heap.size (4 + k) A' c' (hd ++ su)) := ⟨HF9.out.below ((Below.refl _ _).alloc (Nat.le_refl _) _)⟩
    have HBa : Kp (Below g w2 (w6.alloc (.cells #[.slice (some ⟨w4.heap.size, 0, none⟩) 32 32] 29))) := ⟨HW9.out.trans ((Below.refl _ _).alloc (by have := HF9.out.le; have := HF9.out.lt; omega) _)⟩
    have HCl : Kp (∀ j u, ([.slice (some ⟨w4.heap.size, 0, none⟩) 32 32] : List Value)[j]? = some u → (w6.alloc (.cells #[.slice (some ⟨w4.heap.size, 0, none⟩) 32 32] 29)).cell? (Addr.add ⟨w6.heap.size, 0, none⟩ j) = some u) := ⟨fun j u hu => by rw [Addr.add_lit, (Blk.new w6 29 [.slice (some ⟨w4.heap.size, 0, none⟩) 32 32]).cell? (0 + j), Nat.zero_add]; exact hu⟩
    have HFs : Kp (Fs (w6.alloc (.cells #[.slice (some ⟨w4.heap.size, 0, none⟩) 32 32] 29)) (w6.alloc (.cells #[.slice (some ⟨w4.heap.size, 0, none⟩) 32 32] 29)).heap.size (Value.slice A' (4 + k) c').ownBlock ([] ++ [.slice (some ⟨w4.heap.size, 0, none⟩) 32 32]) ([] ++ [tg])) := ⟨(Fs.zero _ _ _).snoc ((HBt.out.alloc (Nat.le_refl _) _).more (by simp)) (fun ad h _ => by cases h; exact HAp.out)⟩
    clear hk6 ho6 hb46 hlt4 HBt HF9 HW9 HK6 HB45 HK5 HF7 HW7 HAp
    go_wp2_with fail
    refine (write1_any ⟨w6.heap.size, 0, none⟩ 1 1 _ HFa.out rfl HCl.out (by intro u hu; simp at hu; subst hu; rfl) HFs.out (by omega) : Calls _ _ #[_, _] _ _).mono ?_
    rintro ex wz ⟨A5, c5, rfl, hf5, hb5⟩
    have HLz : Kp (Ls wz wz.heap.size A5 (4 + k + 1) c5 (hd ++ su ++ [tg])) := ⟨hf5.lists⟩
    have HB5 : Kp (Below g w2 wz) := ⟨HBa.out.trans hb5⟩
    have v0 : wz.cell? ⟨g, 0, none⟩ = some (.slice A5 (4 + k + 1) c5) := hf5.var.cell? 0
    clear hf5 hb5 HFa HCl HFs HBa
    go_wp2_with fail
    refine (join_any A5 (4 + k + 1) c5 (hd ++ su ++ [tg]) wz HLz.out (by rw [HEnc.out]; have := HLenE.out; omega)).mono ?_
    rintro ex w9 ⟨v9, rfl, hown9, hb9⟩
    rw [HEnc.out] at hown9
    obtain ⟨A9, c9, rfl⟩ := own_form' hown9
    have HBs9 : Kp (w9.ownsRow w.heap.size 5 1 (.slice A9 enc.length c9) enc.length (cells8 enc)) := ⟨own_le hown9 (by have h1 := HB5.out.size; have h2 := HB2.out.size; omega)⟩
    have HB9 : Kp (Below w.heap.size w w9) := ⟨(HB2.out.trans (HB5.out.mono (Nat.le_of_lt HG.out.1))).trans (hb9.mono (by have h1 := HB5.out.size; have h2 := HB2.out.size; omega))⟩
    clear hown9 hb9 v0 HLz
    go_wp2
    go_ret
    rw [HE.out]
    exact ⟨A9, c9, ret_eq rfl, HBs9.out, HB9.out⟩
set_option maxRecDepth 100000 in
set_option maxHeartbeats 4000000 in
theorem encode_own (key : List UInt8) (KA : Option Addr) (kn kc : Nat) (r : Rc) (A : Option Addr) (n c : Nat) (D : Option Addr) (m e : Nat) (w : World) (hK : Bs w w.heap.size KA kn kc key) (hR : Rs w w.heap.size A n c D m e r) (hkn : kn ≤ 524288) :
  Calls Tryz.prog 145 #[.slice KA kn kc, rcV r A n c D m e] w fun x w' => Below w.heap.size w w' ∧
   ((¬ Rt r ∧ x = .returned (.tuple #[.slice none 0 0, .int .i64 2])) ∨
    (Rt r ∧ ∃ A' c', x = .returned (.tuple #[.slice A' (encL key r).length c', .int .i64 0]) ∧ w'.ownsRow w.heap.size 5 1 (.slice A' (encL key r).length c') (encL key r).length (cells8 (encL key r)))) := by
 have HK : Kp _ := ⟨hK⟩
 have HR : Kp _ := ⟨hR⟩
 have HKn : Kp _ := ⟨hkn⟩
 clear hK hR hkn
 go_enter Tryz.func145, Tryz.ntmps145
 go_wp2_with (with_reducible refine wpList_box (o := ⟨some 3, _, _, _, _, _⟩) (cs := rcL r.num r.blk A n c D m e) rfl (.tmp 1) rfl rfl ?_)
 intro w1 hk1 hb1 hs1
 have HK1 : Kp _ := ⟨hk1⟩
 have HB1 : Kp _ := ⟨hb1⟩
 have HR1 : Kp _ := ⟨HR.out.next hb1 (Nat.le_refl _)⟩
 have HKy : Kp _ := ⟨HK.out.next hb1 (Nat.le_refl _)⟩
 clear hk1 hb1 hs1 HR HK
 go_wp2_with (with_reducible refine wpList_loadAll (o := ⟨some 6, _, _, _, _, _⟩) rwSeal rfl (.tmp 3) rfl rfl HK1.out rfl ?_)
 refine (right_any r A n c D m e w1 HR1.out).mono ?_
 rintro x w2 ⟨rfl, hb2⟩
 have HK2 : Kp _ := ⟨HK1.out.below hb2 HK1.out.lt⟩
 have HR2 : Kp _ := ⟨HR1.out.next hb2 (Nat.le_refl _)⟩
 have HKy2 : Kp _ := ⟨HKy.out.next hb2 (Nat.le_refl _)⟩
 have HB2 : Kp (Below w.heap.size w w2) := ⟨HB1.out.trans (hb2.mono HB1.out.size)⟩
 clear hb2 HK1 HR1 HKy
 by_cases ht : Rt r
 ·have hd : decide (Rt r) = true := decide_eq_true ht
  rw [hd]
  have HT : Kp _ := ⟨ht⟩
  clear hd ht
  go_wp2_with (with_reducible refine wpList_loadAll (o := ⟨some 10, _, _, _, _, _⟩) rwSeal rfl (.tmp 3) rfl rfl HK2.out rfl ?_)
  refine (swrite_own key KA kn kc r A n c D m e w2 HKy2.out HR2.out HT.out HKn.out).mono ?_
  rintro x w3 ⟨A', c', rfl, hbs, hb3⟩
  have HBs : Kp _ := ⟨own_le hbs HB2.out.size⟩
  have HB3 : Kp (Below w.heap.size w w3) := ⟨HB2.out.trans (hb3.mono HB2.out.size)⟩
  clear hbs hb3
  go_wp2
  go_ret2
  exact ⟨HB3.out, .inr ⟨HT.out, A', c', rfl, HBs.out⟩⟩
 ·have hd : decide (Rt r) = false := decide_eq_false ht
  rw [hd]
  have HT : Kp _ := ⟨ht⟩
  clear hd ht
  go_wp2
  go_ret2
  exact ⟨HB2.out, .inl ⟨HT.out, rfl⟩⟩
theorem encode_any (key : List UInt8) (KA : Option Addr) (kn kc : Nat) (r : Rc) (A : Option Addr) (n c : Nat) (D : Option Addr) (m e : Nat) (w : World) (hK : Bs w w.heap.size KA kn kc key) (hR : Rs w w.heap.size A n c D m e r) (hkn : kn ≤ 524288) :
  Calls Tryz.prog 145 #[.slice KA kn kc, rcV r A n c D m e] w fun x w' => Below w.heap.size w w' ∧
   ((¬ Rt r ∧ x = .returned (.tuple #[.slice none 0 0, .int .i64 2])) ∨
    (Rt r ∧ ∃ A' c', x = .returned (.tuple #[.slice A' (encL key r).length c', .int .i64 0]) ∧ Bs w' w'.heap.size A' (encL key r).length c' (encL key r))) := by
 refine (encode_own key KA kn kc r A n c D m e w hK hR hkn).mono ?_
 rintro x w' ⟨hb, h | ⟨ht, A', c', rfl, ho⟩⟩
 ·exact ⟨hb, .inl h⟩
 ·exact ⟨hb, .inr ⟨ht, A', c', rfl, Bs.of_own' ho⟩⟩
end Go.Proofs.YtcehkafddlfleaaGreatDoor
