/- The contracts of package aes's Box, New and Block. -/
import Derived.Test.YtleplilcpcgacaaAesEnc
import Derived.Test.YtleplilcpcgacaaAesMk
namespace Go.Proofs.Ytleplilcpcgacaa
open Go.RowKit

set_option maxHeartbeats 1000000 in
theorem box_any (c : UInt8) (w : World) : Calls Try.prog 14 #[.int .u8 c.toNat] w fun e w' => e = .returned (.int .u8 (boxB.getD c.toNat 0).toNat) ∧ Below w.heap.size w w' := by
  have hc := c.toNat_lt
  have hx : (cells8 boxB)[c.toNat]? = some (.int .u8 ((boxB.getD c.toNat 0).toNat : Int)) := by
    have h : c.toNat < boxB.length := by rw [boxB_length]; exact hc
    rw [cells8_at _ _ h]; simp [List.getD, List.getElem?_eq_getElem h]
  have hm := makeBox_any w
  obtain ⟨y, hy⟩ : ∃ y, y = boxB.getD c.toNat 0 := ⟨_, rfl⟩
  rw [← hy] at hx ⊢
  clear hy
  generalize boxB = L at *
  go_enter Try.func14, Try.ntmps14
  go_wp2_with fail
  refine hm.mono ?_
  rintro e w1 ⟨rfl, hb⟩
  go_wp2_with (with_reducible refine wpList_index (o := ⟨some 5, _, _, _, _, _⟩) rwTable.ty plain8 rfl (.tmp 3) (.tmp 4) rfl rfl rfl c.toNat rfl hc hx ?_)
  go_ret
  exact ⟨rfl, hb⟩

/-- a Cipher by a key -/
structure Ci (w : World) (g : Nat) (key : List UInt8) : Prop where
  blk : Blk w g 67 (cells32 ((List.range 44).map (Wk boxB key)))
theorem Ci.below {w w' : World} {g : Nat} {key : List UInt8} (h : Ci w g key) (hb : Below w.heap.size w w') : Ci w' g key := ⟨h.blk.below hb h.blk.lt⟩
theorem store_all16 {cs vs : List Value} (h : cs.length = 16) (_h2 : vs.length = 16) : cs.take 0 ++ vs ++ cs.drop (0 + 16) = vs := by rw [List.drop_of_length_le (by omega)]; simp
theorem rwKey : Rw Try.prog 30 (.array 16 5) 16 := ⟨by kernel_rfl, rfl, by kernel_rfl⟩
theorem cipher_built (g : Nat → UInt32) : Try.prog.built 67 [(0, .agg (cells32 ((List.range 44).map g)).toArray)] = some (cells32 ((List.range 44).map g)).toArray := by kernel_rfl
set_option maxHeartbeats 2000000 in
theorem new_any (key : List UInt8) (w : World) (hk : key.length = 16) : Calls Try.prog 17 #[.agg (cells8 key).toArray] w fun e w' => ∃ g, e = .returned (.pointer (some ⟨g, 0, none⟩)) ∧ Ci w' g key ∧ Below w.heap.size w w' := by
  have HK : Kp _ := ⟨hk⟩
  clear hk
  go_enter Try.func17, Try.ntmps17
  go_wp2_with (with_reducible refine wpList_box (o := ⟨some 1, _, _, _, _, _⟩) rfl (.tmp 0) rfl rfl ?_)
  intro w1 hk1 hb1 hs1
  have HK1 : Kp _ := ⟨hk1⟩
  have HLk : Kp ((cells8 key).length = 16) := ⟨by rw [cells8_length]; exact HK.out⟩
  clear hk1 hs1
  go_wp2_with fail
  refine (makeBox_any w1).mono ?_
  rintro e w2 ⟨rfl, hb2⟩
  have HK2 : Kp _ := ⟨HK1.out.below hb2 HK1.out.lt⟩
  have hB2 := hb1.trans (hb2.mono hb1.size)
  have HL : Kp ((cells8 boxB).length = 256) := ⟨by rw [cells8_length, boxB_length]⟩
  have HZ : Kp (zero256.length = 256) := ⟨by unfold zero256; exact List.length_replicate⟩
  obtain ⟨L, hL⟩ : ∃ L, L = boxB := ⟨_, rfl⟩
  have HG : Kp _ := ⟨hL⟩
  rw [← hL] at HL ⊢
  clear hL hb1 hb2 HK1
  go_wp2_with (with_reducible refine wpList_alloc (o := ⟨some 3, _, _, _, _, _⟩) tyTable rfl rfl ?_)
  intro w3 hk3 hb3 hs3
  have HT3 : Kp _ := ⟨hk3⟩
  have HK3 : Kp _ := ⟨HK2.out.below hb3 HK2.out.lt⟩
  have hB3 := hB2.trans (hb3.mono hB2.size)
  have hgx : w.heap.size < w2.heap.size := HK2.out.lt
  obtain ⟨gx, hg⟩ : ∃ g, g = w2.heap.size := ⟨_, rfl⟩
  rw [← hg] at HT3 hgx ⊢
  clear hk3 hs3 hb3 hg hB2 HK2
  go_wp2_with (first
    | (refine wpList_storeAll (o := ⟨none, _, _, _, _, _⟩) (vs := cells8 L) rwTable rfl (.tmp 3) (.tmp 4) rfl rfl HT3.out HZ.out HL.out (cells8_one _) rfl ?_))
  intro w4 hk4 ho4
  have HX : Kp _ := ⟨hk4⟩
  have HK4 : Kp _ := ⟨HK3.out.only ho4 (by omega)⟩
  have hB4 := hB3.trans (ho4.below (Nat.le_of_lt hgx))
  clear hk4 ho4 hB3 HT3 HK3
  go_wp2_with (with_reducible refine wpList_loadAll (o := ⟨some 5, _, _, _, _, _⟩) rwKey rfl (.tmp 1) rfl rfl HK4.out HLk.out ?_)
  go_wp2_with fail
  refine (columns_any key _ HK.out).mono ?_
  rintro e w5 ⟨rfl, hb5⟩
  have HX5 : Kp (Blk w5 gx 57 (cells8 boxB)) := ⟨by rw [← HG.out]; exact HX.out.below hb5 HX.out.lt⟩
  have hB5 := hB4.trans (hb5.mono hB4.size)
  clear hb5 hB4 HX HK4 HG HL
  go_wp2_with fail
  refine (expand_any key gx _ boxB _ HX5.out boxB_length).mono ?_
  rintro e w6 ⟨rfl, hb6⟩
  have hB6 := hB5.trans (hb6.mono hB5.size)
  have HBu : Kp _ := ⟨cipher_built (Wk boxB key)⟩
  clear hB5 hb6 HX5
  obtain ⟨M, hM⟩ : ∃ L, L = (List.range 44).map (Wk boxB key) := ⟨_, rfl⟩
  have HM : Kp _ := ⟨hM⟩
  rw [← hM] at HBu ⊢
  clear hM
  go_wp2_with (first
    | (refine wpList_build1 (o := ⟨some 8, _, _, _, _, _⟩) rfl 0 (.tmp 7) rfl rfl HBu.out ?_)
    | (with_reducible refine wpList_box (o := ⟨some 9, _, _, _, _, _⟩) rfl (.tmp 8) rfl rfl ?_))
  intro w7 hk7 hb7 hs7
  have HK7 : Kp _ := ⟨hk7⟩
  have hB7 := hB6.trans (hb7.mono hB6.size)
  clear hk7 hs7
  go_wp2
  go_ret
  exact ⟨_, rfl, ⟨by rw [← HM.out]; exact HK7.out⟩, hB7⟩
set_option maxRecDepth 100000 in
set_option maxHeartbeats 4000000 in
theorem block_any (gc : Nat) (key inp : List UInt8) (w : World) (hc : Ci w gc key) (hi : inp.length = 16) :
    Calls Try.prog 18 #[.pointer (some ⟨gc, 0, none⟩), .agg (cells8 inp).toArray] w fun e w' => e = .returned (.agg (cells8 (blockL (keysL boxB key) boxB inp)).toArray) ∧ Below w.heap.size w w' := by
  have HC : Kp _ := ⟨hc.blk⟩
  have HI : Kp _ := ⟨hi⟩
  have hgc := hc.blk.lt
  clear hc hi
  go_enter Try.func18, Try.ntmps18
  go_wp2_with (with_reducible refine wpList_box (o := ⟨some 3, _, _, _, _, _⟩) rfl (.tmp 1) rfl rfl ?_)
  intro w1 hk1 hb1 hs1
  have HK1 : Kp _ := ⟨hk1⟩
  clear hk1 hs1
  go_wp2_with (with_reducible refine wpList_alloc (o := ⟨some 4, _, _, _, _, _⟩) tyNonce rfl rfl ?_)
  intro w2 hk2 hb2 hs2
  have HR : Kp _ := ⟨hk2⟩
  have HS : Kp _ := ⟨HK1.out.below hb2 HK1.out.lt⟩
  have hB : Below w.heap.size w w2 := hb1.trans (hb2.mono hb1.size)
  have n1 : w.heap.size < w1.heap.size := HK1.out.lt
  replace HC : Kp _ := ⟨HC.out.below hB hgc⟩
  have HLb : Kp ((cells8 (blockL (keysL boxB key) boxB inp)).length = 16) := ⟨by rw [cells8_length, blockL_length]⟩
  have HLi : Kp ((cells8 inp).length = 16) := ⟨by rw [cells8_length]; exact HI.out⟩
  obtain ⟨g1, hg1⟩ : ∃ g, g = w1.heap.size := ⟨_, rfl⟩
  have hg2 : g1 < w2.heap.size := by rw [hg1]; exact HR.out.lt
  rw [← hg1] at HR n1 ⊢
  clear hk2 hs2 hb1 hb2 HK1 hg1
  go_wp2_with fail
  refine (makeBox_any w2).mono ?_
  rintro e w3 ⟨rfl, hb3⟩
  replace HR : Kp _ := ⟨HR.out.below hb3 HR.out.lt⟩
  replace HS : Kp _ := ⟨HS.out.below hb3 HS.out.lt⟩
  replace HC : Kp _ := ⟨HC.out.below hb3 HC.out.lt⟩
  replace hB := hB.trans (hb3.mono hB.size)
  replace hg2 : g1 < w3.heap.size := Nat.lt_of_lt_of_le hg2 hb3.size
  have HL : Kp ((cells8 boxB).length = 256) := ⟨by rw [cells8_length, boxB_length]⟩
  have HZ : Kp (zero256.length = 256) := ⟨by unfold zero256; exact List.length_replicate⟩
  clear hb3
  go_wp2_with (with_reducible refine wpList_alloc (o := ⟨some 5, _, _, _, _, _⟩) tyTable rfl rfl ?_)
  intro w4 hk4 hb4 hs4
  replace HR : Kp _ := ⟨HR.out.below hb4 HR.out.lt⟩
  replace HS : Kp _ := ⟨HS.out.below hb4 HS.out.lt⟩
  replace HC : Kp _ := ⟨HC.out.below hb4 HC.out.lt⟩
  replace hB := hB.trans (hb4.mono hB.size)
  have HT : Kp _ := ⟨hk4⟩
  obtain ⟨gx, hgx⟩ : ∃ g, g = w3.heap.size := ⟨_, rfl⟩
  have n3 : w.heap.size < gx := by omega
  have n4 : g1 < gx := by omega
  have n5 : gc < gx := by omega
  rw [← hgx] at HT ⊢
  clear hk4 hs4 hb4 hgx
  go_wp2_with (refine wpList_storeAll (o := ⟨none, _, _, _, _, _⟩) (vs := cells8 boxB) rwTable rfl (.tmp 5) (.tmp 9) rfl rfl HT.out HZ.out HL.out (cells8_one _) rfl ?_)
  intro w5 hk5 ho5
  have HX : Kp _ := ⟨hk5⟩
  replace HR : Kp _ := ⟨HR.out.only ho5 (by omega)⟩
  replace HS : Kp _ := ⟨HS.out.only ho5 (by omega)⟩
  replace HC : Kp _ := ⟨HC.out.only ho5 (by omega)⟩
  replace hB := hB.trans (ho5.below (Nat.le_of_lt n3))
  clear hk5 ho5 HT HZ HL n3 n4 n5 hg2
  go_wp2_with fail
  refine wp_region_any (by kernel_rfl) ?_
  change wpAny _ _ _ _ _ _ _ w5.drew
  replace HR : Kp _ := ⟨HR.out.drew⟩
  replace HS : Kp _ := ⟨HS.out.drew⟩
  replace HC : Kp _ := ⟨HC.out.drew⟩
  replace HX : Kp _ := ⟨HX.out.drew⟩
  replace hB := hB.drew
  generalize w5.drew = wS at *
  refine wpAny_take (i := 2) (oi := ⟨some 12, _, _, _, _, _⟩) (v := ?_) rfl (by kernel_rfl) (by kernel_rfl) (by kernel_rfl) (fun _ _ _ h => h) (Or.inl ⟨by rfl, by intro w; go_simp; try rfl⟩) ?_
  try simp only [Act.put, List.setIfInBounds_toArray, List.set_cons_zero, List.set_cons_succ]
  refine wpAny_take (i := 3) (oi := ⟨some 13, _, _, _, _, _⟩) (v := ?_) rfl (by kernel_rfl) (by kernel_rfl) (by kernel_rfl) (fun _ _ _ h => h) (Or.inl ⟨by rfl, by intro w; go_simp; try rfl⟩) ?_
  try simp only [Act.put, List.setIfInBounds_toArray, List.set_cons_zero, List.set_cons_succ]
  refine wpAny_take (i := 4) (oi := ⟨some 14, _, _, _, _, _⟩) (v := ?_) rfl (by kernel_rfl) (by kernel_rfl) (by kernel_rfl) (fun _ _ _ h => h) (Or.inl ⟨by rfl, by intro w; go_simp; try rfl⟩) ?_
  try simp only [Act.put, List.setIfInBounds_toArray, List.set_cons_zero, List.set_cons_succ]
  refine wpAny_ready (rs := [0]) (by kernel_rfl) (by simp) ?_
  refine AllReady.cons (o := ⟨some 10, _, _, _, _, _⟩) rfl (fun K hK => ?_) AllReady.nil
  refine step_load rwNonce rfl (.tmp 3) rfl rfl HS.out (fit_all HLi.out) (take_all HLi.out) ?_
  refine hK _ _ ?_
  clear hK K
  try simp only [Act.put, List.setIfInBounds_toArray, List.set_cons_zero, List.set_cons_succ]
  refine wpAny_ready (rs := [1]) (by kernel_rfl) (by simp) ?_
  refine AllReady.cons (o := ⟨some 11, _, _, _, _, _⟩) rfl (fun K hK => ?_) AllReady.nil
  go_simp
  refine (columns_any inp wS HI.out).mono ?_
  rintro e w61 ⟨rfl, hb'⟩
  refine hK _ _ ?_
  clear hK K
  try simp only [Act.put, List.setIfInBounds_toArray, List.set_cons_zero, List.set_cons_succ]
  replace HR : Kp _ := ⟨HR.out.below hb' HR.out.lt⟩
  replace HS : Kp _ := ⟨HS.out.below hb' HS.out.lt⟩
  replace HC : Kp _ := ⟨HC.out.below hb' HC.out.lt⟩
  replace hB := hB.trans (hb'.mono hB.size)
  try replace HX : Kp _ := ⟨HX.out.below hb' HX.out.lt⟩
  clear hb'
  refine wpAny_ready (rs := [5]) (by kernel_rfl) (by simp) ?_
  refine AllReady.cons (o := ⟨some 15, _, _, _, _, _⟩) rfl (fun K hK => ?_) AllReady.nil
  go_simp
  refine (encipher_any inp gc gx _ _ boxB key w61 HC.out HX.out boxB_length).mono ?_
  rintro e w63 ⟨rfl, hb'⟩
  refine hK _ _ ?_
  clear hK K
  try simp only [Act.put, List.setIfInBounds_toArray, List.set_cons_zero, List.set_cons_succ]
  replace HR : Kp _ := ⟨HR.out.below hb' HR.out.lt⟩
  replace HS : Kp _ := ⟨HS.out.below hb' HS.out.lt⟩
  replace HC : Kp _ := ⟨HC.out.below hb' HC.out.lt⟩
  replace hB := hB.trans (hb'.mono hB.size)
  clear hb'
  refine wpAny_ready (rs := [6]) (by kernel_rfl) (by simp) ?_
  refine AllReady.cons (o := ⟨some 16, _, _, _, _, _⟩) rfl (fun K hK => ?_) AllReady.nil
  go_simp
  refine (bytes_any _ w63 (blockL_length _ _ _)).mono ?_
  rintro e w64 ⟨rfl, hb'⟩
  refine hK _ _ ?_
  clear hK K
  try simp only [Act.put, List.setIfInBounds_toArray, List.set_cons_zero, List.set_cons_succ]
  replace HR : Kp _ := ⟨HR.out.below hb' HR.out.lt⟩
  replace HS : Kp _ := ⟨HS.out.below hb' HS.out.lt⟩
  replace HC : Kp _ := ⟨HC.out.below hb' HC.out.lt⟩
  replace hB := hB.trans (hb'.mono hB.size)
  clear hb'
  refine wpAny_ready (rs := [7]) (by kernel_rfl) (by simp) ?_
  refine AllReady.cons (o := ⟨none, _, _, _, _, _⟩) rfl (fun K hK => ?_) AllReady.nil
  refine step_store rwNonce rfl (.tmp 4) (.tmp 16) rfl rfl rfl HR.out HLb.out (fit_all (l := zero16) rfl) (cells8_one _) ?_
  intro w65 hk ho
  refine hK _ _ ?_
  clear hK K
  simp only [Act.put]
  have HKf : Kp (Blk w65 g1 31 (cells8 (blockL (keysL boxB key) boxB inp))) := ⟨by have h := hk; rw [store_all16 rfl HLb.out] at h; exact h⟩
  replace hB := hB.trans (ho.below (by omega))
  clear hk ho
  refine wpAny_done (by kernel_rfl) ?_ _
  obtain ⟨L, hL⟩ : ∃ L, L = blockL (keysL boxB key) boxB inp := ⟨_, rfl⟩
  have HGL : Kp _ := ⟨hL⟩
  rw [← hL] at HKf HLb
  clear hL
  go_wp2
  exact ret_arr rfl rwNonce rfl HKf.out HLb.out rfl ⟨by rw [HGL.out], hB⟩
end Go.Proofs.Ytleplilcpcgacaa
