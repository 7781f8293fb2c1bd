/- The walk of AesBlocks. -/
import Derived.Test.YtleplilcpcgacaaKnown4
import Derived.Test.YtleplilcpcgacaaHeld
namespace Go.Proofs.Ytleplilcpcgacaa
open Go.RowKit

theorem eqNonce : EqB Try.prog 31 5 16 := ⟨by kernel_rfl, by kernel_rfl, by kernel_rfl⟩
/-- the document's C, as a fact that is carried from call to call -/
structure Cx (w : World) (KA : Option Addr) (kc : Nat) (BA : Option Addr) (bc : Nat) (key : List UInt8) : Prop where
  c : CIs w w.heap.size KA kc (keysL boxB key) BA bc boxB
theorem Cx.next {w0 w1 : World} {KA : Option Addr} {kc : Nat} {BA : Option Addr} {bc : Nat} {key : List UInt8} (h : Cx w0 KA kc BA bc key) (hb : Below w0.heap.size w0 w1) (_ : w0.heap.size ≤ w0.heap.size) : Cx w1 KA kc BA bc key := ⟨h.c.next hb⟩
set_option maxRecDepth 100000 in
set_option maxHeartbeats 4000000 in
theorem walk_aesBlocks (key inp : List UInt8) (n : Int) (w : World) (hk : key.length = 16) (hi : inp.length = 16) (hn : n ≤ 9223372036854775807) :
    Calls Try.prog 4 #[.agg (cells8 key).toArray, .agg (cells8 inp).toArray, .int .i64 n] w fun e w' => e = .returned (.bool true) ∧ Below w.heap.size w w' := by
  have HK : Kp (key.length = 16) := ⟨hk⟩
  have HI : Kp (inp.length = 16) := ⟨hi⟩
  have HN : Kp (n ≤ 9223372036854775807) := ⟨hn⟩
  have HLk : Kp ((cells8 key).length = 16) := ⟨by rw [cells8_length]; exact hk⟩
  have HLi : Kp ((cells8 inp).length = 16) := ⟨by rw [cells8_length]; exact hi⟩
  clear hk hi hn
  go_enter Try.func4, Try.ntmps4
  go_wp2_with (with_reducible refine wpList_box (o := ⟨some 3, _, _, _, _, _⟩) rfl (.tmp 0) rfl rfl ?_)
  intro w1 hk1 hb1 hs1
  have HK1 : Kp _ := ⟨hk1⟩
  clear hk1 hs1
  go_wp2_with (with_reducible refine wpList_box (o := ⟨some 4, _, _, _, _, _⟩) rfl (.tmp 1) rfl rfl ?_)
  intro w2 hk2 hb2 hs2
  have HI2 : Kp _ := ⟨hk2⟩
  have HK2 : Kp _ := ⟨HK1.out.below hb2 HK1.out.lt⟩
  have hB2 : Below w.heap.size w w2 := hb1.trans (hb2.mono hb1.size)
  obtain ⟨g1, hg1⟩ : ∃ g, g = w1.heap.size := ⟨_, rfl⟩
  rw [← hg1] at HI2 ⊢
  clear hk2 hs2 hb1 hb2 HK1 hg1
  go_wp2_with (with_reducible refine wpList_loadAll (o := ⟨some 8, _, _, _, _, _⟩) rwKey rfl (.tmp 3) rfl rfl HK2.out HLk.out ?_)
  go_wp2_with fail
  refine (new_any key w2 HK.out).mono ?_
  rintro e w3 ⟨gc, rfl, hci, hb3⟩
  have HC : Kp _ := ⟨hci⟩
  have HK3 : Kp _ := ⟨HK2.out.below hb3 HK2.out.lt⟩
  have HI3 : Kp _ := ⟨HI2.out.below hb3 HI2.out.lt⟩
  have hB3 := hB2.trans (hb3.mono hB2.size)
  have HRK : Kp (w3.rangeAt w.heap.size 0 (cells8 key)) := ⟨HK3.out.range (n := 16) (take_all HLk.out)⟩
  have HRI : Kp (w3.rangeAt g1 0 (cells8 inp)) := ⟨HI3.out.range (n := 16) (take_all HLi.out)⟩
  have hgl := HI3.out.lt
  have hgk := HK3.out.lt
  have C12 : Kp (∀ W, Below w3.heap.size w3 W → Calls Try.prog 18 #[.pointer (some ⟨gc, 0, none⟩), .agg (cells8 inp).toArray] W fun e w' => e = .returned (.agg (cells8 (blockL (keysL boxB key) boxB inp)).toArray) ∧ Below W.heap.size W w') := ⟨fun W hW => block_any gc key inp W (HC.out.below hW) HI.out⟩
  have HBL : Kp ((blockL (keysL boxB key) boxB inp).length = 16) := ⟨blockL_length _ _ _⟩
  have HNL : Kp ((nextL inp n.toNat).length = 16) := ⟨nextL_length _ _⟩
  have huN : (Try.prog).underlying 31 = some (.array 16 5) := rwNonce.ty
  have huK : (Try.prog).underlying 30 = some (.array 16 5) := rwKey.ty
  have hiN : ((Try.prog).info? 31).map (·.size) = some (cells8 inp).length := by rw [HLi.out]; exact rwNonce.size
  have hiK : ((Try.prog).info? 30).map (·.size) = some (cells8 key).length := by rw [HLk.out]; exact rwKey.size
  clear hci hb3 HK2 HI2 hB2 HK3 HI3 HC
  go_wp2_with fail
  refine wp_region_held_drew (S := fun W => Below w3.heap.size w3 W ∧ W.rangeAt g1 0 (cells8 inp)) (by kernel_rfl) (⟨(Below.refl _ _).drew, HRI.out⟩) (fun hHeld => ?_)
  generalize w3.drew = wS at *
  refine wpAnyH_take (i := 0) (oi := ⟨some 10, _, _, _, _, _⟩) (v := ?_) rfl (by kernel_rfl) (by kernel_rfl) (by kernel_rfl) (fun _ _ _ h => h) (Or.inl ⟨by rfl, by intro w hSw; go_simp; try rfl⟩) (by assumption) ?_
  try simp only [Act.put, List.setIfInBounds_toArray, List.set_cons_zero, List.set_cons_succ]
  refine wpAnyH_take (i := 1) (oi := ⟨some 11, _, _, _, _, _⟩) (v := _) rfl (by kernel_rfl) (by kernel_rfl) (by kernel_rfl) (fun _ _ _ h => h) (yieldsIf_load_mid (by rfl) _ (.tmp 4) rfl _ _ rfl (cells8 inp) _ (fun W hW => hW.2) huN rfl hiN) (by assumption) ?_
  try simp only [Act.put, List.setIfInBounds_toArray, List.set_cons_zero, List.set_cons_succ]
  refine wpAnyH_take (i := 3) (oi := ⟨some 13, _, _, _, _, _⟩) (v := _) rfl (by kernel_rfl) (by kernel_rfl) (by kernel_rfl) (fun _ _ _ h => h) (yieldsIf_load_mid (by rfl) _ (.tmp 3) rfl _ _ rfl (cells8 key) _ (fun W hW => range_below HRK.out hW.1 hgk) huK rfl hiK) (by assumption) ?_
  try simp only [Act.put, List.setIfInBounds_toArray, List.set_cons_zero, List.set_cons_succ]
  refine wpAnyH_take (i := 5) (oi := ⟨some 15, _, _, _, _, _⟩) (v := _) rfl (by kernel_rfl) (by kernel_rfl) (by kernel_rfl) (fun _ _ _ h => h) (yieldsIf_load_mid (by rfl) _ (.tmp 4) rfl _ _ rfl (cells8 inp) _ (fun W hW => hW.2) huN rfl hiN) (by assumption) ?_
  try simp only [Act.put, List.setIfInBounds_toArray, List.set_cons_zero, List.set_cons_succ]
  refine wpAnyH_ready (rs := [2]) (by kernel_rfl) (by simp) ?_
  refine AllReadyH.cons (o := ⟨some 12, _, _, _, _, _⟩) rfl (fun K hK => ?_) AllReadyH.nil
  go_simp
  refine (C12.out _ hHeld.1).mono ?_
  rintro e w51 ⟨rfl, hb'⟩
  refine hK.out _ _ (keep_call hHeld hgl hb') (fun hHeld2 => ?_)
  clear hK K hb' hHeld
  have hHeld := hHeld2
  clear hHeld2
  try simp only [Act.put, List.setIfInBounds_toArray, List.set_cons_zero, List.set_cons_succ]
  refine wpAnyH_ready (rs := [4]) (by kernel_rfl) (by simp) ?_
  refine AllReadyH.cons (o := ⟨some 14, _, _, _, _, _⟩) rfl (fun K hK => ?_) AllReadyH.nil
  go_simp
  refine (refnew_any key _ HK.out).mono ?_
  rintro e w52 ⟨KA, kc, BA, bc, rfl, hci, hb'⟩
  have HCx : Kp (Cx w52 KA kc BA bc key) := ⟨⟨hci⟩⟩
  clear hci
  refine hK.out _ _ (keep_call hHeld hgl hb') (fun hHeld2 => ?_)
  clear hK K hb' hHeld
  have hHeld := hHeld2
  clear hHeld2
  try simp only [Act.put, List.setIfInBounds_toArray, List.set_cons_zero, List.set_cons_succ]
  refine wpAnyH_ready (rs := [6]) (by kernel_rfl) (by simp) ?_
  refine AllReadyH.cons (o := ⟨some 16, _, _, _, _, _⟩) rfl (fun K hK => ?_) AllReadyH.nil
  go_simp
  refine (refblock_any KA kc (keysL boxB key) BA bc boxB inp _ HCx.out.c HI.out).mono ?_
  rintro e w53 ⟨rfl, hb'⟩
  clear HCx
  refine hK.out _ _ (keep_call hHeld hgl hb') (fun hHeld2 => ?_)
  clear hK K hb' hHeld
  have hHeld := hHeld2
  clear hHeld2
  try simp only [Act.put, List.setIfInBounds_toArray, List.set_cons_zero, List.set_cons_succ]
  refine wpAnyH_take (i := 7) (oi := ⟨some 17, _, _, _, _, _⟩) (v := _) rfl (by kernel_rfl) (by kernel_rfl) (by kernel_rfl) (fun _ _ _ h => h) (yieldsIf_eql (by rfl) eqNonce Try.eqGuardType31 (.tmp 12) (.tmp 16) rfl (blockL (keysL boxB key) boxB inp) (blockL (keysL boxB key) boxB inp) rfl rfl HBL.out HBL.out (beq_self_eq_true _)) (by assumption) ?_
  try simp only [Act.put, List.setIfInBounds_toArray, List.set_cons_zero, List.set_cons_succ]
  refine wpAnyH_take (i := 8) (oi := ⟨some 18, _, _, _, _, _⟩) (v := ?_) rfl (by kernel_rfl) (by kernel_rfl) (by kernel_rfl) (fun _ _ _ h => h) (Or.inl ⟨by rfl, by intro w hSw; go_simp; try rfl⟩) (by assumption) ?_
  try simp only [Act.put, List.setIfInBounds_toArray, List.set_cons_zero, List.set_cons_succ]
  refine wpAnyH_take (i := 9) (oi := ⟨some 19, _, _, _, _, _⟩) (v := _) rfl (by kernel_rfl) (by kernel_rfl) (by kernel_rfl) (fun _ _ _ h => h) (yieldsIf_load_mid (by rfl) _ (.tmp 4) rfl _ _ rfl (cells8 inp) _ (fun W hW => hW.2) huN rfl hiN) (by assumption) ?_
  try simp only [Act.put, List.setIfInBounds_toArray, List.set_cons_zero, List.set_cons_succ]
  refine wpAnyH_take (i := 10) (oi := ⟨some 20, _, _, _, _, _⟩) (v := ?_) rfl (by kernel_rfl) (by kernel_rfl) (by kernel_rfl) (fun _ _ _ h => h) (Or.inl ⟨by rfl, by intro w hSw; go_simp; try rfl⟩) (by assumption) ?_
  try simp only [Act.put, List.setIfInBounds_toArray, List.set_cons_zero, List.set_cons_succ]
  refine wpAnyH_take (i := 12) (oi := ⟨some 22, _, _, _, _, _⟩) (v := _) rfl (by kernel_rfl) (by kernel_rfl) (by kernel_rfl) (fun _ _ _ h => h) (yieldsIf_load_mid (by rfl) _ (.tmp 4) rfl _ _ rfl (cells8 inp) _ (fun W hW => hW.2) huN rfl hiN) (by assumption) ?_
  try simp only [Act.put, List.setIfInBounds_toArray, List.set_cons_zero, List.set_cons_succ]
  refine wpAnyH_take (i := 13) (oi := ⟨some 23, _, _, _, _, _⟩) (v := ?_) rfl (by kernel_rfl) (by kernel_rfl) (by kernel_rfl) (fun _ _ _ h => h) (Or.inl ⟨by rfl, by intro w hSw; go_simp; try rfl⟩) (by assumption) ?_
  try simp only [Act.put, List.setIfInBounds_toArray, List.set_cons_zero, List.set_cons_succ]
  refine wpAnyH_ready (rs := [11]) (by kernel_rfl) (by simp) ?_
  refine AllReadyH.cons (o := ⟨some 21, _, _, _, _, _⟩) rfl (fun K hK => ?_) AllReadyH.nil
  go_simp
  refine (next_any inp n _ HI.out HN.out).mono ?_
  rintro e w54 ⟨rfl, hb'⟩
  refine hK.out _ _ (keep_call hHeld hgl hb') (fun hHeld2 => ?_)
  clear hK K hb' hHeld
  have hHeld := hHeld2
  clear hHeld2
  try simp only [Act.put, List.setIfInBounds_toArray, List.set_cons_zero, List.set_cons_succ]
  refine wpAnyH_ready (rs := [14]) (by kernel_rfl) (by simp) ?_
  refine AllReadyH.cons (o := ⟨some 24, _, _, _, _, _⟩) rfl (fun K hK => ?_) AllReadyH.nil
  go_simp
  refine (refnext_any inp n _ HI.out HN.out).mono ?_
  rintro e w55 ⟨rfl, hb'⟩
  refine hK.out _ _ (keep_call hHeld hgl hb') (fun hHeld2 => ?_)
  clear hK K hb' hHeld
  have hHeld := hHeld2
  clear hHeld2
  try simp only [Act.put, List.setIfInBounds_toArray, List.set_cons_zero, List.set_cons_succ]
  refine wpAnyH_take (i := 15) (oi := ⟨some 25, _, _, _, _, _⟩) (v := _) rfl (by kernel_rfl) (by kernel_rfl) (by kernel_rfl) (fun _ _ _ h => h) (yieldsIf_eql (by rfl) eqNonce Try.eqGuardType31 (.tmp 21) (.tmp 24) rfl (nextL inp n.toNat) (nextL inp n.toNat) rfl rfl HNL.out HNL.out (beq_self_eq_true _)) (by assumption) ?_
  try simp only [Act.put, List.setIfInBounds_toArray, List.set_cons_zero, List.set_cons_succ]
  refine wpAnyH_take (i := 16) (oi := ⟨some 26, _, _, _, _, _⟩) (v := ?_) rfl (by kernel_rfl) (by kernel_rfl) (by kernel_rfl) (fun _ _ _ h => h) (Or.inl ⟨by rfl, by intro w hSw; go_simp; try rfl⟩) (by assumption) ?_
  try simp only [Act.put, List.setIfInBounds_toArray, List.set_cons_zero, List.set_cons_succ]
  refine wpAnyH_take (i := 17) (oi := ⟨some 27, _, _, _, _, _⟩) (v := ?_) rfl (by kernel_rfl) (by kernel_rfl) (by kernel_rfl) (fun _ _ _ h => h) (Or.inl ⟨by rfl, by intro w hSw; go_simp; try rfl⟩) (by assumption) ?_
  try simp only [Act.put, List.setIfInBounds_toArray, List.set_cons_zero, List.set_cons_succ]
  refine wpAnyH_ready (rs := [18]) (by kernel_rfl) (by simp) ?_
  refine AllReadyH.cons (o := ⟨some 28, _, _, _, _, _⟩) rfl (fun K hK => ?_) AllReadyH.nil
  go_simp
  refine (known4_any _).mono ?_
  rintro e w56 ⟨rfl, hb'⟩
  refine hK.out _ _ (keep_call hHeld hgl hb') (fun hHeld2 => ?_)
  clear hK K hb' hHeld
  have hHeld := hHeld2
  clear hHeld2
  try simp only [Act.put, List.setIfInBounds_toArray, List.set_cons_zero, List.set_cons_succ]
  refine wpAnyH_take (i := 19) (oi := ⟨some 29, _, _, _, _, _⟩) (v := ?_) rfl (by kernel_rfl) (by kernel_rfl) (by kernel_rfl) (fun _ _ _ h => h) (Or.inl ⟨by rfl, by intro w hSw; go_simp; try rfl⟩) (by assumption) ?_
  try simp only [Act.put, List.setIfInBounds_toArray, List.set_cons_zero, List.set_cons_succ]
  refine wpAnyH_take (i := 20) (oi := ⟨some 6, _, _, _, _, _⟩) (v := ?_) rfl (by kernel_rfl) (by kernel_rfl) (by kernel_rfl) (fun _ _ _ h => h) (Or.inl ⟨by rfl, by intro w hSw; go_simp; try rfl⟩) (by assumption) ?_
  try simp only [Act.put, List.setIfInBounds_toArray, List.set_cons_zero, List.set_cons_succ]
  refine wpAnyH_done (by kernel_rfl) ?_ _
  go_wp2
  go_ret
  exact ⟨rfl, hB3.trans (hHeld.1.mono hB3.size)⟩
end Go.Proofs.Ytleplilcpcgacaa
