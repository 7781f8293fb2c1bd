/- The contracts of block.Show and When.
   What is hidden is shown; heads tell when: plain lemmas.
   Bytes of a constant text, as the walk meets them: the row is laid, and marked. No program is named here.
   What the chapter's example fixes.
   The contract of the document's Head. -/
import Derived.Test.YtckmobpjdpjocaaDoorG08
import Derived.Deep.RegionHeld3
import Derived.StillTailTactics
import Derived.Test.YtckmobpjdpjocaaDoorG01
import Derived.Lib.SlBytesConst
import Derived.Test.YtckmobpjdpjocaaDoorG03
import Derived.Deep.LoopGhost
import Derived.WalkMore
namespace Go.Proofs.YtckmobpjdpjocaaDoor
open Go.RowKit

/-- b is not a block that is kept -/
def wrongL (b : List UInt8) : Prop := b.length ≠ 272 ∨ (b.drop 12).take 4 ≠ z4
theorem cut_wrong (A : Option Addr) (n c : Nat) (b : List UInt8) (h : wrongL b) (W : World) (ha : Bs W W.heap.size A n c b) :
    Calls Tryd.prog 33 #[.slice A n c] W fun e w' => ∃ v g, e = .returned (.tuple #[.agg (cells8 z272).toArray, v]) ∧ Flt w' v g ∧ Below W.heap.size W w' := by
  have hl := ha.len
  by_cases hn : n = 272
  · have h2 : (b.drop 12).take 4 ≠ z4 := h.resolve_left (by omega)
    refine (cut_any A n c b W ha hn).mono ?_
    rintro e w' ⟨h3 | ⟨_, v, g, rfl, hf⟩, hb⟩
    · exact absurd h3.1 h2
    · exact ⟨v, g, rfl, hf, hb⟩
  · exact cut_long A n c b W ha hn
theorem cut_right (A : Option Addr) (n c : Nat) (b : List UInt8) (h : ¬ wrongL b) (W : World) (ha : Bs W W.heap.size A n c b) :
    Calls Tryd.prog 33 #[.slice A n c] W fun e w' => e = .returned (.tuple #[.agg (cells8 b).toArray, .nilIface]) ∧ Below W.heap.size W w' := by
  have hl := ha.len
  have h1 : b.length = 272 := by
    rcases Nat.decEq b.length 272 with h3 | h3
    · exact absurd (.inl h3) h
    · exact h3
  refine (cut_any A n c b W ha (by omega)).mono ?_
  rintro e w' ⟨⟨_, rfl⟩ | ⟨h2, _⟩, hb⟩
  · exact ⟨rfl, hb⟩
  · exact absurd (.inr h2) h

set_option maxRecDepth 100000 in
set_option maxHeartbeats 2000000 in
theorem show_bad (key : List UInt8) (A : Option Addr) (n c : Nat) (b : List UInt8) (w : World) (ha : Bs w w.heap.size A n c b) (h : wrongL b) (hE : Ety w) :
    Calls Tryd.prog 16 #[.agg (cells8 key).toArray, .slice A n c] w fun x w' => x = .returned (.tuple #[.slice none 0 0, .int .i64 4]) ∧ Below w.heap.size w w' := by
  have HA : Kp _ := ⟨ha⟩
  have HE : Kp _ := ⟨hE⟩
  have HLz : Kp ((cells8 z272).length = 272) := ⟨by rw [cells8_length]; exact z272_length⟩
  have HCut : Kp _ := ⟨cut_wrong A n c b h⟩
  clear ha hE
  go_enter Tryd.func16, Tryd.ntmps16
  go_wp2_with (with_reducible refine wpList_box (o := ⟨some 2, _, _, _, _, _⟩) rfl (.tmp 0) rfl rfl ?_)
  intro w1 hk1 hb1 hs1
  have HA1 : Kp _ := ⟨HA.out.next hb1 (Nat.le_refl _)⟩
  have HE1 : Kp _ := ⟨HE.out.next hb1⟩
  clear hk1 hs1 HA HE h
  go_wp2_with fail
  refine (HCut.out w1 HA1.out).mono ?_
  rintro x w2 ⟨v, g, rfl, hf, hb2⟩
  have HF : Kp (Flt w2 v g) := ⟨hf⟩
  have HE2 : Kp _ := ⟨HE1.out.next hb2⟩
  have hv := hf.val
  have hB2 := hb1.trans (hb2.mono hb1.size)
  clear hf HA1 HE1 hb1 hb2 HCut
  obtain ⟨L, hL⟩ : ∃ L, L = cells8 z272 := ⟨_, rfl⟩
  have HOne : Kp (∀ v ∈ L, v.oneCell' = true) := ⟨by rw [hL]; exact cells8_one _⟩
  have HTy : Kp (Ty Tryd.prog 71 L) := ⟨by rw [hL]; exact tyKept⟩
  rw [← hL] at HLz ⊢
  clear hL
  go_wp2_with (with_reducible refine wpList_alloc (o := ⟨some 6, _, _, _, _, _⟩) HTy.out rfl rfl ?_)
  intro w3 hk3 hb3 hs3
  have HK3 : Kp _ := ⟨hk3⟩
  have HF3 : Kp _ := ⟨HF.out.below hb3 HF.out.lt⟩
  have HE3 : Kp _ := ⟨HE2.out.next hb3⟩
  have hlt := HF.out.lt
  have hB3 := hB2.trans (hb3.mono hB2.size)
  have h2 := hB2.size
  have h0 := HE2.out.lt
  clear hk3 hs3 hb3 hB2 HF HE2
  go_wp2_with (with_reducible refine wpList_storeAll (o := ⟨none, _, _, _, _, _⟩) (vs := L) rwKept rfl (.tmp 6) (.tmp 11) rfl rfl HK3.out HLz.out HLz.out HOne.out rfl ?_)
  intro w4 hk4 ho4
  have HF4 : Kp (Flt w4 v g) := ⟨⟨HF3.out.val, by rw [ho4.size]; exact HF3.out.lt, by have h := HF3.out.cell; simp only [World.cell?] at h ⊢; rw [ho4.block g (by omega)]; exact h⟩⟩
  have HE4 : Kp (Ety w4) := ⟨⟨by have h := HE3.out.cell; simp only [World.cell?] at h ⊢; rw [ho4.block 0 (by omega)]; exact h⟩⟩
  have hB4 := hB3.trans (ho4.below h2)
  clear hk4 ho4 HK3 HF3 HE3 hB3 hlt h2 h0
  subst hv
  go_wp2_with fail
  refine (number_bad _ g w4 HF4.out HE4.out).mono ?_
  rintro x w5 ⟨rfl, hb5⟩
  have hB5 := hB4.trans (hb5.mono hB4.size)
  clear hb5 hB4 HF4 HE4
  go_wp2
  go_ret2
  exact ⟨rfl, hB5⟩

set_option maxRecDepth 100000 in
set_option maxHeartbeats 2000000 in
theorem when_bad (A : Option Addr) (n c : Nat) (b : List UInt8) (w : World) (ha : Bs w w.heap.size A n c b) (h : wrongL b) (hE : Ety w) :
    Calls Tryd.prog 18 #[.slice A n c] w fun x w' => x = .returned (.tuple #[.int .u64 0, .int .u32 0, .int .i64 4]) ∧ Below w.heap.size w w' := by
  have HA1 : Kp _ := ⟨ha⟩
  have HE1 : Kp _ := ⟨hE⟩
  have HLz : Kp ((cells8 z272).length = 272) := ⟨by rw [cells8_length]; exact z272_length⟩
  have HCut : Kp _ := ⟨cut_wrong A n c b h⟩
  have hb1 : Below w.heap.size w w := Below.refl _ _
  clear ha hE h
  go_enter Tryd.func18, Tryd.ntmps18
  go_wp2_with fail
  refine (HCut.out w HA1.out).mono ?_
  rintro x w2 ⟨v, g, rfl, hf, hb2⟩
  have HF : Kp (Flt w2 v g) := ⟨hf⟩
  have HE2 : Kp _ := ⟨HE1.out.next hb2⟩
  have hv := hf.val
  have hB2 := hb1.trans (hb2.mono hb1.size)
  clear hf HA1 HE1 hb1 hb2 HCut
  obtain ⟨L, hL⟩ : ∃ L, L = cells8 z272 := ⟨_, rfl⟩
  have HOne : Kp (∀ v ∈ L, v.oneCell' = true) := ⟨by rw [hL]; exact cells8_one _⟩
  have HTy : Kp (Ty Tryd.prog 71 L) := ⟨by rw [hL]; exact tyKept⟩
  rw [← hL] at HLz ⊢
  clear hL
  go_wp2_with (with_reducible refine wpList_alloc (o := ⟨some 5, _, _, _, _, _⟩) HTy.out rfl rfl ?_)
  intro w3 hk3 hb3 hs3
  have HK3 : Kp _ := ⟨hk3⟩
  have HF3 : Kp _ := ⟨HF.out.below hb3 HF.out.lt⟩
  have HE3 : Kp _ := ⟨HE2.out.next hb3⟩
  have hlt := HF.out.lt
  have hB3 := hB2.trans (hb3.mono hB2.size)
  have h2 := hB2.size
  have h0 := HE2.out.lt
  clear hk3 hs3 hb3 hB2 HF HE2
  go_wp2_with (with_reducible refine wpList_storeAll (o := ⟨none, _, _, _, _, _⟩) (vs := L) rwKept rfl (.tmp 5) (.tmp 10) rfl rfl HK3.out HLz.out HLz.out HOne.out rfl ?_)
  intro w4 hk4 ho4
  have HF4 : Kp (Flt w4 v g) := ⟨⟨HF3.out.val, by rw [ho4.size]; exact HF3.out.lt, by have h := HF3.out.cell; simp only [World.cell?] at h ⊢; rw [ho4.block g (by omega)]; exact h⟩⟩
  have HE4 : Kp (Ety w4) := ⟨⟨by have h := HE3.out.cell; simp only [World.cell?] at h ⊢; rw [ho4.block 0 (by omega)]; exact h⟩⟩
  have hB4 := hB3.trans (ho4.below h2)
  clear hk4 ho4 HK3 HF3 HE3 hB3 hlt h2 h0
  subst hv
  go_wp2_with fail
  refine (number_bad _ g w4 HF4.out HE4.out).mono ?_
  rintro x w5 ⟨rfl, hb5⟩
  have hB5 := hB4.trans (hb5.mono hB4.size)
  clear hb5 hB4 HF4 HE4
  go_wp2
  refine bodyPost_ret (results_tmp3 rfl _ _ _) rfl ?_
  exact ⟨rfl, hB5⟩

set_option maxRecDepth 100000 in
set_option maxHeartbeats 4000000 in
theorem show_any (key : List UInt8) (A : Option Addr) (n c : Nat) (b : List UInt8) (w : World) (hk : key.length = 16) (ha : Bs w w.heap.size A n c b) (h : ¬ wrongL b) :
    Calls Tryd.prog 16 #[.agg (cells8 key).toArray, .slice A n c] w fun x w' => ∃ A' c', x = .returned (.tuple #[.slice A' 256 c', .int .i64 0]) ∧ Bs w' w'.heap.size A' 256 c' (showL key b) ∧ Below w.heap.size w w' := by
  have HA : Kp _ := ⟨ha⟩
  have HK : Kp _ := ⟨hk⟩
  have HKl : Kp ((cells8 key).length = 16) := ⟨by rw [cells8_length]; exact hk⟩
  have HCut : Kp _ := ⟨cut_right A n c b h⟩
  have hbl : b.length = 272 := Classical.not_not.1 fun h3 => h (.inl h3)
  have HBc : Kp ((cells8 b).length = 272) := ⟨by rw [cells8_length]; exact hbl⟩
  have HLh : Kp ((b.take 16).length = 16) := ⟨by simp [hbl]⟩
  have HLt : Kp ((b.drop 16).length = 256) := ⟨by simp [hbl]⟩
  have HLc : Kp ((cells8 (b.take 16)).length = 16) := ⟨by rw [cells8_length]; exact HLh.out⟩
  clear ha hk h hbl
  go_enter Tryd.func16, Tryd.ntmps16
  go_wp2_with (with_reducible refine wpList_box (o := ⟨some 2, _, _, _, _, _⟩) rfl (.tmp 0) rfl rfl ?_)
  intro w1 hk1 hb1 hs1
  have HA1 : Kp _ := ⟨HA.out.next hb1 (Nat.le_refl _)⟩
  have HB1 : Kp _ := ⟨hk1⟩
  clear hk1 hs1 HA
  go_wp2_with fail
  refine (HCut.out w1 HA1.out).mono ?_
  rintro x w2 ⟨rfl, hb2⟩
  have hB2 := hb1.trans (hb2.mono hb1.size)
  have HZc : Kp ((cells8 z272).length = 272) := ⟨by rw [cells8_length]; exact z272_length⟩
  have HOne : Kp (∀ v ∈ cells8 b, v.oneCell' = true) := ⟨cells8_one _⟩
  go_wp2_with (with_reducible refine wpList_alloc (o := ⟨some 6, _, _, _, _, _⟩) tyKept rfl rfl ?_)
  intro w3 hk3 hb3 hs3
  have HK3 : Kp _ := ⟨hk3⟩
  have hB3 := hB2.trans (hb3.mono hB2.size)
  have h2 := hB2.size
  have HB2 : Kp _ := ⟨HB1.out.below hb2 HB1.out.lt⟩
  have HB3 : Kp _ := ⟨HB2.out.below hb3 HB2.out.lt⟩
  have h3 : w.heap.size < w2.heap.size := HB2.out.lt
  obtain ⟨gp, hgp⟩ : ∃ g, g = w2.heap.size := ⟨_, rfl⟩
  rw [← hgp] at HK3 h2 h3 ⊢
  clear hk3 hs3 hgp
  go_wp2_with (with_reducible refine wpList_storeAll (o := ⟨none, _, _, _, _, _⟩) (vs := cells8 b) rwKept rfl (.tmp 6) (.tmp 11) rfl rfl HK3.out HZc.out HBc.out HOne.out rfl ?_)
  intro w4 hk4 ho4
  have HP4 : Kp _ := ⟨hk4⟩
  have hB4 := hB3.trans (ho4.below h2)
  have HB4 : Kp _ := ⟨HB3.out.only ho4 (by omega)⟩
  have HS : Kp (SD w4 w4 w.heap.size 23 (cells8 key) gp 71 (cells8 b)) := ⟨⟨Below.refl _ _, HB4.out, hk4, HB4.out.lt, hk4.lt⟩⟩
  have HRh : Kp (∀ W, Blk W gp 71 (cells8 b) → W.rangeAt gp 0 (cells8 (b.take 16))) := ⟨fun W hW => hW.range (n := 16) (by rw [List.drop_zero]; simp [cells8, List.map_take])⟩
  have HBt : Kp (∀ W, Blk W gp 71 (cells8 b) → Bs W W.heap.size (some ⟨gp, 16, none⟩) 256 256 (b.drop 16)) := ⟨fun W hW => hW.bytes (o := 16) hW.lt (by rw [List.take_of_length_le (by rw [List.length_drop, HBc.out]; decide)]; simp [cells8, List.map_drop]) HLt.out 256 (Nat.le_refl _) (by simp [maxLen])⟩
  clear hk4 ho4 HK3 HB1 HB2 HB3 HB4 hB3 HP4 h2 h3 HA1 hB2 hb1 hb2 hb3 HCut HZc HOne HBc
  go_wp2_with fail
  refine wp_region_held_drew (S := fun W => SD w4 W w.heap.size 23 (cells8 key) gp 71 (cells8 b)) (by kernel_rfl) (HS.out.drew) (fun hHeld => ?_)
  generalize w4.drew = wS at *
  refine wpAnyH_take (i := 0) (oi := ⟨some 17, _, _, _, _, _⟩) (v := _) rfl (by kernel_rfl) (by kernel_rfl) (by kernel_rfl) (fun _ _ _ h => h) (yieldsIf_load_mid (by rfl) 23 (.tmp 2) rfl w.heap.size 0 rfl (cells8 key) _ (fun W hW => hW.a.all) rwKey.ty rwKey.row (by rw [rwKey.size, HKl.out])) (by assumption) ?_
  try simp only [Act.put, List.setIfInBounds_toArray, List.set_cons_zero, List.set_cons_succ]
  refine wpAnyH_take (i := 2) (oi := ⟨some 19, _, _, _, _, _⟩) (v := ?_) rfl (by kernel_rfl) (by kernel_rfl) (by kernel_rfl) (fun _ _ _ h => h) (Or.inl ⟨by rfl, by intro w hSw; go_simp; try rfl⟩) (by assumption) ?_
  try simp only [Act.put, List.setIfInBounds_toArray, List.set_cons_zero, List.set_cons_succ]
  refine wpAnyH_take (i := 3) (oi := ⟨some 20, _, _, _, _, _⟩) (v := _) rfl (by kernel_rfl) (by kernel_rfl) (by kernel_rfl) (fun _ _ _ h => h) (yieldsIf_load_mid (by rfl) 39 (.tmp 19) rfl gp 0 rfl (cells8 (b.take 16)) _ (fun W hW => HRh.out W hW.b) rwNonce.ty rwNonce.row (by rw [rwNonce.size, HLc.out])) (by assumption) ?_
  try simp only [Act.put, List.setIfInBounds_toArray, List.set_cons_zero, List.set_cons_succ]
  refine wpAnyH_take (i := 4) (oi := ⟨some 21, _, _, _, _, _⟩) (v := ?_) rfl (by kernel_rfl) (by kernel_rfl) (by kernel_rfl) (fun _ _ _ h => h) (Or.inl ⟨by rfl, by intro w hSw; go_simp; try rfl⟩) (by assumption) ?_
  try simp only [Act.put, List.setIfInBounds_toArray, List.set_cons_zero, List.set_cons_succ]
  refine wpAnyH_take (i := 5) (oi := ⟨some 22, _, _, _, _, _⟩) (v := ?_) rfl (by kernel_rfl) (by kernel_rfl) (by kernel_rfl) (fun _ _ _ h => h) (Or.inl ⟨by rfl, by intro w hSw; go_simp; try rfl⟩) (by assumption) ?_
  try simp only [Act.put, List.setIfInBounds_toArray, List.set_cons_zero, List.set_cons_succ]
  refine wpAnyH_ready (rs := [1]) (by kernel_rfl) (by simp) ?_
  refine AllReadyH.cons (o := ⟨some 18, _, _, _, _, _⟩) rfl (fun K hK => ?_) AllReadyH.nil
  go_simp
  refine (new_any key wS HK.out).mono ?_
  rintro x w51 ⟨gc, rfl, hci, hb'⟩
  have HC : Kp _ := ⟨hci⟩
  refine hK.out _ _ (hHeld.next hb') (fun hHeld2 => ?_)
  clear hb' hci
  clear hK K hHeld
  have hHeld := hHeld2
  clear hHeld2
  try simp only [Act.put, List.setIfInBounds_toArray, List.set_cons_zero, List.set_cons_succ]
  refine wpAnyH_ready (rs := [6]) (by kernel_rfl) (by simp) ?_
  refine AllReadyH.cons (o := ⟨some 23, _, _, _, _, _⟩) rfl (fun K hK => ?_) AllReadyH.nil
  have HBp : Kp _ := ⟨HBt.out _ hHeld.b⟩
  go_simp
  refine (xor_any gc key (b.take 16) (some ⟨gp, 16, none⟩) 256 256 (b.drop 16) w51 HC.out HLh.out HBp.out (by omega)).mono ?_
  rintro x w52 ⟨A5, d5, rfl, hx5, hb'⟩
  have HX5 : Kp _ := ⟨hx5⟩
  refine hK.out _ _ (hHeld.next hb') (fun hHeld2 => ?_)
  clear hb' hx5 HC HBp
  clear hK K hHeld
  have hHeld := hHeld2
  clear hHeld2
  try simp only [Act.put, List.setIfInBounds_toArray, List.set_cons_zero, List.set_cons_succ]
  refine wpAnyH_take (i := 7) (oi := ⟨some 4, _, _, _, _, _⟩) (v := ?_) rfl (by kernel_rfl) (by kernel_rfl) (by kernel_rfl) (fun _ _ _ h => h) (Or.inl ⟨by rfl, by intro w hSw; go_simp; try rfl⟩) (by assumption) ?_
  try simp only [Act.put, List.setIfInBounds_toArray, List.set_cons_zero, List.set_cons_succ]
  refine wpAnyH_take (i := 8) (oi := ⟨some 5, _, _, _, _, _⟩) (v := ?_) rfl (by kernel_rfl) (by kernel_rfl) (by kernel_rfl) (fun _ _ _ h => h) (Or.inl ⟨by rfl, by intro w hSw; go_simp; try rfl⟩) (by assumption) ?_
  try simp only [Act.put, List.setIfInBounds_toArray, List.set_cons_zero, List.set_cons_succ]
  refine wpAnyH_done (by kernel_rfl) ?_ _
  have hB := hB4.trans (hHeld.below.mono hB4.size)
  clear hHeld
  go_wp2
  go_ret2
  exact ⟨A5, d5, rfl, HX5.out, hB⟩
theorem get_st (A : Option Addr) (n c : Nat) (xs : List UInt8) (w : World) (L : Nat) (ha : Bs w L A n c xs) :
    Calls Tryd.prog 34 #[.slice A n c] w fun e w' => e = .returned (.int .u64 (getN (xs.drop (n - 8)))) ∧ w' = w := (get_any A n c xs w L ha).mono fun _ _ h => ⟨h.1, h.2.symm⟩
set_option maxRecDepth 100000 in
set_option maxHeartbeats 4000000 in
theorem when_any (A : Option Addr) (n c : Nat) (b : List UInt8) (w : World) (ha : Bs w w.heap.size A n c b) (h : ¬ wrongL b) :
    Calls Tryd.prog 18 #[.slice A n c] w fun x w' => x = .returned (.tuple #[.int .u64 (getN (b.take 8) : Nat), .int .u32 (getN ((b.drop 8).take 4) : Nat), .int .i64 0]) ∧ Below w.heap.size w w' := by
  have HA1 : Kp _ := ⟨ha⟩
  have HCut : Kp _ := ⟨cut_right A n c b h⟩
  have hbl : b.length = 272 := Classical.not_not.1 fun h3 => h (.inl h3)
  have HBc : Kp ((cells8 b).length = 272) := ⟨by rw [cells8_length]; exact hbl⟩
  have HL8 : Kp ((b.take 8).length = 8) := ⟨by simp [hbl]⟩
  have HL4 : Kp (((b.drop 8).take 4).length = 4) := ⟨by simp [hbl]⟩
  have hb1 : Below w.heap.size w w := Below.refl _ _
  clear ha h hbl
  go_enter Tryd.func18, Tryd.ntmps18
  go_wp2_with fail
  refine (HCut.out w HA1.out).mono ?_
  rintro x w2 ⟨rfl, hb2⟩
  have hB2 := hb1.trans (hb2.mono hb1.size)
  have HZc : Kp ((cells8 z272).length = 272) := ⟨by rw [cells8_length]; exact z272_length⟩
  have HOne : Kp (∀ v ∈ cells8 b, v.oneCell' = true) := ⟨cells8_one _⟩
  go_wp2_with (with_reducible refine wpList_alloc (o := ⟨some 5, _, _, _, _, _⟩) tyKept rfl rfl ?_)
  intro w3 hk3 hb3 hs3
  have HK3 : Kp _ := ⟨hk3⟩
  have hB3 := hB2.trans (hb3.mono hB2.size)
  have h2 := hB2.size
  obtain ⟨gp, hgp⟩ : ∃ g, g = w2.heap.size := ⟨_, rfl⟩
  rw [← hgp] at HK3 h2 ⊢
  clear hk3 hs3 hgp
  go_wp2_with (with_reducible refine wpList_storeAll (o := ⟨none, _, _, _, _, _⟩) (vs := cells8 b) rwKept rfl (.tmp 5) (.tmp 10) rfl rfl HK3.out HZc.out HBc.out HOne.out rfl ?_)
  intro w4 hk4 ho4
  have HP4 : Kp _ := ⟨hk4⟩
  have hB4 := hB3.trans (ho4.below h2)
  have HG1 : Kp (∀ W, Blk W gp 71 (cells8 b) → Bs W W.heap.size (some ⟨gp, 0, none⟩) 8 16 (b.take 8)) := ⟨fun W hW => hW.bytes (o := 0) hW.lt (by rw [List.drop_zero]; simp [cells8, List.map_take]) HL8.out 16 (by omega) (by simp [maxLen])⟩
  have HG2 : Kp (∀ W, Blk W gp 71 (cells8 b) → Bs W W.heap.size (some ⟨gp, 8, none⟩) 4 8 ((b.drop 8).take 4)) := ⟨fun W hW => hW.bytes (o := 8) hW.lt (by simp [cells8, List.map_take, List.map_drop]) HL4.out 8 (by omega) (by simp [maxLen])⟩
  have hlt : getN ((b.drop 8).take 4) < 4294967296 := by have := getN_lt ((b.drop 8).take 4); rw [HL4.out] at this; exact this
  obtain ⟨N1, hN1⟩ : ∃ N, N = getN (b.take 8) := ⟨_, rfl⟩
  obtain ⟨N2, hN2⟩ : ∃ N, N = getN ((b.drop 8).take 4) := ⟨_, rfl⟩
  have HN1 : Kp _ := ⟨hN1⟩
  have HN2 : Kp _ := ⟨hN2⟩
  rw [← hN2] at hlt
  have hltI : (N2 : Int) < 4294967296 := by omega
  have HC1 : Kp (∀ W, Blk W gp 71 (cells8 b) → Calls Tryd.prog 34 #[.slice (some ⟨gp, 0, none⟩) 8 16] W fun e w' => e = .returned (.int .u64 (N1 : Nat)) ∧ w' = W) := ⟨fun W hW => by
    have h1 := get_st _ _ _ _ W _ (HG1.out W hW)
    rwa [show 8 - 8 = 0 from rfl, List.drop_zero, ← hN1] at h1⟩
  have HC2 : Kp (∀ W, Blk W gp 71 (cells8 b) → Calls Tryd.prog 34 #[.slice (some ⟨gp, 8, none⟩) 4 8] W fun e w' => e = .returned (.int .u64 (N2 : Nat)) ∧ w' = W) := ⟨fun W hW => by
    have h1 := get_st _ _ _ _ W _ (HG2.out W hW)
    rwa [show 4 - 8 = 0 from rfl, List.drop_zero, ← hN2] at h1⟩
  have HS : Kp (SD w4 w4 gp 71 (cells8 b) gp 71 (cells8 b)) := ⟨⟨Below.refl _ _, hk4, hk4, hk4.lt, hk4.lt⟩⟩
  clear hk4 ho4 HK3 hB3 HP4 h2 HA1 hB2 hb1 hb2 hb3 HCut HZc HOne HBc hN1 hN2 HG1 HG2
  go_wp2_with fail
  refine wp_region_held_drew (S := fun W => SD w4 W gp 71 (cells8 b) gp 71 (cells8 b)) (by kernel_rfl) (HS.out.drew) (fun hHeld => ?_)
  generalize w4.drew = wS at *
  refine wpAnyH_take (i := 0) (oi := ⟨some 16, _, _, _, _, _⟩) (v := ?_) rfl (by kernel_rfl) (by kernel_rfl) (by kernel_rfl) (fun _ _ _ h => h) (Or.inl ⟨by rfl, by intro w hSw; go_simp; try rfl⟩) (by assumption) ?_
  try simp only [Act.put, List.setIfInBounds_toArray, List.set_cons_zero, List.set_cons_succ]
  refine wpAnyH_take (i := 1) (oi := ⟨some 17, _, _, _, _, _⟩) (v := ?_) rfl (by kernel_rfl) (by kernel_rfl) (by kernel_rfl) (fun _ _ _ h => h) (Or.inl ⟨by rfl, by intro w hSw; go_simp; try rfl⟩) (by assumption) ?_
  try simp only [Act.put, List.setIfInBounds_toArray, List.set_cons_zero, List.set_cons_succ]
  refine wpAnyH_take (i := 3) (oi := ⟨some 19, _, _, _, _, _⟩) (v := ?_) rfl (by kernel_rfl) (by kernel_rfl) (by kernel_rfl) (fun _ _ _ h => h) (Or.inl ⟨by rfl, by intro w hSw; go_simp; try rfl⟩) (by assumption) ?_
  try simp only [Act.put, List.setIfInBounds_toArray, List.set_cons_zero, List.set_cons_succ]
  refine wpAnyH_take (i := 4) (oi := ⟨some 20, _, _, _, _, _⟩) (v := ?_) rfl (by kernel_rfl) (by kernel_rfl) (by kernel_rfl) (fun _ _ _ h => h) (Or.inl ⟨by rfl, by intro w hSw; go_simp; try rfl⟩) (by assumption) ?_
  try simp only [Act.put, List.setIfInBounds_toArray, List.set_cons_zero, List.set_cons_succ]
  refine wpAnyH_ready (rs := [2]) (by kernel_rfl) (by simp) ?_
  refine AllReadyH.cons (o := ⟨some 18, _, _, _, _, _⟩) rfl (fun K hK => ?_) AllReadyH.nil
  go_simp
  refine (HC1.out wS hHeld.a).mono ?_
  rintro x w51 ⟨rfl, rfl⟩
  refine hK.out _ _ hHeld (fun hHeld2 => ?_)
  clear hK K hHeld
  have hHeld := hHeld2
  clear hHeld2
  try simp only [Act.put, List.setIfInBounds_toArray, List.set_cons_zero, List.set_cons_succ]
  refine wpAnyH_ready (rs := [5]) (by kernel_rfl) (by simp) ?_
  refine AllReadyH.cons (o := ⟨some 21, _, _, _, _, _⟩) rfl (fun K hK => ?_) AllReadyH.nil
  go_simp
  refine (HC2.out w51 hHeld.a).mono ?_
  rintro x w52 ⟨rfl, rfl⟩
  refine hK.out _ _ hHeld (fun hHeld2 => ?_)
  clear hK K hHeld
  have hHeld := hHeld2
  clear hHeld2
  try simp only [Act.put, List.setIfInBounds_toArray, List.set_cons_zero, List.set_cons_succ]
  refine wpAnyH_take (i := 6) (oi := ⟨some 22, _, _, _, _, _⟩) (v := ?_) rfl (by kernel_rfl) (by kernel_rfl) (by kernel_rfl) (fun _ _ _ h => h) (Or.inl ⟨by rfl, by intro w hSw; go_simp; try rfl⟩) (by assumption) ?_
  try simp only [Act.put, List.setIfInBounds_toArray, List.set_cons_zero, List.set_cons_succ]
  refine wpAnyH_take (i := 7) (oi := ⟨some 2, _, _, _, _, _⟩) (v := ?_) rfl (by kernel_rfl) (by kernel_rfl) (by kernel_rfl) (fun _ _ _ h => h) (Or.inl ⟨by rfl, by intro w hSw; go_simp; try rfl⟩) (by assumption) ?_
  try simp only [Act.put, List.setIfInBounds_toArray, List.set_cons_zero, List.set_cons_succ]
  refine wpAnyH_take (i := 8) (oi := ⟨some 3, _, _, _, _, _⟩) (v := ?_) rfl (by kernel_rfl) (by kernel_rfl) (by kernel_rfl) (fun _ _ _ h => h) (Or.inl ⟨by rfl, by intro w hSw; go_simp; try rfl⟩) (by assumption) ?_
  try simp only [Act.put, List.setIfInBounds_toArray, List.set_cons_zero, List.set_cons_succ]
  refine wpAnyH_take (i := 9) (oi := ⟨some 4, _, _, _, _, _⟩) (v := ?_) rfl (by kernel_rfl) (by kernel_rfl) (by kernel_rfl) (fun _ _ _ h => h) (Or.inl ⟨by rfl, by intro w hSw; go_simp; try rfl⟩) (by assumption) ?_
  try simp only [Act.put, List.setIfInBounds_toArray, List.set_cons_zero, List.set_cons_succ]
  refine wpAnyH_done (by kernel_rfl) ?_ _
  have hB := hB4.trans (hHeld.below.mono hB4.size)
  clear hHeld
  go_wp2
  refine bodyPost_ret (results_tmp3 rfl _ _ _) rfl ?_
  refine ⟨?_, hB⟩
  rw [← HN1.out, ← HN2.out]
  show Ending.returned (.tuple #[.int .u64 (N1 : Int), .int .u32 (IntKind.u32.wrap (N2 : Int)), .int .i64 0]) = _
  rw [IntKind.wrap_u32, Int.emod_eq_of_lt (by omega) hltI]
end Go.Proofs.YtckmobpjdpjocaaDoor

namespace Go.Proofs.YtckmobpjdpjocaaDoor

theorem addL_twice (S b : List UInt8) (n : Nat) (h : b.length = n) : addL S (addL S b n) n = b := by
  refine List.ext_getElem (by rw [addL_length, h]) fun i h1 h2 => ?_
  have hi : i < n := by rw [addL_length] at h1; exact h1
  have e : (addL S b n).getD i 0 = S.getD i 0 ^^^ b.getD i 0 := by
    simp [addL, List.getD, List.getElem?_map, List.getElem?_range hi]
  have e2 : b.getD i 0 = b[i] := by simp [List.getD, List.getElem?_eq_getElem h2]
  simp only [addL, List.getElem_map, List.getElem_range]
  have e3 := e
  simp only [addL] at e3
  rw [e3, e2, ← UInt8.xor_assoc, UInt8.xor_self, UInt8.zero_xor]
theorem xorL_twice (key hd b : List UInt8) (h : b.length = 256) : xorL key hd (xorL key hd b) = b := addL_twice _ _ _ h
theorem headL_take8 (e s : Nat) : (headL e s).take 8 = putN e 8 := by
  unfold headL
  rw [List.take_append_of_le_length (by rw [putN_length]; exact Nat.le_refl _), List.take_of_length_le (by rw [putN_length]; exact Nat.le_refl _)]
theorem headL_drop8 (e s : Nat) : (headL e s).drop 8 = putN s 4 ++ putN 0 4 := by
  unfold headL
  rw [List.drop_append_of_le_length (by rw [putN_length]; exact Nat.le_refl _), List.drop_of_length_le (by rw [putN_length]; exact Nat.le_refl _), List.nil_append]
theorem headL_seq (e s : Nat) : ((headL e s).drop 8).take 4 = putN s 4 := by
  rw [headL_drop8, List.take_append_of_le_length (by rw [putN_length]; exact Nat.le_refl _), List.take_of_length_le (by rw [putN_length]; exact Nat.le_refl _)]
theorem headL_rest (e s : Nat) : ((headL e s).drop 12).take 4 = z4 := by
  rw [show (headL e s).drop 12 = ((headL e s).drop 8).drop 4 by rw [List.drop_drop], headL_drop8, List.drop_append_of_le_length (by rw [putN_length]; exact Nat.le_refl _), List.drop_of_length_le (by rw [putN_length]; exact Nat.le_refl _), List.nil_append, putN_zeros]
  rfl
theorem getN_put8 (e : Nat) (h : e < 18446744073709551616) : getN (putN e 8) = e := by rw [getN_putN]; exact Nat.mod_eq_of_lt h
theorem getN_put4 (s : Nat) (h : s < 4294967296) : getN (putN s 4) = s := by rw [getN_putN]; exact Nat.mod_eq_of_lt h
theorem headL_inj {e s e' s' : Nat} (he : e < 18446744073709551616) (hs : s < 4294967296) (he' : e' < 18446744073709551616) (hs' : s' < 4294967296) : headL e s = headL e' s' ↔ e = e' ∧ s = s' := by
  constructor
  · intro h
    have h1 := congrArg (List.take 8) h
    have h2 := congrArg (fun l => (List.drop 8 l).take 4) h
    rw [headL_take8, headL_take8] at h1
    simp only [headL_seq] at h2
    exact ⟨by rw [← getN_put8 e he, h1, getN_put8 e' he'], by rw [← getN_put4 s hs, h2, getN_put4 s' hs']⟩
  · rintro ⟨rfl, rfl⟩; rfl
section
variable (key : List UInt8) (e s : Nat) (b : List UInt8)
theorem hideL_take : (hideL key e s b).take 16 = headL e s := by
  unfold hideL
  rw [List.take_append_of_le_length (by rw [headL_length]; exact Nat.le_refl _), List.take_of_length_le (by rw [headL_length]; exact Nat.le_refl _)]
theorem hideL_drop : (hideL key e s b).drop 16 = xorL key (headL e s) (pad256 b) := by
  unfold hideL
  rw [List.drop_append_of_le_length (by rw [headL_length]; exact Nat.le_refl _), List.drop_of_length_le (by rw [headL_length]; exact Nat.le_refl _), List.nil_append]
theorem take_in (l : List UInt8) (i k : Nat) (h : i + k ≤ 16) : (l.drop i).take k = ((l.take 16).drop i).take k := by
  rw [List.drop_take, List.take_take, Nat.min_eq_left (by omega)]
theorem hideL_right : ¬ wrongL (hideL key e s b) := by
  rintro (h | h)
  · exact h (hideL_length key e s b)
  · refine h ?_
    rw [take_in _ 12 4 (by omega), hideL_take, headL_rest]
theorem hideL_epoch (he : e < 18446744073709551616) : getN ((hideL key e s b).take 8) = e := by
  have h := take_in (hideL key e s b) 0 8 (by omega)
  rw [List.drop_zero, List.drop_zero, hideL_take, headL_take8] at h
  rw [h, getN_put8 e he]
theorem hideL_seq (hs : s < 4294967296) : getN (((hideL key e s b).drop 8).take 4) = s := by
  rw [take_in _ 8 4 (by omega), hideL_take, headL_seq, getN_put4 s hs]
theorem show_hide (hb : b.length ≤ 256) : showL key (hideL key e s b) = pad256 b := by
  unfold showL
  rw [hideL_take, hideL_drop, xorL_twice _ _ _ (pad256_length b hb)]
theorem head_of (h : ¬ wrongL b) : headL (getN (b.take 8)) (getN ((b.drop 8).take 4)) = b.take 16 := by
  have hl : b.length = 272 := Classical.not_not.1 fun h3 => h (.inl h3)
  have hz : (b.drop 12).take 4 = z4 := Classical.not_not.1 fun h3 => h (.inr h3)
  have e1 : putN (getN (b.take 8)) 8 = b.take 8 := by
    have := putN_getN (b.take 8)
    rwa [List.length_take, hl] at this
  have e2 : putN (getN ((b.drop 8).take 4)) 4 = (b.drop 8).take 4 := by
    have := putN_getN ((b.drop 8).take 4)
    rwa [List.length_take, List.length_drop, hl] at this
  unfold headL
  rw [e1, e2, putN_zeros, show ([0, 0, 0, 0] : List UInt8) = (b.drop 12).take 4 from hz.symm]
  have a1 : b.take 16 = b.take 8 ++ (b.drop 8).take 8 := by
    conv => lhs; rw [show (16 : Nat) = 8 + 8 from rfl, List.take_add]
  have a2 : (b.drop 8).take 8 = (b.drop 8).take 4 ++ (b.drop 12).take 4 := by
    conv => lhs; rw [show (8 : Nat) = 4 + 4 from rfl, List.take_add]
    rw [List.drop_drop]
  rw [a1, a2]
theorem hide_show (h : ¬ wrongL b) : hideL key (getN (b.take 8)) (getN ((b.drop 8).take 4)) (showL key b) = b := by
  have hl : b.length = 272 := Classical.not_not.1 fun h3 => h (.inl h3)
  have hp : pad256 (showL key b) = showL key b := by simp [pad256, showL_length]
  unfold hideL
  rw [head_of b h, hp]
  unfold showL
  rw [xorL_twice _ _ _ (by simp [hl]), List.take_append_drop]
end
end Go.Proofs.YtckmobpjdpjocaaDoor

namespace Go.Proofs.YtckmobpjdpjocaaDoor
open Go.RowKit

/-- bytes that have just been laid, marked or not -/
theorem lit_bs (w : World) (t : TypeId) (fr : Nat × Nat) (l : List UInt8) (C : Array Value) (hC : C = (cells8 l).toArray) (n : Nat) (hn : l.length = n) (hm : n ≤ maxLen) : Bs (w.alloc (.cells C t fr)) (w.heap.size + 1) (some ⟨w.heap.size, 0, none⟩) n n l := by
  subst hC
  refine ⟨hn, Nat.le_refl _, hm, (fun h => by cases h), fun _ => ⟨w.heap.size, 0, rfl, by omega, fun j hj => ?_⟩⟩
  have hb : (w.alloc (.cells (cells8 l).toArray t fr)).heap[w.heap.size]? = some (.cells (cells8 l).toArray t fr) := by
    show (w.heap.push _)[w.heap.size]? = _
    simp
  rw [cell_of_row _ _ _ _ _ _ hb]
  simpa using cells8_at l j hj
section
variable {P : Program} {w : World} {ops : Array Oper} {rest : List Oper} {o : Oper} {a : Act} {Q : Exit → Act → World → Prop} {t e : TypeId} {z : Value} {bytes : Nat}
theorem wpList_lit (E : El P t e z bytes) (he : P.underlying e = some (.int .u8)) (hg : Region.wanted o (yielded ops a.tmps) = true) (x : Operand) (hop : o.op = .convert t t x) {C : Array Value} (l : List UInt8) (hC : C = (cells8 l).toArray) (n : Nat) (hn : l.length = n) (hm : n ≤ maxLen) (hx : a.eval x = .slice (some ⟨w.heap.size, 0, none⟩) n n)
    (h : ∀ w', Bs w' w'.heap.size (some ⟨w.heap.size, 0, none⟩) n n l → Below w.heap.size w w' → wpList P ops Q rest (a.put o.dst (.slice (some ⟨w.heap.size, 0, none⟩) n n)) w') :
    wpList P ops Q (o :: rest) a (w.alloc (.cells C e)) := by
  refine wpList_step fun K hK => ?_
  rw [if_pos hg]
  have hrun := Lib.run_convert_bytes_const (P := P) w t e C n n E.ty he
  have hty : o.op = .convert t t x := hop
  unfold Oper.wp
  simp only [execOp, hty, hx, Sem.run_bind, hrun, Result.andThen_ok, Sem.run_pure]
  refine hK _ _ (h _ ((lit_bs w e (C.size, C.size + 1) l C hC n hn hm).more (by simp)) ((Below.refl _ _).alloc (Nat.le_refl _) _))
end
end Go.Proofs.YtckmobpjdpjocaaDoor

namespace Go.Proofs.YtckmobpjdpjocaaDoor
open Go.RowKit

theorem eqN7 : EqB Tryd.prog 39 5 16 := ⟨by kernel_rfl, by kernel_rfl, by kernel_rfl⟩
theorem builtKey : Tryd.prog.built 23 [] = some (cells8 (List.replicate 16 0)).toArray := by kernel_rfl
set_option maxRecDepth 100000 in
set_option maxHeartbeats 2000000 in
theorem known_any (w : World) : Calls Tryd.prog 9 #[] w fun x w' => x = .returned (.bool true) ∧ Below w.heap.size w w' := by
  obtain ⟨K, hK⟩ : ∃ K : List UInt8, K = List.replicate 16 0 := ⟨_, rfl⟩
  have HKl : Kp (K.length = 16) := ⟨by rw [hK]; rfl⟩
  have HB0 : Kp (Tryd.prog.built 23 [] = some (cells8 K).toArray) := ⟨by rw [hK]; exact builtKey⟩
  clear hK
  go_enter Tryd.func9, Tryd.ntmps9
  go_wp2_with (first
    | (with_reducible refine wpList_build0 (o := ⟨some 7, _, _, _, _, _⟩) rfl rfl HB0.out ?_)
    | (refine wpList_lit (o := ⟨some 9, _, _, _, _, _⟩) el8 Tryd.underlying5 (by rfl) (.tmp 8) rfl [97] rfl 1 rfl (by simp [maxLen]) rfl ?_))
  intro w1 ha hb1
  have HA : Kp _ := ⟨ha⟩
  clear ha
  go_wp2_with fail
  refine (hide_any K 5 7 _ 1 1 [97] _ HKl.out (by omega) (by omega) (by omega) HA.out).mono ?_
  rintro x w2 ⟨A2, c2, rfl, hx2, hb2⟩
  have HX2 : Kp _ := ⟨hx2⟩
  have hB2 := hb1.trans (hb2.mono hb1.size)
  have HW : Kp _ := ⟨hideL_right K 5 7 [97]⟩
  have HE : Kp _ := ⟨hideL_epoch K 5 7 [97] (by omega)⟩
  have HQ : Kp _ := ⟨hideL_seq K 5 7 [97] (by omega)⟩
  clear hx2 hb1 hb2 HA HB0 HKl
  go_wp2_with fail
  refine (when_any A2 272 c2 _ w2 HX2.out HW.out).mono ?_
  rw [HE.out, HQ.out]
  rintro x w3 ⟨rfl, hb3⟩
  have hB3 := hB2.trans (hb3.mono hB2.size)
  clear HX2 HW HE HQ hb3 hB2
  go_wp2
  go_ret
  exact ⟨rfl, hB3⟩
end Go.Proofs.YtckmobpjdpjocaaDoor

namespace Go.Proofs.YtckmobpjdpjocaaDoor
open Go.RowKit

/-- a head, of which so many bytes of the epoch and of the number are written -/
def fillH (l : List UInt8) (k : Nat) : List UInt8 := l.take k ++ List.replicate (16 - k) 0
theorem fillH_length (l : List UInt8) (k : Nat) (hl : l.length = 16) (hk : k ≤ 16) : (fillH l k).length = 16 := by simp [fillH, hl]; omega
theorem fillH_set (l : List UInt8) (k : Nat) (hl : l.length = 16) (hk : k < 16) : (cells8 (fillH l k)).set k (.int .u8 ((l.getD k 0).toNat : Int)) = cells8 (fillH l (k + 1)) := by
  have e : (fillH l k).set k (l.getD k 0) = fillH l (k + 1) := by
    refine List.ext_getElem (by rw [List.length_set, fillH_length l k hl (by omega), fillH_length l (k + 1) hl (by omega)]) fun i h1 h2 => ?_
    have hi : i < 16 := by rwa [fillH_length l (k + 1) hl (by omega)] at h2
    rw [List.getElem_set]
    by_cases h : k = i
    · subst h
      rw [if_pos rfl]
      simp only [fillH]
      rw [List.getElem_append_left (by simp; omega), List.getElem_take]
      simp [List.getD, List.getElem?_eq_getElem (show k < l.length by omega)]
    · rw [if_neg h]
      simp only [fillH]
      by_cases h3 : i < k
      · rw [List.getElem_append_left (by simp; omega), List.getElem_append_left (by simp; omega), List.getElem_take, List.getElem_take]
      · rw [List.getElem_append_right (by simp; omega), List.getElem_append_right (by simp; omega), List.getElem_replicate, List.getElem_replicate]
  rw [← e]
  unfold cells8
  rw [List.map_set]
theorem headL_at8 (e s : Nat) (k : Nat) (hk : k < 8) : (headL e s).getD k 0 = (putN e 8)[k]'(by rw [putN_length]; exact hk) := by
  unfold headL
  simp [List.getD, List.getElem?_append_left (show k < (putN e 8).length by rw [putN_length]; exact hk), List.getElem?_eq_getElem (show k < (putN e 8).length by rw [putN_length]; exact hk)]
theorem headL_at4 (e s : Nat) (k : Nat) (hk : k < 4) : (headL e s).getD (8 + k) 0 = (putN s 4)[k]'(by rw [putN_length]; exact hk) := by
  unfold headL
  rw [List.getD, List.getElem?_append_right (by rw [putN_length]; omega), putN_length, List.getElem?_append_left (by rw [putN_length]; omega), show 8 + k - 8 = k by omega, List.getElem?_eq_getElem (show k < (putN s 4).length by rw [putN_length]; exact hk)]
  rfl
theorem fillH_zero (l : List UInt8) : fillH l 0 = List.replicate 16 0 := by simp [fillH]
theorem fillH_12 (e s : Nat) : fillH (headL e s) 12 = headL e s := by
  have h : (headL e s).take 12 ++ (headL e s).drop 12 = headL e s := List.take_append_drop _ _
  have h2 : (headL e s).drop 12 = List.replicate 4 0 := by
    unfold headL
    rw [List.drop_append, putN_length, List.drop_of_length_le (by rw [putN_length]; omega), List.nil_append, show 12 - 8 = 4 from rfl, List.drop_append_of_le_length (by rw [putN_length]; exact Nat.le_refl _), List.drop_of_length_le (by rw [putN_length]; exact Nat.le_refl _), List.nil_append]
    decide
  unfold fillH
  rw [← h2]
  exact h

theorem rputA_any (n k : Nat) (w : World) (hn : n < 18446744073709551616) (hk : k ≤ 8) :
    Calls Tryd.prog 32 #[.int .u64 n, .int .i64 k] w fun e w' => ∃ A c, e = .returned (.slice A k c) ∧ (∀ g, g < w.heap.size → BsA w' g A k c (putN n k)) ∧ Below w.heap.size w w' := by
  refine (refput_any n k w hn).mono ?_
  rintro e w' ⟨v, rfl, ho, hb⟩
  have ek : (min (max (k : Int) 0) 8).toNat = k := by omega
  rw [ek] at ho
  obtain ⟨A, c, rfl, _⟩ := Bs.of_own ho
  refine ⟨A, c, rfl, fun g hg => ?_, hb⟩
  obtain ⟨A', c', e1, h⟩ := BsA.of_own ho hg
  injection e1 with e2 _ e3
  subst e2 e3
  exact h
set_option maxRecDepth 100000 in
set_option maxHeartbeats 4000000 in
theorem refhead_any (e s : Nat) (w : World) (he : e < 18446744073709551616) (hs : s < 4294967296) :
    Calls Tryd.prog 15 #[.int .u64 e, .int .u32 s] w fun x w' => x = .returned (.agg (cells8 (headL e s)).toArray) ∧ Below w.heap.size w w' := by
  have heI : (e : Int) < 18446744073709551616 := by omega
  have hsI : (s : Int) < 4294967296 := by omega
  have HHl : Kp ((headL e s).length = 16) := ⟨headL_length e s⟩
  have HZc : Kp (zero16.length = 16) := ⟨rfl⟩
  have HOne : Kp (∀ v ∈ zero16, v.oneCell' = true) := ⟨cells8_one _⟩
  have HB0 : Kp (Tryd.prog.built 39 [] = some zero16.toArray) := ⟨by kernel_rfl⟩
  have HTy : Kp (Ty Tryd.prog 39 zero16) := ⟨tyNonce⟩
  have HF0 : Kp (zero16 = cells8 (fillH (headL e s) 0)) := ⟨by rw [fillH_zero]; rfl⟩
  go_enter Tryd.func15, Tryd.ntmps15
  obtain ⟨Z, hZ⟩ : ∃ Z, Z = zero16 := ⟨_, rfl⟩
  rw [← hZ] at HZc HOne HB0 HTy HF0
  clear hZ
  go_wp2_with (with_reducible refine wpList_alloc (o := ⟨some 4, _, _, _, _, _⟩) HTy.out rfl rfl ?_)
  intro w1 hk1 hb1 hs1
  have HK1 : Kp _ := ⟨hk1⟩
  clear hk1 hs1
  go_wp2_with (first
    | (with_reducible refine wpList_build0 (o := ⟨some 10, _, _, _, _, _⟩) rfl rfl HB0.out ?_)
    | (with_reducible refine wpList_alloc (o := ⟨some 5, _, _, _, _, _⟩) HTy.out rfl rfl ?_))
  intro w2 hk2 hb2 hs2
  have HR2 : Kp _ := ⟨HK1.out.below hb2 HK1.out.lt⟩
  have HK2 : Kp _ := ⟨hk2⟩
  have h1 := HK1.out.lt
  have hB2 := hb1.trans (hb2.mono hb1.size)
  obtain ⟨g, hg⟩ : ∃ g, g = w1.heap.size := ⟨_, rfl⟩
  rw [← hg] at HK2 h1 ⊢
  clear hk2 hs2 hb1 hb2 HK1 hg
  go_wp2_with (with_reducible refine wpList_storeAll (o := ⟨none, _, _, _, _, _⟩) (vs := Z) rwNonce rfl (.tmp 5) (.tmp 10) rfl rfl HK2.out HZc.out HZc.out HOne.out rfl ?_)
  intro w3 hk3 ho3
  have HK3 : Kp (Blk w3 g 39 (cells8 (fillH (headL e s) 0))) := ⟨by rw [← HF0.out]; exact hk3⟩
  have HR3 : Kp _ := ⟨HR2.out.only ho3 (by omega)⟩
  have hB3 := hB2.trans (ho3.below (Nat.le_of_lt h1))
  clear hk3 ho3 HK2 HR2 hB2
  go_wp2_with fail
  refine (rputA_any e 8 w3 he (by omega)).mono ?_
  rintro x w4 ⟨A4, c4, rfl, ha4, hb4⟩
  have hgl := HK3.out.lt
  have HA4 : Kp (BsA w4 g A4 8 c4 (putN e 8)) := ⟨ha4 g hgl⟩
  have HK4 : Kp _ := ⟨HK3.out.below hb4 HK3.out.lt⟩
  have HR4 : Kp _ := ⟨HR3.out.below hb4 HR3.out.lt⟩
  have hB4 := hB3.trans (hb4.mono hB3.size)
  clear ha4 hb4 HK3 HR3 hB3 hgl
  go_wp2_with fail
  refine (rputA_any s 4 w4 (by omega) (by omega)).mono ?_
  rintro x w5 ⟨A5, c5, rfl, ha5, hb5⟩
  have hgl := HK4.out.lt
  have HA5 : Kp (BsA w5 g A5 4 c5 (putN s 4)) := ⟨ha5 g hgl⟩
  have HA4' : Kp (BsA w5 g A4 8 c4 (putN e 8)) := ⟨HA4.out.grown (grown_below hb5 _)⟩
  have HK5 : Kp _ := ⟨HK4.out.below hb5 HK4.out.lt⟩
  have HR5 : Kp _ := ⟨HR4.out.below hb5 HR4.out.lt⟩
  have hB5 := hB4.trans (hb5.mono hB4.size)
  clear ha5 hb5 HK4 HR4 hB4 HA4 hgl
  have HLp : Kp ((putN e 8).length = 8) := ⟨putN_length _ _⟩
  have HLq : Kp ((putN s 4).length = 4) := ⟨putN_length _ _⟩
  have HFd : Kp (cells8 (fillH (headL e s) 12) = cells8 (headL e s)) := ⟨by rw [fillH_12]⟩
  have HE8 : Kp (∀ k (hk : k < 8), (headL e s).getD k 0 = (putN e 8)[k]'(by rw [putN_length]; exact hk)) := ⟨headL_at8 e s⟩
  have HE4 : Kp (∀ k (hk : k < 4), (headL e s).getD (8 + k) 0 = (putN s 4)[k]'(by rw [putN_length]; exact hk)) := ⟨headL_at4 e s⟩
  obtain ⟨H, hH⟩ : ∃ H, H = headL e s := ⟨_, rfl⟩
  have HH : Kp _ := ⟨hH⟩
  rw [← hH] at HK5 HFd HHl HE8 HE4
  clear hH HF0 HB0 HTy
  go_wp2
  go_loopw [8] (fun vi wr => ∃ k : Nat, k ≤ 8 ∧ vi = .int .i64 k ∧ Kp (Blk wr g 39 (cells8 (fillH H k))) ∧ Only g w5 wr) (fun vi _ => 8 - (intOf vi).toNat)
  case atStart => exact ⟨0, by omega, rfl, HK5, Only.refl _ _⟩
  case round =>
    obtain ⟨k, hk, rfl, HB, ho⟩ := hrel
    by_cases hlt : k < 8
    · have HAk := HA4'.out.grown (grown_only ho)
      obtain ⟨b1, o1, rfl, hb1, hc1⟩ := HAk.bs.cell (i := k) hlt
      rw [← HE8.out k hlt] at hc1
      have HN : Kp _ := ⟨fillH_set H k HHl.out (by omega)⟩
      have hcg : (wr.cell? ⟨g, k, none⟩).isSome = true := by rw [HB.out.cell (by rw [cells8_length, fillH_length H k HHl.out (by omega)]; omega)]; rfl
      have hf := HB.out.frozen k
      have hkI : (k : Int) < 8 := by omega
      generalize H.getD k 0 = y at *
      clear HAk
      obtain ⟨old, hold⟩ := Option.isSome_iff_exists.1 hcg
      clear hcg
      go_wp2
      refine ⟨⟨k + 1, by omega, by go_num, ⟨?_⟩, ho.trans (Only.setCell wr ⟨g, k, none⟩ _)⟩, by first | (simp [intOf]; done) | (simp [intOf]; omega)⟩
      have h3 := HB.out.set k (.int .u8 ((y.toNat : Int)))
      rw [HN.out] at h3
      exact h3
    · obtain rfl : k = 8 := by omega
      have HR6 : Kp _ := ⟨HR5.out.only ho (by omega)⟩
      have HA6 : Kp _ := ⟨HA5.out.grown (grown_only ho)⟩
      have hB6 := hB5.trans (ho.below (Nat.le_of_lt h1))
      clear HA4' HA5 HR5 hB5 ho HK5
      go_wp2
      go_loopw [9] (fun vi wr2 => ∃ k : Nat, k ≤ 4 ∧ vi = .int .i64 k ∧ Kp (Blk wr2 g 39 (cells8 (fillH H (8 + k)))) ∧ Only g wr wr2) (fun vi _ => 4 - (intOf vi).toNat)
      case atStart => exact ⟨0, by omega, rfl, HB, Only.refl _ _⟩
      case round =>
        clear HB
        obtain ⟨k, hk, rfl, HB, ho⟩ := hrel
        by_cases hlt : k < 4
        · have HAk := HA6.out.grown (grown_only ho)
          obtain ⟨b1, o1, rfl, hb1, hc1⟩ := HAk.bs.cell (i := k) hlt
          rw [← HE4.out k hlt] at hc1
          have HN : Kp _ := ⟨fillH_set H (8 + k) HHl.out (by omega)⟩
          have hcg : (‹World›.cell? ⟨g, 8 + k, none⟩).isSome = true := by rw [HB.out.cell (by rw [cells8_length, fillH_length H (8 + k) HHl.out (by omega)]; omega)]; rfl
          have hf := HB.out.frozen (8 + k)
          have hkI : (k : Int) < 4 := by omega
          generalize H.getD (8 + k) 0 = y at *
          clear HAk
          obtain ⟨old, hold⟩ := Option.isSome_iff_exists.1 hcg
          clear hcg
          go_wp2
          refine ⟨⟨k + 1, by omega, by go_num, ⟨?_⟩, ho.trans (Only.setCell _ ⟨g, 8 + k, none⟩ _)⟩, by first | (simp [intOf]; done) | (simp [intOf]; omega)⟩
          have h3 := HB.out.set (8 + k) (.int .u8 ((y.toNat : Int)))
          rw [HN.out] at h3
          exact h3
        · obtain rfl : k = 4 := by omega
          have HK6 : Kp _ := ⟨HB.out⟩
          rw [show 8 + 4 = 12 from rfl, HFd.out] at HK6
          have HR7 : Kp _ := ⟨HR6.out.only ho (by omega)⟩
          have hB7 := hB6.trans (ho.below (Nat.le_of_lt h1))
          have HHc : Kp ((cells8 H).length = 16) := ⟨by rw [cells8_length]; exact HHl.out⟩
          clear HB HR6 hB6 ho HFd HE8 HE4
          go_wp2_with (first
            | (with_reducible refine wpList_loadAll (o := ⟨some 37, _, _, _, _, _⟩) rwNonce rfl (.tmp 5) rfl rfl HK6.out HHc.out ?_)
            | (with_reducible refine wpList_storeAll (o := ⟨none, _, _, _, _, _⟩) (vs := cells8 H) rwNonce rfl (.tmp 4) (.tmp 37) rfl rfl HR7.out HZc.out HHc.out (cells8_one _) rfl ?_))
          intro wz hkz hoz
          have HKz : Kp _ := ⟨hkz⟩
          clear hkz
          go_wp2
          exact ret_arr rfl rwNonce rfl HKz.out HHc.out rfl ⟨by rw [HH.out], hB7.trans (hoz.below (Nat.le_refl _))⟩
end Go.Proofs.YtckmobpjdpjocaaDoor
