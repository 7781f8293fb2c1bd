/- The contract of the law package's known; laws for arrays built of nothing. -/
import Derived.Test.YtjllfaeamjadcaaSumLess
import Derived.Test.YtjllfaeamjadcaaSumSub
import Derived.Test.YtjllfaeamjadcaaBuild
import Derived.Test.YtjllfaeamjadcaaShaGen
namespace Go.Proofs.Ytjllfaeamjadcaa
open Go.RowKit

theorem dig_built0 : (Try.prog).built 23 [] = some (cells8 z32).toArray := by kernel_rfl
theorem hiD (l : List UInt8) (h : (cells8 l).length = 32) : ((Try.prog).info? 23).map (·.size) = some (cells8 l).length := by rw [h]; exact rwDig.size
section
variable {P : Program} {w : World} {ops : Array Oper} {rest : List Oper} {o : Oper} {a : Act} {Q : Exit → Act → World → Prop} {t : TypeId}
theorem wpList_build0 (hg : o.guard = none) (hop : o.op = .build t #[]) {cs : List Value} (hb : P.built t [] = some cs.toArray)
    (h : wpList P ops Q rest (a.put o.dst (.agg cs.toArray)) w) : wpList P ops Q (o :: rest) a w := by
  refine wpList_plain hg fun K hK => ?_
  unfold Oper.wp execOp
  have hr := run_build (P := P) w t #[] cs.toArray (by simpa using hb)
  simp only [hop, Sem.run_bind, List.map_toArray, List.map_nil, hr, Result.andThen_ok]
  exact hK _ _ h
theorem yieldsIf_build0 {S : World → Prop} (hw : Region.wanted o (yielded ops a.tmps) = true) (hop : o.op = .build t #[]) {cs : List Value} (hb : P.built t [] = some cs.toArray) : YieldsIf P ops S o (.agg cs.toArray) a :=
  .inl ⟨hw, fun w _ => by
    have hr := run_build (P := P) w t #[] cs.toArray (by simpa using hb)
    unfold execOp
    simp only [hop, Sem.run_bind, List.map_toArray, List.map_nil, hr, Result.andThen_ok, Sem.run_pure]⟩
end
def ffL (k : Nat) : List UInt8 := List.replicate k 255 ++ List.replicate (32 - k) 0
def oneL : List UInt8 := z32.set 31 1
theorem ff_set : ∀ k < 32, (ffL k).set k 255 = ffL (k + 1) := by decide
theorem ff_length : ∀ k < 33, (ffL k).length = 32 := by decide
theorem ff_none : ffL 0 = z32 := by decide
theorem known_add : addL (ffL 32) oneL = z32 := by decide +kernel
theorem known_sub : subL z32 oneL = ffL 32 := by decide +kernel
theorem known_less : lessL oneL (ffL 32) = true := by decide +kernel
theorem cells8_set' (l : List UInt8) (k : Nat) (b : UInt8) : (cells8 l).set k (.int .u8 (b.toNat : Int)) = cells8 (l.set k b) := by unfold cells8; rw [List.map_set]
theorem huD : (Try.prog).underlying 23 = some (.array 32 5) := rwDig.ty
set_option maxRecDepth 100000 in
set_option maxHeartbeats 4000000 in
theorem known5_any (w : World) : Calls Try.prog 16 #[] w fun e w' => e = .returned (.bool true) ∧ Below w.heap.size w w' := by
  obtain ⟨Z, hZ⟩ : ∃ Z, Z = z32 := ⟨_, rfl⟩
  have HB0 : Kp ((Try.prog).built 23 [] = some (cells8 Z).toArray) := ⟨by rw [hZ]; exact dig_built0⟩
  have HZl : Kp (Z.length = 32) := ⟨by rw [hZ]; rfl⟩
  have HLZ : Kp ((cells8 Z).length = 32) := ⟨by rw [cells8_length]; exact HZl.out⟩
  have HZz : Kp (zero32.length = 32) := ⟨rfl⟩
  obtain ⟨U, hU⟩ : ∃ U, U = oneL := ⟨_, rfl⟩
  have HUl : Kp (U.length = 32) := ⟨by rw [hU]; decide⟩
  have HLU : Kp ((cells8 U).length = 32) := ⟨by rw [cells8_length]; exact HUl.out⟩
  have HUs : Kp ((cells8 Z).set 31 (.int .u8 1) = cells8 U) := ⟨by rw [hU, hZ]; exact cells8_set' z32 31 1⟩
  have hc31 : (cells8 Z)[31]? = some (.int .u8 0) := by rw [hZ, cells8_at z32 31 (by decide)]; rfl
  obtain ⟨F, hF⟩ : ∃ F, F = ffL 32 := ⟨_, rfl⟩
  have HFl : Kp (F.length = 32) := ⟨by rw [hF]; decide⟩
  have HLF : Kp ((cells8 F).length = 32) := ⟨by rw [cells8_length]; exact HFl.out⟩
  have C1 : Kp (∀ W, Calls Try.prog 10 #[.agg (cells8 F).toArray, .agg (cells8 U).toArray] W fun e w' => e = .returned (.agg (cells8 Z).toArray) ∧ Below W.heap.size W w') := ⟨fun W => by
    have h := sadd_any F U W HFl.out HUl.out
    rw [show addL F U = Z by rw [hF, hU, hZ]; exact known_add] at h; exact h⟩
  have C2 : Kp (∀ W, Calls Try.prog 12 #[.agg (cells8 Z).toArray, .agg (cells8 U).toArray] W fun e w' => e = .returned (.agg (cells8 F).toArray) ∧ Below W.heap.size W w') := ⟨fun W => by
    have h := ssub_any Z U W HZl.out HUl.out
    rw [show subL Z U = F by rw [hF, hU, hZ]; exact known_sub] at h; exact h⟩
  have C3 : Kp (∀ W, Calls Try.prog 14 #[.agg (cells8 U).toArray, .agg (cells8 F).toArray] W fun e w' => e = .returned (.bool true) ∧ Below W.heap.size W w') := ⟨fun W => by
    have h := less_any U F W HUl.out HFl.out
    rw [show lessL U F = true by rw [hF, hU]; exact known_less] at h; exact h⟩
  have HF0 : Kp (cells8 (ffL 0) = cells8 Z) := ⟨by rw [hZ, ff_none]⟩
  have HF9 : Kp (cells8 (ffL 32) = cells8 F) := ⟨by rw [hF]⟩
  clear hZ hU hF
  go_enter Try.func16, Try.ntmps16
  go_wp2_with (first
    | (refine wpList_build0 (o := ⟨some 4, _, _, _, _, _⟩) rfl rfl HB0.out ?_)
    | (with_reducible refine wpList_alloc (o := ⟨some 1, _, _, _, _, _⟩) tyDig rfl rfl ?_))
  intro w1 hk1 hb1 hs1
  have HA1 : Kp _ := ⟨hk1⟩
  clear hk1 hs1
  go_wp2_with (refine wpList_storeAll (o := ⟨none, _, _, _, _, _⟩) (vs := cells8 Z) rwDig rfl (.tmp 1) (.tmp 4) rfl rfl HA1.out HZz.out HLZ.out (cells8_one _) rfl ?_)
  intro w2 hk2 ho2
  have HA2 : Kp _ := ⟨hk2⟩
  have hB2 : Below w.heap.size w w2 := hb1.trans (ho2.below (Nat.le_refl _))
  clear hk2 ho2 HA1 hb1
  go_wp2_with (first
    | (refine wpList_build0 (o := ⟨some 5, _, _, _, _, _⟩) rfl rfl HB0.out ?_)
    | (with_reducible refine wpList_alloc (o := ⟨some 2, _, _, _, _, _⟩) tyDig rfl rfl ?_))
  intro w3 hk3 hb3 hs3
  have HO3 : Kp _ := ⟨hk3⟩
  have HA3 : Kp _ := ⟨HA2.out.below hb3 HA2.out.lt⟩
  have hB3 := hB2.trans (hb3.mono hB2.size)
  have n1 : w.heap.size < w2.heap.size := HA2.out.lt
  obtain ⟨go, hgo⟩ : ∃ g, g = w2.heap.size := ⟨_, rfl⟩
  rw [← hgo] at HO3 n1 ⊢
  clear hk3 hb3 hs3 hB2 HA2 hgo
  go_wp2_with (refine wpList_storeAll (o := ⟨none, _, _, _, _, _⟩) (vs := cells8 Z) rwDig rfl (.tmp 2) (.tmp 5) rfl rfl HO3.out HZz.out HLZ.out (cells8_one _) rfl ?_)
  intro w4 hk4 ho4
  have HO4 : Kp _ := ⟨hk4⟩
  have HA4 : Kp _ := ⟨HA3.out.only ho4 (by omega)⟩
  have hB4 := hB3.trans (ho4.below (by omega))
  have hco : w4.cell? ⟨go, 31, none⟩ = some (.int .u8 0) := by rw [HO4.out.cell?]; exact hc31
  have hfo := HO4.out.frozen 31
  clear hk4 ho4 HO3 HA3 hB3
  go_wp2
  have HO5 : Kp (Blk (w4.setCell ⟨go, 31, none⟩ (.int .u8 1)) go 23 (cells8 U)) := ⟨by have h := HO4.out.set 31 (.int .u8 1); rw [HUs.out] at h; exact h⟩
  have HA5 : Kp (Blk (w4.setCell ⟨go, 31, none⟩ (.int .u8 1)) w.heap.size 23 (cells8 (ffL 0))) := ⟨by rw [HF0.out]; exact HA4.out.other (by show w.heap.size ≠ go; omega) _⟩
  have hB5 : Below w.heap.size w (w4.setCell ⟨go, 31, none⟩ (.int .u8 1)) := hB4.setCell (by show w.heap.size ≤ go; omega) _
  generalize w4.setCell ⟨go, 31, none⟩ (.int .u8 1) = w5 at *
  clear hB4 hco hfo HO4 HA4
  go_loopg [3] 32 (fun gk vi wr => ∃ k : Nat, k + gk = 32 ∧ vi = .int .i64 k ∧ Kp (Blk wr w.heap.size 23 (cells8 (ffL k))) ∧ Kp (Blk wr go 23 (cells8 U)) ∧ Below w.heap.size w wr)
  case atStart => exact ⟨0, by omega, rfl, HA5, HO5, hB5⟩
  case round =>
    clear HA5 HO5 hB5
    obtain ⟨k, hk, rfl, HA, HO, hB⟩ := hrel
    cases gk with
    | succ g2 =>
      have hkI : (k : Int) < 32 := by omega
      have hlt : k < (cells8 (ffL k)).length := by rw [cells8_length, ff_length k (by omega)]; omega
      have hco := HA.out.cell (i := k) hlt
      have hfo := HA.out.frozen k
      have HSet : Kp ((cells8 (ffL k)).set k (.int .u8 255) = cells8 (ffL (k + 1))) := ⟨by rw [← ff_set k (by omega)]; exact cells8_set' _ _ 255⟩
      generalize (cells8 (ffL k))[k]'_ = q at hco
      clear hlt
      go_wp2
      go_roundg g2
      case rel => exact ⟨k + 1, by omega, by go_num, ⟨by have h3 := HA.out.set k (.int .u8 255); rw [HSet.out] at h3; exact h3⟩, ⟨HO.out.other (by show go ≠ w.heap.size; omega) _⟩, hB.setCell (Nat.le_refl _) _⟩
      case measure => omega
    | zero =>
      obtain rfl : k = 32 := by omega
      have hT : Two w w.heap.size go 23 (cells8 F) (cells8 U) wr := ⟨by rw [← HF9.out]; exact HA.out, HO.out, hB⟩
      clear HA HO hB
      obtain ⟨wa, rfl⟩ : ∃ x, x = wr := ⟨wr, rfl⟩
      go_wp2_with fail
      refine wp_region_held_drew (S := Two w w.heap.size go 23 (cells8 F) (cells8 U)) (by kernel_rfl) (hT.drew) (fun hHeld => ?_)
      generalize wa.drew = wS at *
      refine wpAnyH_take (i := 0) (oi := ⟨some 13, _, _, _, _, _⟩) (v := _) rfl (by kernel_rfl) (by kernel_rfl) (by kernel_rfl) (fun _ _ _ h => h) (yieldsIf_load_mid (by rfl) _ (.tmp 1) rfl _ _ rfl (cells8 F) _ (fun W hW => hW.a.range (take_all32 HLF.out)) huD rfl (hiD F HLF.out)) (by assumption) ?_
      try simp only [Act.put, List.setIfInBounds_toArray, List.set_cons_zero, List.set_cons_succ]
      refine wpAnyH_take (i := 1) (oi := ⟨some 14, _, _, _, _, _⟩) (v := _) rfl (by kernel_rfl) (by kernel_rfl) (by kernel_rfl) (fun _ _ _ h => h) (yieldsIf_load_mid (by rfl) _ (.tmp 2) rfl _ _ rfl (cells8 U) _ (fun W hW => hW.b.range (take_all32 HLU.out)) huD rfl (hiD U HLU.out)) (by assumption) ?_
      try simp only [Act.put, List.setIfInBounds_toArray, List.set_cons_zero, List.set_cons_succ]
      refine wpAnyH_take (i := 3) (oi := ⟨some 16, _, _, _, _, _⟩) (v := _) rfl (by kernel_rfl) (by kernel_rfl) (by kernel_rfl) (fun _ _ _ h => h) (yieldsIf_build0 (by rfl) rfl HB0.out) (by assumption) ?_
      try simp only [Act.put, List.setIfInBounds_toArray, List.set_cons_zero, List.set_cons_succ]
      refine wpAnyH_ready (rs := [2]) (by kernel_rfl) (by simp) ?_
      refine AllReadyH.cons (o := ⟨some 15, _, _, _, _, _⟩) rfl (fun K hK => ?_) AllReadyH.nil
      go_simp
      refine (C1.out _).mono ?_
      rintro e w51 ⟨rfl, hb'⟩
      refine hK.out _ _ (hHeld.next hb') (fun hHeld2 => ?_)
      clear hb'
      clear hK K hHeld
      have hHeld := hHeld2
      clear hHeld2
      try simp only [Act.put, List.setIfInBounds_toArray, List.set_cons_zero, List.set_cons_succ]
      refine wpAnyH_take (i := 4) (oi := ⟨some 17, _, _, _, _, _⟩) (v := _) rfl (by kernel_rfl) (by kernel_rfl) (by kernel_rfl) (fun _ _ _ h => h) (yieldsIf_eql (by rfl) eqDig Try.eqGuardType23 (.tmp 15) (.tmp 16) rfl Z Z rfl rfl HZl.out HZl.out (beq_self_eq_true _)) (by assumption) ?_
      try simp only [Act.put, List.setIfInBounds_toArray, List.set_cons_zero, List.set_cons_succ]
      refine wpAnyH_take (i := 5) (oi := ⟨some 18, _, _, _, _, _⟩) (v := ?_) rfl (by kernel_rfl) (by kernel_rfl) (by kernel_rfl) (fun _ _ _ h => h) (Or.inl ⟨by rfl, by intro w hSw; go_simp; try rfl⟩) (by assumption) ?_
      try simp only [Act.put, List.setIfInBounds_toArray, List.set_cons_zero, List.set_cons_succ]
      refine wpAnyH_take (i := 6) (oi := ⟨some 19, _, _, _, _, _⟩) (v := _) rfl (by kernel_rfl) (by kernel_rfl) (by kernel_rfl) (fun _ _ _ h => h) (yieldsIf_build0 (by rfl) rfl HB0.out) (by assumption) ?_
      try simp only [Act.put, List.setIfInBounds_toArray, List.set_cons_zero, List.set_cons_succ]
      refine wpAnyH_take (i := 7) (oi := ⟨some 20, _, _, _, _, _⟩) (v := _) rfl (by kernel_rfl) (by kernel_rfl) (by kernel_rfl) (fun _ _ _ h => h) (yieldsIf_load_mid (by rfl) _ (.tmp 2) rfl _ _ rfl (cells8 U) _ (fun W hW => hW.b.range (take_all32 HLU.out)) huD rfl (hiD U HLU.out)) (by assumption) ?_
      try simp only [Act.put, List.setIfInBounds_toArray, List.set_cons_zero, List.set_cons_succ]
      refine wpAnyH_take (i := 9) (oi := ⟨some 22, _, _, _, _, _⟩) (v := _) rfl (by kernel_rfl) (by kernel_rfl) (by kernel_rfl) (fun _ _ _ h => h) (yieldsIf_load_mid (by rfl) _ (.tmp 1) rfl _ _ rfl (cells8 F) _ (fun W hW => hW.a.range (take_all32 HLF.out)) huD rfl (hiD F HLF.out)) (by assumption) ?_
      try simp only [Act.put, List.setIfInBounds_toArray, List.set_cons_zero, List.set_cons_succ]
      refine wpAnyH_ready (rs := [8]) (by kernel_rfl) (by simp) ?_
      refine AllReadyH.cons (o := ⟨some 21, _, _, _, _, _⟩) rfl (fun K hK => ?_) AllReadyH.nil
      go_simp
      refine (C2.out _).mono ?_
      rintro e w52 ⟨rfl, hb'⟩
      refine hK.out _ _ (hHeld.next hb') (fun hHeld2 => ?_)
      clear hb'
      clear hK K hHeld
      have hHeld := hHeld2
      clear hHeld2
      try simp only [Act.put, List.setIfInBounds_toArray, List.set_cons_zero, List.set_cons_succ]
      refine wpAnyH_take (i := 10) (oi := ⟨some 23, _, _, _, _, _⟩) (v := _) rfl (by kernel_rfl) (by kernel_rfl) (by kernel_rfl) (fun _ _ _ h => h) (yieldsIf_eql (by rfl) eqDig Try.eqGuardType23 (.tmp 21) (.tmp 22) rfl F F rfl rfl HFl.out HFl.out (beq_self_eq_true _)) (by assumption) ?_
      try simp only [Act.put, List.setIfInBounds_toArray, List.set_cons_zero, List.set_cons_succ]
      refine wpAnyH_take (i := 11) (oi := ⟨some 24, _, _, _, _, _⟩) (v := ?_) rfl (by kernel_rfl) (by kernel_rfl) (by kernel_rfl) (fun _ _ _ h => h) (Or.inl ⟨by rfl, by intro w hSw; go_simp; try rfl⟩) (by assumption) ?_
      try simp only [Act.put, List.setIfInBounds_toArray, List.set_cons_zero, List.set_cons_succ]
      refine wpAnyH_take (i := 12) (oi := ⟨some 25, _, _, _, _, _⟩) (v := ?_) rfl (by kernel_rfl) (by kernel_rfl) (by kernel_rfl) (fun _ _ _ h => h) (Or.inl ⟨by rfl, by intro w hSw; go_simp; try rfl⟩) (by assumption) ?_
      try simp only [Act.put, List.setIfInBounds_toArray, List.set_cons_zero, List.set_cons_succ]
      refine wpAnyH_take (i := 13) (oi := ⟨some 26, _, _, _, _, _⟩) (v := _) rfl (by kernel_rfl) (by kernel_rfl) (by kernel_rfl) (fun _ _ _ h => h) (yieldsIf_load_mid (by rfl) _ (.tmp 2) rfl _ _ rfl (cells8 U) _ (fun W hW => hW.b.range (take_all32 HLU.out)) huD rfl (hiD U HLU.out)) (by assumption) ?_
      try simp only [Act.put, List.setIfInBounds_toArray, List.set_cons_zero, List.set_cons_succ]
      refine wpAnyH_take (i := 14) (oi := ⟨some 27, _, _, _, _, _⟩) (v := _) rfl (by kernel_rfl) (by kernel_rfl) (by kernel_rfl) (fun _ _ _ h => h) (yieldsIf_load_mid (by rfl) _ (.tmp 1) rfl _ _ rfl (cells8 F) _ (fun W hW => hW.a.range (take_all32 HLF.out)) huD rfl (hiD F HLF.out)) (by assumption) ?_
      try simp only [Act.put, List.setIfInBounds_toArray, List.set_cons_zero, List.set_cons_succ]
      refine wpAnyH_ready (rs := [15]) (by kernel_rfl) (by simp) ?_
      refine AllReadyH.cons (o := ⟨some 28, _, _, _, _, _⟩) rfl (fun K hK => ?_) AllReadyH.nil
      go_simp
      refine (C3.out _).mono ?_
      rintro e w53 ⟨rfl, hb'⟩
      refine hK.out _ _ (hHeld.next hb') (fun hHeld2 => ?_)
      clear hb'
      clear hK K hHeld
      have hHeld := hHeld2
      clear hHeld2
      try simp only [Act.put, List.setIfInBounds_toArray, List.set_cons_zero, List.set_cons_succ]
      refine wpAnyH_take (i := 16) (oi := ⟨some 29, _, _, _, _, _⟩) (v := ?_) rfl (by kernel_rfl) (by kernel_rfl) (by kernel_rfl) (fun _ _ _ h => h) (Or.inl ⟨by rfl, by intro w hSw; go_simp; try rfl⟩) (by assumption) ?_
      try simp only [Act.put, List.setIfInBounds_toArray, List.set_cons_zero, List.set_cons_succ]
      refine wpAnyH_take (i := 17) (oi := ⟨some 0, _, _, _, _, _⟩) (v := ?_) rfl (by kernel_rfl) (by kernel_rfl) (by kernel_rfl) (fun _ _ _ h => h) (Or.inl ⟨by rfl, by intro w hSw; go_simp; try rfl⟩) (by assumption) ?_
      try simp only [Act.put, List.setIfInBounds_toArray, List.set_cons_zero]
      refine wpAnyH_done (by kernel_rfl) ?_ _
      go_wp2
      go_ret
      exact ⟨by rfl, hHeld.below⟩
end Go.Proofs.Ytjllfaeamjadcaa
