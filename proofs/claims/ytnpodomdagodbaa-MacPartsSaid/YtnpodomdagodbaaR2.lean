/- The contracts of sacristanref02: turn, constants, words, step, Sum. -/
import Derived.Test.YtnpodomdagodbaaR1Nums
import Derived.Test.YtnpodomdagodbaaShaPure
import Derived.BigQuiet
import Derived.Deep.QuietTactic
import Derived.StillTailTactics
import Derived.Deep.RegionWith
import Derived.Deep.RegionLaw
import Derived.Deep.RegionHeld3
namespace Go.Proofs.Ytnpodomdagodbaa
open Go.RowKit

set_option maxHeartbeats 400000 in
theorem turn_any (x : UInt32) (n : Nat) (w : World) (h1 : 1 ≤ n) (h2 : n ≤ 31) :
    Calls Try.prog 46 #[.int .u32 x.toNat, .int .i64 n] w fun e w' => e = .returned (.int .u32 (turnR x n).toNat) ∧ w' = w := by
  have hx : (x.toNat : Int) < 4294967296 := by have := x.toNat_lt; omega
  have HT := Lib.hid (turnR_val x n)
  go_enter Try.func46, Try.ntmps46
  go_wp2
  go_ret
  exact ⟨by rw [← HT.out]; rfl, rfl⟩

section
attribute [local go_sem] u32_add u32_xor' u32_or' u32_and'
set_option maxHeartbeats 2000000 in
theorem words_any (A : Option Addr) (c : Nat) (b : List UInt8) (w : World) (ha : Bs w w.heap.size A 64 c b) :
    Calls Try.prog 44 #[.slice A 64 c] w fun e w' => ∃ v, e = .returned v ∧ w'.ownsRow w.heap.size 50 1 v 64 (cells32 (wordsL b)) ∧ Below w.heap.size w w' := by
  go_enter Try.func44, Try.ntmps44
  go_wp2
  go_loopw [3, 4] (fun v i wr => ∃ k : Nat, k ≤ 16 ∧ i = .int .i64 k ∧ Hid (wr.ownsRow w.heap.size 50 1 v k (cells32 (first b k))) ∧ Below w.heap.size w wr) (fun _ i _ => 16 - (intOf i).toNat)
  case atStart => exact ⟨0, Nat.zero_le _, rfl, own_nil _ _ _, Below.refl _ _⟩
  case round =>
    obtain ⟨k, hk, rfl, H, hB⟩ := hrel
    by_cases hlt : k < 16
    · have HW := Lib.hid (word_val b k)
      have HF := Lib.hid (first_succ b k)
      have hba := ha.below hB
      go_wp2_with (with_reducible refine wpList_cut_lh (o := ⟨some 19, _, _, _, _, _⟩) el8 rfl _ _ _ rfl rfl hba _ _ _ _ (4 * k) (4 * k + 4) rfl (by omega) rfl (by omega) (by omega) (by omega) ?_)
      intro A1 m1 d1 h1
      have H1 := Lib.hid h1
      clear h1 hba
      go_wp2_with fail
      refine (refget_any _ _ _ _ _ _ H1.out).mono ?_
      rintro e w1 ⟨rfl, rfl⟩
      generalize getN ((b.take (4 * k + 4)).drop (4 * k)) % 18446744073709551616 = g at *
      go_wp2_with (at_builtin; refine wpList_app1 el32 rfl _ _ rfl w.heap.size _ k _ rfl H.out rfl rfl (by simp only [maxLen]; omega) (by omega) hB.size ?_)
      intro v' w' H' hb' _ _
      have H2 : Hid (w'.ownsRow w.heap.size 50 1 v' (k + 1) (cells32 (first b (k + 1)))) := by
        rw [HF.out, cells32_append]
        show World.ownsRow _ _ _ _ _ _ (_ ++ [Value.int .u32 ((word b k).toNat : Int)])
        have h1 := H'.out
        rw [← HW.out]
        exact h1
      clear H H'
      go_wp2
      go_roundw
      case rel => exact ⟨k + 1, by omega, by go_num, H2, hB.trans hb'⟩
      case measure => simp [intOf]; omega
    · have hge : 16 ≤ k := by omega
      obtain ⟨q, hq⟩ : ∃ q, q = k := ⟨k, rfl⟩
      subst hq
      have HK := Lib.hid (show q = 16 by omega)
      have H0 : Hid (wr.ownsRow w.heap.size 50 1 u3 16 (cells32 (first b 16))) := by
        have h1 := H
        rw [HK.out] at h1
        exact h1
      clear H hk hlt
      have HX := Lib.hid (first_length b 16)
      generalize hl0 : first b 16 = l0 at *
      have HL0 := Lib.hid hl0
      clear hl0
      go_wp2
      go_loopw [3, 5] (fun v i wr => ∃ k : Nat, 16 ≤ k ∧ k ≤ 64 ∧ i = .int .i64 k ∧ Hid (wr.ownsRow w.heap.size 50 1 v k (cells32 (extW (k - 16) l0))) ∧ Below w.heap.size w wr) (fun _ i _ => 64 - (intOf i).toNat)
      case atStart => exact ⟨16, Nat.le_refl _, by omega, rfl, H0, hB⟩
      case round =>
        clear H0 hB
        obtain ⟨k, hk1, hk2, rfl, H, hB⟩ := hrel
        by_cases hlt : k < 64
        · obtain ⟨g, c', rfl, hc', hg1, hg2⟩ := own_some H.out (by omega)
          have hlen : (extW (k - 16) l0).length = k := by rw [extW_length, HX.out]; omega
          have HNX : Hid (extW (k + 1 - 16) l0 = extW (k - 16) l0 ++ [nextW (extW (k - 16) l0)]) := by show _ = _; rw [show k + 1 - 16 = (k - 16) + 1 by omega]; rfl
          generalize extW (k - 16) l0 = m at *
          have hat : ∀ j, j < k → wr.cell? ⟨g, j, none⟩ = some (.int .u32 ((m.getD j 0).toNat : Int)) := fun j hj => by
            rw [H.out.cellAt j (by omega), cells32_at m j (by omega)]
            simp [List.getD, List.getElem?_eq_getElem (show j < m.length by omega)]
          have HNW : Hid (nextW m = m.getD (k - 16) 0 + sig0 (m.getD (k - 15) 0) + m.getD (k - 7) 0 + sig1 (m.getD (k - 2) 0)) := by show _ = _; unfold nextW; rw [hlen]
          obtain ⟨K, hK⟩ : ∃ K : Nat, K = k - 16 := ⟨_, rfl⟩
          obtain ⟨J, hJ⟩ : ∃ J : Nat, J = k - 7 := ⟨_, rfl⟩
          have hwK : IntKind.i64.wrap ((k : Int) - 16) = (K : Int) := by rw [IntKind.wrap_i64]; omega
          have hwJ : IntKind.i64.wrap ((k : Int) - 7) = (J : Int) := by rw [IntKind.wrap_i64]; omega
          have hKk : (K : Int) < (k : Int) := by omega
          have hJk : (J : Int) < (k : Int) := by omega
          have h16 := hat K (by omega)
          have h7 := hat J (by omega)
          have h15 := hat (k - 15) (by omega)
          have h2 := hat (k - 2) (by omega)
          rw [← hK, ← hJ] at HNW
          clear hK hJ hat hlen
          generalize m.getD K 0 = a at *
          generalize m.getD (k - 15) 0 = x at *
          generalize m.getD J 0 = d at *
          generalize m.getD (k - 2) 0 = y at *
          go_wp2
          go_region_held3 (fun w' => w'.cell? ⟨g, K, none⟩ = some (.int .u32 (a.toNat : Int)) ∧ w'.cell? ⟨g, J, none⟩ = some (.int .u32 (d.toNat : Int)))
            (first | go_keep | exact ⟨(hkp g c' rfl K (by omega)).trans h16, (hkp g c' rfl J (by omega)).trans h7⟩)
            (first
              | ((with_reducible apply step_app1 (o := ⟨some 69, _, _, _, _, _⟩) (u := wr.drew) (E := el32) (s := .tmp 38) (x := .tmp 68) (base := w.heap.size) (n := k) (hown := H.out.drew)); (rfl); (rfl); (rfl); (rfl); (rfl); (rfl); (simp only [maxLen]; omega); (omega); (exact hB.size); intro v' w' H' hb' _ _ hkp)
              | (go_simp; go_at_call 46; refine (turn_any _ _ _ (by decide) (by decide)).mono ?_; rintro e w' ⟨rfl, rfl⟩))
          have HV := Lib.hid (next_val a x d y)
          have H2 : Hid (w'.ownsRow w.heap.size 50 1 v' (k + 1) (cells32 (extW (k + 1 - 16) l0))) := by
            show World.ownsRow _ _ _ _ _ _ _
            rw [HNX.out, cells32_append]
            show World.ownsRow _ _ _ _ _ _ (_ ++ [Value.int .u32 ((nextW m).toNat : Int)])
            rw [HNW.out, ← HV.out]
            exact H'.out
          have hb2 : Below w.heap.size wr w' := ((Below.refl _ _).drew).trans hb'
          rename_i hx1 hx2 hx3
          clear H H' hx1 hx2 hx3 hkp hb' HV HNX HNW hwK hwJ
          go_wp2
          go_roundw
          case rel => exact ⟨k + 1, by omega, by omega, by go_num, H2, hB.trans hb2⟩
          case measure => simp [intOf]; omega
        · obtain rfl : k = 64 := by omega
          have H2 : Hid (wr.ownsRow w.heap.size 50 1 u3 64 (cells32 (wordsL b))) := by
            show World.ownsRow _ _ _ _ _ _ _
            unfold wordsL
            rw [HL0.out]
            exact H.out
          clear H
          go_wp2
          go_ret
          exact ⟨_, rfl, H2.out, hB⟩
end
end Go.Proofs.Ytnpodomdagodbaa
