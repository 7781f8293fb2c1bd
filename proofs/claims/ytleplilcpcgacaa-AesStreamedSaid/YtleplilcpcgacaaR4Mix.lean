/- The contract of sacristanref04's mix. -/
import Derived.Test.YtleplilcpcgacaaR4Add
import Derived.Test.YtleplilcpcgacaaR4Mul
import Derived.Deep.LoopGhost
import Derived.WalkMore
import Derived.BigQuiet
import Derived.Deep.QuietTactic
import Derived.StillTailTactics
namespace Go.Proofs.Ytleplilcpcgacaa
open Go.RowKit

def mM : Nat → UInt8
  | 0 => 2
  | 1 => 3
  | _ => 1
def mixAcc (l : List UInt8) (p : Nat) : Nat → UInt8
  | 0 => 0
  | q + 1 => mixAcc l p q ^^^ mulU (l.getD (4 * (p / 4) + q) 0) (mM ((q + 4 - p % 4) % 4))
def mixL (l : List UInt8) (j : Nat) : List UInt8 := (List.range j).map fun p => mixAcc l p 4
theorem mixL_succ (l : List UInt8) (j : Nat) : mixL l (j + 1) = mixL l j ++ [mixAcc l j 4] := by simp [mixL, List.range_succ]
theorem mixL_length (l : List UInt8) (j : Nat) : (mixL l j).length = j := by simp [mixL]

section
attribute [local go_sem] i64_xor8
set_option maxRecDepth 100000 in
set_option maxHeartbeats 4000000 in
theorem refmix_any (A : Option Addr) (n c : Nat) (l : List UInt8) (w : World) (ha : Is w w.heap.size A n c l) (hn : 16 ≤ n) :
    Calls Try.prog 36 #[.slice A n c] w fun e w' => ∃ v, e = .returned v ∧ w'.ownsRow (w.heap.size + 1) 3 1 v 16 (cellsI (mixL l 16)) ∧ Below w.heap.size w w' := by
  have hnc := ha.cap
  have hcm := ha.max
  simp only [maxLen] at hcm
  have HA : Kp _ := ⟨ha⟩
  have HLl : Kp (l.length = n) := ⟨ha.len⟩
  clear ha
  go_enter Try.func36, Try.ntmps36
  go_wp2
  have hb1 : Below w.heap.size w (w.alloc (.cells #[.int .i64 2, .int .i64 3, .int .i64 1, .int .i64 1] 3)) := (Below.refl _ _).alloc (Nat.le_refl _) _
  have hs1 : (w.alloc (.cells #[.int .i64 2, .int .i64 3, .int .i64 1, .int .i64 1] 3)).heap.size = w.heap.size + 1 := by simp
  have HM : Kp (∀ t, t < 4 → (w.alloc (.cells #[.int .i64 2, .int .i64 3, .int .i64 1, .int .i64 1] 3)).cell? ⟨w.heap.size, t, none⟩ = some (.int .i64 ((mM t).toNat : Int))) := ⟨fun t ht => by
    rw [World.cell?_alloc_at _ _ _ _ rfl]
    rcases (by omega : t = 0 ∨ t = 1 ∨ t = 2 ∨ t = 3) with rfl | rfl | rfl | rfl <;> rfl⟩
  obtain ⟨w1, hw1⟩ : ∃ x, x = w.alloc (.cells #[.int .i64 2, .int .i64 3, .int .i64 1, .int .i64 1] 3) := ⟨_, rfl⟩
  rw [← hw1] at hb1 hs1 HM ⊢
  have HS1 : Kp (w1.heap.size = w.heap.size + 1) := ⟨hs1⟩
  clear hw1 hs1
  go_loopg [4, 5] 4 (fun gk v i wr => ∃ j : Nat, j + gk = 4 ∧ i = .int .i64 j ∧ Hid (wr.ownsRow (w.heap.size + 1) 3 1 v (4 * j) (cellsI (mixL l (4 * j)))) ∧ Below (w.heap.size + 1) w1 wr)
  case atStart => exact ⟨0, by omega, rfl, own_nil _ _ _, Below.refl _ _⟩
  case round =>
    obtain ⟨j, hj, rfl, H, hB⟩ := hrel
    cases gk with
    | zero =>
      obtain rfl : j = 4 := by omega
      go_wp2
      go_ret
      exact ⟨_, rfl, H.out, hb1.trans (hB.mono (by omega))⟩
    | succ g2 =>
      have hlt : (j : Int) < 4 := by omega
      go_wp2
      go_loopg [4, 6] 4 (fun g3 v i wx => ∃ k : Nat, k + g3 = 4 ∧ i = .int .i64 k ∧ Hid (wx.ownsRow (w.heap.size + 1) 3 1 v (4 * j + k) (cellsI (mixL l (4 * j + k)))) ∧ Below (w.heap.size + 1) w1 wx)
      case atStart => exact ⟨0, by omega, rfl, H, hB⟩
      case round =>
        clear H hB
        obtain ⟨k, hk, rfl, H, hB⟩ := hrel
        cases gk with
        | zero =>
          obtain rfl : k = 4 := by omega
          obtain ⟨Ak, ck, rfl, _⟩ := own_form H.out
          have H2 : Hid (wr.ownsRow (w.heap.size + 1) 3 1 (.slice Ak (4 * j + 4) ck) (4 * (j + 1)) (cellsI (mixL l (4 * (j + 1))))) := H
          go_wp2
          go_roundg g2
          case rel => exact ⟨j + 1, by omega, by go_num, H2, hB⟩
          case measure => omega
        | succ g4 =>
          have hlt2 : (k : Int) < 4 := by omega
          obtain ⟨wm, rfl⟩ : ∃ x, x = wr := ⟨wr, rfl⟩
          go_wp2
          go_loopg [7, 8] 4 (fun g5 v i wx => ∃ (q : Nat) (x : UInt8), q + g5 = 4 ∧ i = .int .i64 q ∧ v = .int .i64 x.toNat ∧ Kp (x = mixAcc l (4 * j + k) q) ∧ Below wm.heap.size wm wx)
          case atStart => exact ⟨0, 0, by omega, rfl, rfl, ⟨rfl⟩, Below.refl _ _⟩
          case round =>
            obtain ⟨q, x, hq, rfl, rfl, HX, hbx⟩ := hrel
            have hsm := hB.size
            have hs1 := HS1.out
            have hB1r : Below (w.heap.size + 1) w1 wr := hB.trans (hbx.mono (by omega))
            have hszr := hB1r.size
            clear hs1
            cases gk with
            | zero =>
              obtain rfl : q = 4 := by omega
              have HS : Kp _ := ⟨mixL_succ l (4 * j + k)⟩
              rw [← HX.out] at HS
              have HO : Kp _ := ⟨own_below H.out hbx⟩
              have hle : w.heap.size + 1 ≤ wr.heap.size := by have := HS1.out; omega
              go_wp2_with (at_builtin; refine wpList_app1 elI rfl _ _ rfl (w.heap.size + 1) _ (4 * j + k) _ rfl HO.out rfl rfl (by simp only [maxLen]; omega) (by omega) hle ?_)
              intro v' w' H' hb' _ _
              have H2 : Hid (w'.ownsRow (w.heap.size + 1) 3 1 v' (4 * j + (k + 1)) (cellsI (mixL l (4 * j + (k + 1))))) := by
                show World.ownsRow _ _ _ _ _ _ _
                rw [show 4 * j + (k + 1) = 4 * j + k + 1 by omega, HS.out, cellsI_append]
                exact H'.out
              clear H H' HS HO HX
              go_wp2
              go_roundg g4
              case rel => exact ⟨k + 1, by omega, by go_num, H2, hB1r.trans hb'⟩
              case measure => omega
            | succ g6 =>
              have hlt3 : (q : Int) < 4 := by omega
              have hB0r : Below w.heap.size w wr := hb1.trans (hB1r.mono (by omega))
              obtain ⟨J, hJ⟩ : ∃ J, J = 4 * j := ⟨_, rfl⟩
              obtain ⟨i, hi⟩ : ∃ i, i = 4 * j + q := ⟨_, rfl⟩
              obtain ⟨D, hD⟩ : ∃ D : Int, D = (q : Int) - (k : Int) := ⟨_, rfl⟩
              obtain ⟨e', he'⟩ : ∃ e', e' = q + 4 - k := ⟨_, rfl⟩
              obtain ⟨t, ht⟩ : ∃ t, t = e' % 4 := ⟨_, rfl⟩
              have hin16 : i < n := by omega
              obtain ⟨b1, o1, rfl, _, hc1⟩ := (HA.out.below hB0r).cell (i := i) hin16
              have e1 : l.getD i 0 = l[i]'(by rw [HLl.out]; omega) := by simp [List.getD, List.getElem?_eq_getElem (show i < l.length by rw [HLl.out]; omega)]
              rw [← e1] at hc1
              have hc2 : wr.cell? ⟨w.heap.size, t, none⟩ = some (.int .i64 ((mM t).toNat : Int)) := (hB1r.cell (p := ⟨w.heap.size, t, none⟩) (show w.heap.size < w.heap.size + 1 by omega)).trans (HM.out t (by omega))
              have HN : Kp (mixAcc l (4 * j + k) (q + 1) = x ^^^ mulU (l.getD i 0) (mM t)) := ⟨by
                show mixAcc l (4 * j + k) q ^^^ _ = _
                rw [← HX.out]
                have e2 : 4 * ((4 * j + k) / 4) + q = i := by omega
                have e3 : (q + 4 - (4 * j + k) % 4) % 4 = t := by omega
                rw [e2, e3]⟩
              have hw1 : IntKind.i64.wrap (4 * (j : Int)) = (J : Int) := by rw [IntKind.wrap_i64]; omega
              have hw2 : IntKind.i64.wrap ((J : Int) + (q : Int)) = (i : Int) := by rw [IntKind.wrap_i64]; omega
              have hw3 : IntKind.i64.wrap ((q : Int) - (k : Int)) = D := by rw [IntKind.wrap_i64]; omega
              have hw4 : IntKind.i64.wrap (D + 4) = (e' : Int) := by rw [IntKind.wrap_i64]; omega
              have hw5 : (e' : Int) % 4 = (t : Int) := by omega
              have hw6 : (e' : Int).tmod 4 = (t : Int) := by rw [Int.tmod_eq_emod_of_nonneg (by omega)]; exact hw5
              have hin : (i : Int) < (n : Int) := by omega
              have ht4 : (t : Int) < 4 := by omega
              generalize l.getD i 0 = y at *
              generalize mM t = z at *
              clear e1 hJ hi hD he' ht
              go_wp2_with fail
              refine wp_region_still_lit (by kernel_rfl) (by kernel_rfl) ?_
              repeat (first | still_step | still_call (refmul_st _ _ _))
              try refine wpStill_nil ?_
              change Exit.inBlock _ _ _ _ wr.drew
              go_wp2
              go_roundg g6
              case rel => exact ⟨q + 1, x ^^^ mulU y z, by omega, by go_num, rfl, ⟨HN.out.symm⟩, hbx.drew⟩
              case measure => omega
end
end Go.Proofs.Ytleplilcpcgacaa
