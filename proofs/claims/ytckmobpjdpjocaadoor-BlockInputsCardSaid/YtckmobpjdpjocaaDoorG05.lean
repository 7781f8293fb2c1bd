/- The contract of sacristanref04's Mul.
   The contract of sacristanref04's mix.
   The contract of sacristanref04's Block.
   States of four words, as a cipher's rounds turn them, word by word. No program is named here.
   The contracts of package aes's small functions.
   The contract of sacristanref04's Box. -/
import Derived.Test.YtckmobpjdpjocaaDoorG03
import Derived.Test.YtckmobpjdpjocaaDoorG04
import Derived.Test.YtckmobpjdpjocaaDoorRows
import Derived.Deep.LoopGhost
import Derived.WalkMore
import Derived.BigQuiet
import Derived.Deep.QuietTactic
import Derived.StillTailTactics
import Derived.Test.YtckmobpjdpjocaaDoorG01
import Derived.Test.YtckmobpjdpjocaaDoorG02
namespace Go.Proofs.YtckmobpjdpjocaaDoor
open Go.RowKit

section
attribute [local go_sem] i64_xor8
set_option maxHeartbeats 1000000 in
theorem refmul_any (x y : UInt8) (w : World) :
    Calls Tryd.prog 30 #[.int .i64 x.toNat, .int .i64 y.toNat] w fun e w' => e = .returned (.int .i64 (mulU x y).toNat) ∧ w = w' := by
  go_enter Tryd.func30, Tryd.ntmps30
  go_wp2
  go_loopw [0, 1, 5, 6] (fun va vb vn vi wr => ∃ (k : Nat) (a b n : UInt8), k ≤ 8 ∧ vi = .int .i64 k ∧ va = .int .i64 a.toNat ∧ vb = .int .i64 b.toNat ∧ vn = .int .i64 n.toNat ∧ Kp (mulIt x y k = ⟨n, a, b⟩) ∧ w = wr) (fun _ _ _ vi _ => 8 - (intOf vi).toNat)
  case atStart => exact ⟨0, x, y, 0, by omega, rfl, rfl, rfl, rfl, ⟨rfl⟩, rfl⟩
  case round =>
    obtain ⟨k, a, b, n, hk, rfl, rfl, rfl, rfl, HM, rfl⟩ := hrel
    by_cases hlt : k < 8
    · have ha8 := a.toNat_lt
      have hb8 := b.toNat_lt
      have hn8 := n.toNat_lt
      have hv2 := half_val b
      have HS : Kp (mulIt x y (k + 1) = ⟨if b.toNat % 2 = 1 then n ^^^ a else n, xt a, half b⟩) := ⟨by show mulStep (mulIt x y k) = _; rw [HM.out]; rfl⟩
      by_cases hodd : b.toNat % 2 = 1
      · have ho : ((b.toNat : Int) % 2 == 1) = true := by rw [beq_iff_eq]; omega
        have HS2 : Kp (mulIt x y (k + 1) = ⟨n ^^^ a, xt a, half b⟩) := ⟨by rw [HS.out, if_pos hodd]⟩
        by_cases hhi : 128 ≤ a.toNat
        · have hge : (256 : Int) ≤ 2 * (a.toNat : Int) := by omega
          have hxv : bits .xor .i64 (2 * (a.toNat : Int)) 283 = ((xt a).toNat : Int) := by
            have h := i64_xor_nat (2 * a.toNat) 283 (by omega) (by omega)
            rw [xt_high a hhi] at h
            exact h
          clear hodd HS HM hhi
          generalize xt a = z at *
          generalize half b = z2 at *
          go_wp2
          go_roundw
          case rel => exact ⟨k + 1, z, z2, n ^^^ a, by omega, by go_num, rfl, rfl, rfl, HS2, by first | trivial | rfl⟩
          case measure => simp [intOf]; omega
        · have hge : ¬ (256 : Int) ≤ 2 * (a.toNat : Int) := by omega
          have hxv := xt_low a (by omega)
          have hge2 : ¬ (256 : Int) ≤ ((xt a).toNat : Int) := by have := (xt a).toNat_lt; omega
          clear hge
          clear hodd HS HM hhi
          generalize xt a = z at *
          generalize half b = z2 at *
          go_wp2
          go_roundw
          case rel => exact ⟨k + 1, z, z2, n ^^^ a, by omega, by go_num, rfl, rfl, rfl, HS2, by first | trivial | rfl⟩
          case measure => simp [intOf]; omega
      · have ho : ((b.toNat : Int) % 2 == 1) = false := by rw [beq_eq_false_iff_ne]; omega
        have HS2 : Kp (mulIt x y (k + 1) = ⟨n, xt a, half b⟩) := ⟨by rw [HS.out, if_neg hodd]⟩
        by_cases hhi : 128 ≤ a.toNat
        · have hge : (256 : Int) ≤ 2 * (a.toNat : Int) := by omega
          have hxv : bits .xor .i64 (2 * (a.toNat : Int)) 283 = ((xt a).toNat : Int) := by
            have h := i64_xor_nat (2 * a.toNat) 283 (by omega) (by omega)
            rw [xt_high a hhi] at h
            exact h
          clear hodd HS HM hhi
          generalize xt a = z at *
          generalize half b = z2 at *
          go_wp2
          go_roundw
          case rel => exact ⟨k + 1, z, z2, n, by omega, by go_num, rfl, rfl, rfl, HS2, by first | trivial | rfl⟩
          case measure => simp [intOf]; omega
        · have hge : ¬ (256 : Int) ≤ 2 * (a.toNat : Int) := by omega
          have hxv := xt_low a (by omega)
          have hge2 : ¬ (256 : Int) ≤ ((xt a).toNat : Int) := by have := (xt a).toNat_lt; omega
          clear hge
          clear hodd HS HM hhi
          generalize xt a = z at *
          generalize half b = z2 at *
          go_wp2
          go_roundw
          case rel => exact ⟨k + 1, z, z2, n, by omega, by go_num, rfl, rfl, rfl, HS2, by first | trivial | rfl⟩
          case measure => simp [intOf]; omega
    · obtain rfl : k = 8 := by omega
      have HR : Kp (mulU x y = n) := ⟨by unfold mulU; rw [HM.out]⟩
      go_wp2
      go_ret
      exact ⟨by rw [HR.out]; rfl, rfl⟩
end
theorem refmul_st (x y : UInt8) (w : World) : Calls Tryd.prog 30 #[.int .i64 x.toNat, .int .i64 y.toNat] w fun e w' => e = .returned (.int .i64 (mulU x y).toNat) ∧ w' = w :=
  (refmul_any x y w).mono fun _ _ h => ⟨h.1, h.2.symm⟩
end Go.Proofs.YtckmobpjdpjocaaDoor

namespace Go.Proofs.YtckmobpjdpjocaaDoor
open Go.RowKit

def mM : Nat → UInt8
  | 0 => 2
  | 1 => 3
  | _ => 1
def mixAcc (l : List UInt8) (p : Nat) : Nat → UInt8
  | 0 => 0
  | q + 1 => mixAcc l p q ^^^ mulU (l.getD (4 * (p / 4) + q) 0) (mM ((q + 4 - p % 4) % 4))
def mixL (l : List UInt8) (j : Nat) : List UInt8 := (List.range j).map fun p => mixAcc l p 4
theorem mixL_succ (l : List UInt8) (j : Nat) : mixL l (j + 1) = mixL l j ++ [mixAcc l j 4] := by simp [mixL, List.range_succ]
theorem mixL_length (l : List UInt8) (j : Nat) : (mixL l j).length = j := by simp [mixL]

section
attribute [local go_sem] i64_xor8
set_option maxRecDepth 100000 in
set_option maxHeartbeats 4000000 in
theorem refmix_any (A : Option Addr) (n c : Nat) (l : List UInt8) (w : World) (ha : Is w w.heap.size A n c l) (hn : 16 ≤ n) :
    Calls Tryd.prog 69 #[.slice A n c] w fun e w' => ∃ v, e = .returned v ∧ w'.ownsRow (w.heap.size + 1) 3 1 v 16 (cellsI (mixL l 16)) ∧ Below w.heap.size w w' := by
  have hnc := ha.cap
  have hcm := ha.max
  simp only [maxLen] at hcm
  have HA : Kp _ := ⟨ha⟩
  have HLl : Kp (l.length = n) := ⟨ha.len⟩
  clear ha
  go_enter Tryd.func69, Tryd.ntmps69
  go_wp2
  have hb1 : Below w.heap.size w (w.alloc (.cells #[.int .i64 2, .int .i64 3, .int .i64 1, .int .i64 1] 3)) := (Below.refl _ _).alloc (Nat.le_refl _) _
  have hs1 : (w.alloc (.cells #[.int .i64 2, .int .i64 3, .int .i64 1, .int .i64 1] 3)).heap.size = w.heap.size + 1 := by simp
  have HM : Kp (∀ t, t < 4 → (w.alloc (.cells #[.int .i64 2, .int .i64 3, .int .i64 1, .int .i64 1] 3)).cell? ⟨w.heap.size, t, none⟩ = some (.int .i64 ((mM t).toNat : Int))) := ⟨fun t ht => by
    rw [World.cell?_alloc_at _ _ _ _ rfl]
    rcases (by omega : t = 0 ∨ t = 1 ∨ t = 2 ∨ t = 3) with rfl | rfl | rfl | rfl <;> rfl⟩
  obtain ⟨w1, hw1⟩ : ∃ x, x = w.alloc (.cells #[.int .i64 2, .int .i64 3, .int .i64 1, .int .i64 1] 3) := ⟨_, rfl⟩
  rw [← hw1] at hb1 hs1 HM ⊢
  have HS1 : Kp (w1.heap.size = w.heap.size + 1) := ⟨hs1⟩
  clear hw1 hs1
  go_loopg [4, 5] 4 (fun gk v i wr => ∃ j : Nat, j + gk = 4 ∧ i = .int .i64 j ∧ Hid (wr.ownsRow (w.heap.size + 1) 3 1 v (4 * j) (cellsI (mixL l (4 * j)))) ∧ Below (w.heap.size + 1) w1 wr)
  case atStart => exact ⟨0, by omega, rfl, own_nil _ _ _, Below.refl _ _⟩
  case round =>
    obtain ⟨j, hj, rfl, H, hB⟩ := hrel
    cases gk with
    | zero =>
      obtain rfl : j = 4 := by omega
      go_wp2
      go_ret
      exact ⟨_, rfl, H.out, hb1.trans (hB.mono (by omega))⟩
    | succ g2 =>
      have hlt : (j : Int) < 4 := by omega
      go_wp2
      go_loopg [4, 6] 4 (fun g3 v i wx => ∃ k : Nat, k + g3 = 4 ∧ i = .int .i64 k ∧ Hid (wx.ownsRow (w.heap.size + 1) 3 1 v (4 * j + k) (cellsI (mixL l (4 * j + k)))) ∧ Below (w.heap.size + 1) w1 wx)
      case atStart => exact ⟨0, by omega, rfl, H, hB⟩
      case round =>
        clear H hB
        obtain ⟨k, hk, rfl, H, hB⟩ := hrel
        cases gk with
        | zero =>
          obtain rfl : k = 4 := by omega
          obtain ⟨Ak, ck, rfl, _⟩ := own_form H.out
          have H2 : Hid (wr.ownsRow (w.heap.size + 1) 3 1 (.slice Ak (4 * j + 4) ck) (4 * (j + 1)) (cellsI (mixL l (4 * (j + 1))))) := H
          go_wp2
          go_roundg g2
          case rel => exact ⟨j + 1, by omega, by go_num, H2, hB⟩
          case measure => omega
        | succ g4 =>
          have hlt2 : (k : Int) < 4 := by omega
          obtain ⟨wm, rfl⟩ : ∃ x, x = wr := ⟨wr, rfl⟩
          go_wp2
          go_loopg [7, 8] 4 (fun g5 v i wx => ∃ (q : Nat) (x : UInt8), q + g5 = 4 ∧ i = .int .i64 q ∧ v = .int .i64 x.toNat ∧ Kp (x = mixAcc l (4 * j + k) q) ∧ Below wm.heap.size wm wx)
          case atStart => exact ⟨0, 0, by omega, rfl, rfl, ⟨rfl⟩, Below.refl _ _⟩
          case round =>
            obtain ⟨q, x, hq, rfl, rfl, HX, hbx⟩ := hrel
            have hsm := hB.size
            have hs1 := HS1.out
            have hB1r : Below (w.heap.size + 1) w1 wr := hB.trans (hbx.mono (by omega))
            have hszr := hB1r.size
            clear hs1
            cases gk with
            | zero =>
              obtain rfl : q = 4 := by omega
              have HS : Kp _ := ⟨mixL_succ l (4 * j + k)⟩
              rw [← HX.out] at HS
              have HO : Kp _ := ⟨own_below H.out hbx⟩
              have hle : w.heap.size + 1 ≤ wr.heap.size := by have := HS1.out; omega
              go_wp2_with (at_builtin; refine wpList_app1 elI rfl _ _ rfl (w.heap.size + 1) _ (4 * j + k) _ rfl HO.out rfl rfl (by simp only [maxLen]; omega) (by omega) hle ?_)
              intro v' w' H' hb' _ _
              have H2 : Hid (w'.ownsRow (w.heap.size + 1) 3 1 v' (4 * j + (k + 1)) (cellsI (mixL l (4 * j + (k + 1))))) := by
                show World.ownsRow _ _ _ _ _ _ _
                rw [show 4 * j + (k + 1) = 4 * j + k + 1 by omega, HS.out, cellsI_append]
                exact H'.out
              clear H H' HS HO HX
              go_wp2
              go_roundg g4
              case rel => exact ⟨k + 1, by omega, by go_num, H2, hB1r.trans hb'⟩
              case measure => omega
            | succ g6 =>
              have hlt3 : (q : Int) < 4 := by omega
              have hB0r : Below w.heap.size w wr := hb1.trans (hB1r.mono (by omega))
              obtain ⟨J, hJ⟩ : ∃ J, J = 4 * j := ⟨_, rfl⟩
              obtain ⟨i, hi⟩ : ∃ i, i = 4 * j + q := ⟨_, rfl⟩
              obtain ⟨D, hD⟩ : ∃ D : Int, D = (q : Int) - (k : Int) := ⟨_, rfl⟩
              obtain ⟨e', he'⟩ : ∃ e', e' = q + 4 - k := ⟨_, rfl⟩
              obtain ⟨t, ht⟩ : ∃ t, t = e' % 4 := ⟨_, rfl⟩
              have hin16 : i < n := by omega
              obtain ⟨b1, o1, rfl, _, hc1⟩ := (HA.out.below hB0r).cell (i := i) hin16
              have e1 : l.getD i 0 = l[i]'(by rw [HLl.out]; omega) := by simp [List.getD, List.getElem?_eq_getElem (show i < l.length by rw [HLl.out]; omega)]
              rw [← e1] at hc1
              have hc2 : wr.cell? ⟨w.heap.size, t, none⟩ = some (.int .i64 ((mM t).toNat : Int)) := (hB1r.cell (p := ⟨w.heap.size, t, none⟩) (show w.heap.size < w.heap.size + 1 by omega)).trans (HM.out t (by omega))
              have HN : Kp (mixAcc l (4 * j + k) (q + 1) = x ^^^ mulU (l.getD i 0) (mM t)) := ⟨by
                show mixAcc l (4 * j + k) q ^^^ _ = _
                rw [← HX.out]
                have e2 : 4 * ((4 * j + k) / 4) + q = i := by omega
                have e3 : (q + 4 - (4 * j + k) % 4) % 4 = t := by omega
                rw [e2, e3]⟩
              have hw1 : IntKind.i64.wrap (4 * (j : Int)) = (J : Int) := by rw [IntKind.wrap_i64]; omega
              have hw2 : IntKind.i64.wrap ((J : Int) + (q : Int)) = (i : Int) := by rw [IntKind.wrap_i64]; omega
              have hw3 : IntKind.i64.wrap ((q : Int) - (k : Int)) = D := by rw [IntKind.wrap_i64]; omega
              have hw4 : IntKind.i64.wrap (D + 4) = (e' : Int) := by rw [IntKind.wrap_i64]; omega
              have hw5 : (e' : Int) % 4 = (t : Int) := by omega
              have hw6 : (e' : Int).tmod 4 = (t : Int) := by rw [Int.tmod_eq_emod_of_nonneg (by omega)]; exact hw5
              have hin : (i : Int) < (n : Int) := by omega
              have ht4 : (t : Int) < 4 := by omega
              generalize l.getD i 0 = y at *
              generalize mM t = z at *
              clear e1 hJ hi hD he' ht
              go_wp2_with fail
              refine wp_region_still_lit (by kernel_rfl) (by kernel_rfl) ?_
              repeat (first | still_step | still_call (refmul_st _ _ _))
              try refine wpStill_nil ?_
              change Exit.inBlock _ _ _ _ wr.drew
              go_wp2
              go_roundg g6
              case rel => exact ⟨q + 1, x ^^^ mulU y z, by omega, by go_num, rfl, ⟨HN.out.symm⟩, hbx.drew⟩
              case measure => omega
end
end Go.Proofs.YtckmobpjdpjocaaDoor

namespace Go.Proofs.YtckmobpjdpjocaaDoor
open Go.RowKit

/-- a round -/
def roundL (ks : List (List UInt8)) (bx s : List UInt8) (r : Nat) : List UInt8 := addL (if r < 10 then mixL (shiftL s bx 16) 16 else shiftL s bx 16) (ks.getD r []) 16
def roundsL (ks : List (List UInt8)) (bx inp : List UInt8) : Nat → List UInt8
  | 0 => addL inp (ks.getD 0 []) 16
  | r + 1 => roundL ks bx (roundsL ks bx inp r) (r + 1)
/-- a block, enciphered -/
def blockL (ks : List (List UInt8)) (bx inp : List UInt8) : List UInt8 := roundsL ks bx inp 10
theorem roundsL_length (ks : List (List UInt8)) (bx inp : List UInt8) (r : Nat) : (roundsL ks bx inp r).length = 16 := by
  cases r <;> simp [roundsL, roundL, addL_length]
theorem blockL_length (ks : List (List UInt8)) (bx inp : List UInt8) : (blockL ks bx inp).length = 16 := roundsL_length _ _ _ _

/-- a key, spread, and the box, as the document's C has them -/
structure CIs (w : World) (B : Nat) (KA : Option Addr) (kc : Nat) (ks : List (List UInt8)) (BA : Option Addr) (bc : Nat) (bx : List UInt8) : Prop where
  key : ∃ b o, KA = some ⟨b, o, none⟩ ∧ b < B ∧ ∀ r, r < 11 → ∃ A c, w.cell? ⟨b, o + r, none⟩ = some (.slice A 16 c) ∧ Is w B A 16 c (ks.getD r [])
  box : Is w B BA 256 bc bx
theorem CIs.next {w0 w1 : World} {KA : Option Addr} {kc : Nat} {ks : List (List UInt8)} {BA : Option Addr} {bc : Nat} {bx : List UInt8} (h : CIs w0 w0.heap.size KA kc ks BA bc bx) (hb : Below w0.heap.size w0 w1) : CIs w1 w1.heap.size KA kc ks BA bc bx := by
  obtain ⟨b, o, hA, hlt, hk⟩ := h.key
  refine ⟨⟨b, o, hA, Nat.lt_of_lt_of_le hlt hb.size, fun r hr => ?_⟩, h.box.next hb (Nat.le_refl _)⟩
  obtain ⟨A, c, h1, h2⟩ := hk r hr
  exact ⟨A, c, (hb.cell (p := ⟨b, o + r, none⟩) hlt).trans h1, h2.next hb (Nat.le_refl _)⟩

/-- the first j bytes of s, and noughts behind them -/
def outL (s : List UInt8) (j : Nat) : List UInt8 := s.take j ++ List.replicate (16 - j) 0
theorem outL_length (s : List UInt8) (j : Nat) (hs : s.length = 16) (hj : j ≤ 16) : (outL s j).length = 16 := by simp [outL]; omega
theorem outL_set (s : List UInt8) (j : Nat) (hj : j < s.length) (hs : s.length = 16) : (cells8 (outL s j)).set j (.int .u8 (s[j].toNat : Int)) = cells8 (outL s (j + 1)) := by
  unfold outL
  rw [show 16 - j = (16 - (j + 1)) + 1 by omega, List.replicate_succ, cells8_append, List.set_append_right _ _ (by rw [cells8_length, List.length_take]; omega), cells8_length, List.length_take, Nat.min_eq_left (by omega), Nat.sub_self, List.take_succ_eq_append_getElem hj, List.append_assoc, cells8_append]
  rfl
theorem outL_done (s : List UInt8) (hs : s.length = 16) : outL s 16 = s := by unfold outL; rw [List.take_of_length_le (by omega)]; simp
def lit16 : List Value := [.int .u8 0, .int .u8 0, .int .u8 0, .int .u8 0, .int .u8 0, .int .u8 0, .int .u8 0, .int .u8 0, .int .u8 0, .int .u8 0, .int .u8 0, .int .u8 0, .int .u8 0, .int .u8 0, .int .u8 0, .int .u8 0]
theorem lit16_one : ∀ v ∈ lit16, v.oneCell' = true := by unfold lit16; intro v hv; simp at hv; subst hv; rfl
theorem lit16_zero : lit16 = zero16 := by rfl
theorem outL_none (s : List UInt8) : cells8 (outL s 0) = zero16 := by simp [outL, zero16]

set_option maxRecDepth 100000 in
set_option maxHeartbeats 4000000 in
theorem refblock_any (KA : Option Addr) (kc : Nat) (ks : List (List UInt8)) (BA : Option Addr) (bc : Nat) (bx : List UInt8) (inp : List UInt8) (w : World) (hc : CIs w w.heap.size KA kc ks BA bc bx) (hi : inp.length = 16) :
    Calls Tryd.prog 59 #[.agg #[.slice KA 11 kc, .slice BA 256 bc], .agg (cells8 inp).toArray] w fun e w' => e = .returned (.agg (cells8 (blockL ks bx inp)).toArray) ∧ Below w.heap.size w w' := by
  have HC : Kp _ := ⟨hc⟩
  have HI : Kp _ := ⟨hi⟩
  clear hc hi
  go_enter Tryd.func59, Tryd.ntmps59
  go_wp2_with (with_reducible refine wpList_box (o := ⟨some 2, _, _, _, _, _⟩) (cs := [.slice KA 11 kc, .slice BA 256 bc]) rfl (.tmp 0) rfl rfl ?_)
  intro w1 hk1 hb1 hs1
  have HK1 : Kp _ := ⟨hk1⟩
  have HC1 : Kp _ := ⟨HC.out.next hb1⟩
  clear hk1 hs1
  go_wp2_with (with_reducible refine wpList_box (o := ⟨some 3, _, _, _, _, _⟩) rfl (.tmp 1) rfl rfl ?_)
  intro w2 hk2 hb2 hs2
  have HK2 : Kp _ := ⟨hk2⟩
  have HK12 : Kp _ := ⟨HK1.out.below hb2 HK1.out.lt⟩
  have HC2 : Kp _ := ⟨HC1.out.next hb2⟩
  have hb02 := below_next hb1 hb2
  clear hk2 hs2 HK1 HC1
  go_wp2_with (with_reducible refine wpList_alloc (o := ⟨some 4, _, _, _, _, _⟩) tyNonce rfl rfl ?_)
  intro w3 hk3 hb3 hs3
  have HR3 : Kp _ := ⟨hk3⟩
  have HK3 : Kp _ := ⟨HK2.out.below hb3 HK2.out.lt⟩
  have HK13 : Kp _ := ⟨HK12.out.below hb3 HK12.out.lt⟩
  have HC3 : Kp _ := ⟨HC2.out.next hb3⟩
  have hb03 := below_next hb02 hb3
  have hl1 : w.heap.size < w3.heap.size := HK13.out.lt
  have hl2 : w1.heap.size < w3.heap.size := HK3.out.lt
  have hl3 : w2.heap.size < w3.heap.size := hk3.lt
  have hgw : w.heap.size ≤ w2.heap.size := hb02.size
  clear hk3 hs3 HK2 HK12 HC2 hb1 hb2 hb3 hb02 HC
  have hk0 : ∀ W, Below w3.heap.size w3 W → W.cell? ⟨w.heap.size, 0, none⟩ = some (.slice KA 11 kc) := fun W hW => (hW.cell (p := ⟨w.heap.size, 0, none⟩) hl1).trans (HK13.out.cell? 0)
  have hk1 : ∀ W, Below w3.heap.size w3 W → W.cell? ⟨w.heap.size, 1, none⟩ = some (.slice BA 256 bc) := fun W hW => (hW.cell (p := ⟨w.heap.size, 1, none⟩) hl1).trans (HK13.out.cell? 1)
  have K0 : Kp _ := ⟨hk0⟩
  have K1 : Kp _ := ⟨hk1⟩
  clear hk0 hk1 HK13
  go_wp2
  go_loopw [5, 6] (fun v i wr => ∃ j : Nat, j ≤ 16 ∧ i = .int .i64 j ∧ Hid (wr.ownsRow w3.heap.size 3 1 v j (cellsI (inp.take j))) ∧ Below w3.heap.size w3 wr) (fun _ i _ => 16 - (intOf i).toNat)
  case atStart => exact ⟨0, Nat.zero_le _, rfl, own_nil _ _ _, Below.refl _ _⟩
  case round =>
    obtain ⟨j, hj, rfl, H, hB⟩ := hrel
    by_cases hlt : j < 16
    · have hsz := hB.size
      have hjl : j < inp.length := by rw [HI.out]; exact hlt
      have hcx : wr.cell? ⟨w1.heap.size, j, none⟩ = some (.int .u8 (inp[j].toNat : Int)) := by rw [(HK3.out.below hB hl2).cell? j, cells8_at inp j hjl]
      have HT : Kp _ := ⟨List.take_succ_eq_append_getElem hjl⟩
      generalize inp[j] = x at *
      have hwr : wrap64 (x.toNat : Int) = (x.toNat : Int) := by have := x.toNat_lt; simp only [wrap64]; omega
      go_wp2_with (at_builtin; refine wpList_app1 elI rfl _ _ rfl w3.heap.size _ j _ rfl H.out rfl rfl (by simp only [maxLen]; omega) (by omega) hsz ?_)
      intro v' w' H' hb' _ _
      have H2 : Hid (w'.ownsRow w3.heap.size 3 1 v' (j + 1) (cellsI (inp.take (j + 1)))) := by
        show World.ownsRow _ _ _ _ _ _ _
        rw [HT.out, cellsI_append]
        exact H'.out
      clear H H' HT
      go_wp2
      go_roundw
      case rel => exact ⟨j + 1, by omega, by go_num, H2, hB.trans hb'⟩
      case measure => simp [intOf]; omega
    · obtain rfl : j = 16 := by omega
      obtain ⟨A0, c0, e0, hs0⟩ := Is.of_own H.out
      subst e0
      rw [List.take_of_length_le (by rw [HI.out]; exact Nat.le_refl _)] at hs0
      have HS0 : Kp _ := ⟨hs0⟩
      obtain ⟨wa, rfl⟩ : ∃ x, x = wr := ⟨wr, rfl⟩
      have q0 := K0.out wa hB
      obtain ⟨kb, ko, rfl, hkb, hkk⟩ := (HC3.out.next hB).key
      obtain ⟨Ak, ck, qk, hik⟩ := hkk 0 (by omega)
      have HIk : Kp _ := ⟨hik⟩
      clear hs0 H hik hkk
      rw [Nat.add_zero] at qk
      go_wp2_with fail
      refine (refadd_any A0 16 c0 inp Ak 16 ck _ wa HS0.out HIk.out (by omega) (by omega)).mono ?_
      rintro e wb ⟨vb, rfl, hownb, hbb⟩
      obtain ⟨A1, c1, rfl, hs1⟩ := Is.of_own hownb
      have HS1 : Kp (Is wb wb.heap.size A1 16 c1 (roundsL ks bx inp 0)) := ⟨hs1⟩
      have hB0b : Below w3.heap.size w3 wb := below_next hB hbb
      clear hs1 hownb hbb q0 qk HS0 HIk
      go_wp2
      go_loopg [5, 7] 10 (fun gk v i wr => ∃ (r : Nat) (A : Option Addr) (c : Nat), r + gk = 10 ∧ i = .int .i64 ((r : Int) + 1) ∧ v = .slice A 16 c ∧ Kp (Is wr wr.heap.size A 16 c (roundsL ks bx inp r)) ∧ Below w3.heap.size w3 wr)
      case atStart => exact ⟨0, A1, c1, by omega, rfl, rfl, HS1, hB0b⟩
      case round =>
        clear HS1 hB0b
        obtain ⟨r, A, c, hr, rfl, rfl, HS, hBr⟩ := hrel
        cases gk with
        | zero =>
          obtain rfl : r = 10 := by omega
          have HS10 : Kp (Is wr wr.heap.size A 16 c (blockL ks bx inp)) := HS
          have HL16 : Kp ((blockL ks bx inp).length = 16) := ⟨blockL_length _ _ _⟩
          have HZ : Kp (zero16.length = 16) := ⟨rfl⟩
          have HZl : Kp (lit16.length = 16) := ⟨rfl⟩
          generalize hbl : blockL ks bx inp = R at *
          have HBL : Kp _ := ⟨hbl⟩
          obtain ⟨wc, rfl⟩ : ∃ x, x = wr := ⟨wr, rfl⟩
          clear HS hbl K0 K1
          go_wp2_with (with_reducible refine wpList_alloc (o := ⟨some 8, _, _, _, _, _⟩) tyNonce rfl rfl ?_)
          intro wd hkd hbd hsd
          have HKd : Kp _ := ⟨hkd⟩
          clear hkd hsd
          go_wp2_with (refine wpList_storeAll (o := ⟨none, _, _, _, _, _⟩) (vs := lit16) rwNonce rfl (.tmp 8) (.tmp 46) rfl rfl HKd.out HZ.out HZl.out lit16_one rfl ?_)
          intro we hke hoe
          have HKe : Kp (Blk we wc.heap.size 39 (cells8 (outL R 0))) := ⟨by rw [outL_none]; exact hke⟩
          have hbe : Below wc.heap.size wc we := hbd.trans (hoe.below (Nat.le_refl _))
          have HSe : Kp _ := ⟨HS10.out.below hbe⟩
          have hB0e : Below w3.heap.size w3 we := hBr.trans (hbe.mono hBr.size)
          have hgt : w3.heap.size ≤ wc.heap.size := hBr.size
          clear hke hoe HKd hbd hbe HS10 hBr
          go_wp2
          go_loopw [9] (fun i wr => ∃ j : Nat, j ≤ 16 ∧ i = .int .i64 j ∧ Kp (Blk wr wc.heap.size 39 (cells8 (outL R j))) ∧ Only wc.heap.size we wr) (fun i _ => 16 - (intOf i).toNat)
          case atStart => exact ⟨0, Nat.zero_le _, rfl, HKe, Only.refl _ _⟩
          case round =>
            clear HKe
            obtain ⟨j, hj, rfl, HB, ho⟩ := hrel
            by_cases hlt : j < 16
            · have hjl : j < R.length := by rw [HL16.out]; exact hlt
              obtain ⟨b1, o1, rfl, hbb, hcx⟩ := HSe.out.cell (i := j) hlt
              have hcx2 : wr.cell? ⟨b1, o1 + j, none⟩ = some (.int .i64 (R[j].toNat : Int)) := (World.cell?_of_block (w := we) (ho.block b1 (by omega))).trans hcx
              have hco := HB.out.cell (i := j) (by rw [cells8_length, outL_length R j HL16.out (by omega)]; exact hlt)
              have hfo := HB.out.frozen j
              have HSet : Kp _ := ⟨outL_set R j hjl HL16.out⟩
              have hx8 := R[j].toNat_lt
              have hmod : (R[j].toNat : Int) % 256 = (R[j].toNat : Int) := by omega
              generalize R[j] = x at *
              generalize (cells8 (outL R j))[j]'_ = q at hco
              clear hcx
              go_wp2
              refine ⟨⟨j + 1, by omega, by go_num, ⟨?_⟩, ho.trans (Only.setCell wr ⟨wc.heap.size, j, none⟩ _)⟩, by simp [intOf]; omega⟩
              have h3 := HB.out.set j (.int .u8 (x.toNat : Int))
              rw [HSet.out] at h3
              exact h3
            · obtain rfl : j = 16 := by omega
              have HD : Kp (Blk wr wc.heap.size 39 (cells8 R)) := ⟨by
                have h := HB.out
                rw [outL_done R HL16.out] at h
                exact h⟩
              have HLen : Kp ((cells8 R).length = 16) := ⟨by rw [cells8_length, HL16.out]⟩
              have HRr : Kp _ := ⟨((HR3.out.below hB0e hl3).only ho (by omega))⟩
              clear HB
              go_wp2_with (first
                | (with_reducible refine wpList_loadAll (o := ⟨some 58, _, _, _, _, _⟩) rwNonce rfl (.tmp 8) rfl rfl HD.out HLen.out ?_)
                | (with_reducible refine wpList_storeAll (o := ⟨none, _, _, _, _, _⟩) (vs := cells8 R) rwNonce rfl (.tmp 4) (.tmp 58) rfl rfl HRr.out HZ.out HLen.out (cells8_one _) rfl ?_))
              intro w5 hk5 ho5
              have HK5 : Kp _ := ⟨hk5⟩
              clear hk5
              go_wp2
              have hBf : Below w.heap.size w w5 := ((hb03.trans (hB0e.mono (Nat.le_of_lt hl1))).trans (ho.below (by omega))).trans (ho5.below hgw)
              exact ret_arr rfl rwNonce rfl HK5.out HLen.out rfl ⟨by rw [HBL.out], hBf⟩
        | succ g =>
          have hr10 : (r : Int) + 1 ≤ 10 := by omega
          obtain ⟨wc, rfl⟩ : ∃ x, x = wr := ⟨wr, rfl⟩
          have q1 := K1.out wc hBr
          have hCc := HC3.out.next hBr
          have HBx : Kp _ := ⟨hCc.box⟩
          clear hCc
          go_wp2_with fail
          refine (refshift_any A 16 c (roundsL ks bx inp r) BA bc bx wc HS.out HBx.out (by omega)).mono ?_
          rintro e wd ⟨vd, rfl, hownd, hbd⟩
          obtain ⟨A2, c2, rfl, hs2⟩ := Is.of_own hownd
          have HS2 : Kp _ := ⟨hs2⟩
          have hBd := below_next hBr hbd
          clear hs2 hownd hbd q1 HBx
          by_cases hr9 : (r : Int) + 1 < 10
          · have HE : Kp (roundsL ks bx inp (r + 1) = addL (mixL (shiftL (roundsL ks bx inp r) bx 16) 16) (ks.getD (r + 1) []) 16) := ⟨by show roundL _ _ _ _ = _; unfold roundL; rw [if_pos (by omega)]⟩
            go_wp2_with fail
            refine (refmix_any A2 16 c2 _ wd HS2.out (by omega)).mono ?_
            rintro e we ⟨ve, rfl, howne, hbe⟩
            obtain ⟨A3, c3, rfl, hs3⟩ := Is.of_own howne
            have HS3 : Kp _ := ⟨hs3⟩
            have hBe := below_next hBd hbe
            clear hs3 howne hbe HS2 hBd
            have q0 := K0.out we hBe
            obtain ⟨kb', ko', eKA, hkb, hkk⟩ := (HC3.out.next hBe).key
            cases eKA
            obtain ⟨Ak, ck, qk, hik⟩ := hkk (r + 1) (by omega)
            have HIk : Kp _ := ⟨hik⟩
            clear hik hkk
            obtain ⟨s, hs⟩ : ∃ s, s = r + 1 := ⟨_, rfl⟩
            have hidx : (r : Int) + 1 = (s : Int) := by omega
            have hs11 : (s : Int) < 11 := by omega
            rw [← hs] at qk HIk
            have HSs : Kp _ := ⟨hs⟩
            have e64 : Kp (wrap64 ((s : Int) + 1) = ((r + 1 : Nat) : Int) + 1) := ⟨by simp only [wrap64]; omega⟩
            clear hs
            go_wp2_with fail
            refine (refadd_any A3 16 c3 _ Ak 16 ck _ we HS3.out HIk.out (by omega) (by omega)).mono ?_
            rintro e wf ⟨vf, rfl, hownf, hbf⟩
            obtain ⟨A4, c4, rfl, hs4⟩ := Is.of_own hownf
            have HS4 : Kp (Is wf wf.heap.size A4 16 c4 (roundsL ks bx inp (r + 1))) := ⟨by rw [HE.out, ← HSs.out]; exact hs4⟩
            have hBf := below_next hBe hbf
            clear hs4 hownf hbf q0 qk HIk HS3 hBe hidx HE hs11
            go_wp2
            go_roundg g
            case rel => exact ⟨r + 1, A4, c4, by omega, by rw [← e64.out], rfl, HS4, hBf⟩
            case measure => omega
          · have HE : Kp (roundsL ks bx inp (r + 1) = addL (shiftL (roundsL ks bx inp r) bx 16) (ks.getD (r + 1) []) 16) := ⟨by show roundL _ _ _ _ = _; unfold roundL; rw [if_neg (by omega)]⟩
            have q0 := K0.out wd hBd
            obtain ⟨kb', ko', eKA, hkb, hkk⟩ := (HC3.out.next hBd).key
            cases eKA
            obtain ⟨Ak, ck, qk, hik⟩ := hkk (r + 1) (by omega)
            have HIk : Kp _ := ⟨hik⟩
            clear hik hkk
            obtain ⟨s, hs⟩ : ∃ s, s = r + 1 := ⟨_, rfl⟩
            have hidx : (r : Int) + 1 = (s : Int) := by omega
            have hs11 : (s : Int) < 11 := by omega
            rw [← hs] at qk HIk
            have HSs : Kp _ := ⟨hs⟩
            have e64 : Kp (wrap64 ((s : Int) + 1) = ((r + 1 : Nat) : Int) + 1) := ⟨by simp only [wrap64]; omega⟩
            clear hs
            go_wp2_with fail
            refine (refadd_any A2 16 c2 _ Ak 16 ck _ wd HS2.out HIk.out (by omega) (by omega)).mono ?_
            rintro e wf ⟨vf, rfl, hownf, hbf⟩
            obtain ⟨A4, c4, rfl, hs4⟩ := Is.of_own hownf
            have HS4 : Kp (Is wf wf.heap.size A4 16 c4 (roundsL ks bx inp (r + 1))) := ⟨by rw [HE.out, ← HSs.out]; exact hs4⟩
            have hBf := below_next hBd hbf
            clear hs4 hownf hbf q0 qk HIk HS2 hBd hidx HE hs11
            go_wp2
            go_roundg g
            case rel => exact ⟨r + 1, A4, c4, by omega, by rw [← e64.out], rfl, HS4, hBf⟩
            case measure => omega
end Go.Proofs.YtckmobpjdpjocaaDoor

namespace Go.Proofs.YtckmobpjdpjocaaDoor

theorem map_getD {β : Type} (f : Nat → β) (n i : Nat) (d : β) (h : i < n) : ((List.range n).map f).getD i d = f i := by
  simp [List.getD, List.getElem?_map, List.getElem?_range h]
/-- a row of words, the first k of which are done -/
def partW (f s : Nat → UInt32) (n k : Nat) : List UInt32 := (List.range n).map fun j => if j < k then f j else s j
section
variable (f s : Nat → UInt32) (n k : Nat)
theorem partW_length : (partW f s n k).length = n := by simp [partW]
theorem partW_set : (cells32 (partW f s n k)).set k (.int .u32 ((f k).toNat : Int)) = cells32 (partW f s n (k + 1)) := by
  have e : (partW f s n k).set k (f k) = partW f s n (k + 1) := by
    refine List.ext_getElem (by rw [List.length_set, partW_length, partW_length]) fun i h1 h2 => ?_
    rw [List.getElem_set]
    simp only [partW, List.getElem_map, List.getElem_range]
    by_cases hi : k = i
    · subst hi; simp
    · rw [if_neg hi]
      by_cases h3 : i < k
      · rw [if_pos h3, if_pos (by omega)]
      · rw [if_neg h3, if_neg (by omega)]
  rw [← e]
  unfold cells32
  rw [List.map_set]
theorem partW_at (h : k < n) : (cells32 (partW f s n k))[k]? = some (.int .u32 ((s k).toNat : Int)) := by
  simp [cells32, partW, List.getElem?_map, List.getElem?_range h]
theorem partW_done : partW f s n n = (List.range n).map f := by
  unfold partW
  refine List.map_congr_left fun j hj => ?_
  rw [if_pos (List.mem_range.1 hj)]
theorem partW_none : partW f s n 0 = (List.range n).map s := by
  unfold partW
  refine List.map_congr_left fun j _ => ?_
  rw [if_neg (by omega)]
end
theorem rangeW_at (f : Nat → UInt32) (n k : Nat) (h : k < n) : (cells32 ((List.range n).map f))[k]? = some (.int .u32 ((f k).toNat : Int)) := by
  simp [cells32, List.getElem?_map, List.getElem?_range h]

/-- a column -/
def wd (l : List UInt8) (j : Nat) : UInt32 := w4 (l.getD (4 * j) 0) (l.getD (4 * j + 1) 0) (l.getD (4 * j + 2) 0) (l.getD (4 * j + 3) 0)
/-- a state -/
def wordsL (l : List UInt8) : List UInt32 := (List.range 4).map (wd l)
theorem wordsL_length (l : List UInt8) : (wordsL l).length = 4 := by simp [wordsL]
theorem wordsL_at (l : List UInt8) (j : Nat) (h : j < 4) : (cells32 (wordsL l))[j]? = some (.int .u32 ((wd l j).toNat : Int)) := rangeW_at _ _ _ h
theorem wordsL_of (f : Nat → UInt32) (l : List UInt8) (h : ∀ j, j < 4 → f j = wd l j) : (List.range 4).map f = wordsL l :=
  List.map_congr_left fun j hj => h j (List.mem_range.1 hj)

theorem add_wd (l m : List UInt8) (j : Nat) (h : j < 4) : wd l j ^^^ wd m j = wd (addL l m 16) j := by
  have e : ∀ i, i < 16 → (addL l m 16).getD i 0 = l.getD i 0 ^^^ m.getD i 0 := fun i hi => map_getD _ _ _ _ hi
  unfold wd
  rw [w4_xor, e _ (by omega), e _ (by omega), e _ (by omega), e _ (by omega)]

/-- a word, each byte gone through the box -/
def subN (bx : List UInt8) (x : UInt32) : UInt32 := w4 (bx.getD (by4 x 0).toNat 0) (bx.getD (by4 x 1).toNat 0) (bx.getD (by4 x 2).toNat 0) (bx.getD (by4 x 3).toNat 0)
theorem by4_w4 (a b c d : UInt8) : by4 (w4 a b c d) 0 = a ∧ by4 (w4 a b c d) 1 = b ∧ by4 (w4 a b c d) 2 = c ∧ by4 (w4 a b c d) 3 = d := by
  have ha := a.toNat_lt; have hb := b.toNat_lt; have hc := c.toNat_lt; have hd := d.toNat_lt
  refine ⟨?_, ?_, ?_, ?_⟩ <;>
  · apply UInt8.toNat_inj.1
    simp only [by4, UInt8.toNat_ofNat', w4_nat]
    omega
theorem sub_w4 (bx : List UInt8) (a b c d : UInt8) : subN bx (w4 a b c d) = w4 (bx.getD a.toNat 0) (bx.getD b.toNat 0) (bx.getD c.toNat 0) (bx.getD d.toNat 0) := by
  unfold subN
  rw [(by4_w4 a b c d).1, (by4_w4 a b c d).2.1, (by4_w4 a b c d).2.2.1, (by4_w4 a b c d).2.2.2]
/-- of four words a byte each -/
def selW (p q r s : UInt32) : UInt32 := (p &&& 4278190080) ||| (q &&& 16711680) ||| (r &&& 65280) ||| (s &&& 255)
theorem sel_w4 (a b c d a1 b1 c1 d1 a2 b2 c2 d2 a3 b3 c3 d3 : UInt8) : selW (w4 a b c d) (w4 a1 b1 c1 d1) (w4 a2 b2 c2 d2) (w4 a3 b3 c3 d3) = w4 a b1 c2 d3 := by
  have e0 : (4278190080 : UInt32) = w4 255 0 0 0 := by decide
  have e1 : (16711680 : UInt32) = w4 0 255 0 0 := by decide
  have e2 : (65280 : UInt32) = w4 0 0 255 0 := by decide
  have e3 : (255 : UInt32) = w4 0 0 0 255 := by decide
  have f1 : ∀ x : UInt8, x &&& 255 = x := fun x => by
    apply UInt8.toNat_inj.1
    rw [UInt8.toNat_and]
    have h := Nat.and_two_pow_sub_one_eq_mod x.toNat 8
    have := x.toNat_lt
    rw [show (255 : UInt8).toNat = 2 ^ 8 - 1 from rfl, h]; omega
  unfold selW
  rw [e0, e1, e2, e3, w4_and, w4_and, w4_and, w4_and, w4_or, w4_or, w4_or]
  simp [f1]
theorem shift_wd (l bx : List UInt8) (j : Nat) (h : j < 4) : subN bx (selW (wd l j) (wd l ((j + 1) % 4)) (wd l ((j + 2) % 4)) (wd l ((j + 3) % 4))) = wd (shiftL l bx 16) j := by
  have e : ∀ i, i < 16 → (shiftL l bx 16).getD i 0 = bx.getD (l.getD (shiftIx i) 0).toNat 0 := fun i hi => map_getD _ _ _ _ hi
  unfold wd
  rw [sel_w4, sub_w4, e _ (by omega), e _ (by omega), e _ (by omega), e _ (by omega)]
  have i0 : shiftIx (4 * j) = 4 * j := by unfold shiftIx; omega
  have i1 : shiftIx (4 * j + 1) = 4 * ((j + 1) % 4) + 1 := by unfold shiftIx; omega
  have i2 : shiftIx (4 * j + 2) = 4 * ((j + 2) % 4) + 2 := by unfold shiftIx; omega
  have i3 : shiftIx (4 * j + 3) = 4 * ((j + 3) % 4) + 3 := by unfold shiftIx; omega
  rw [i0, i1, i2, i3]
/-- a column, mixed -/
def mixW (x : UInt32) : Nat := dblN (x.toNat ^^^ rotN x.toNat 8) ^^^ rotN x.toNat 8 ^^^ rotN x.toNat 16 ^^^ rotN x.toNat 24
theorem mix_w4 (a b c d : UInt8) : mixW (w4 a b c d) = (w4 (xt (a ^^^ b) ^^^ b ^^^ c ^^^ d) (xt (b ^^^ c) ^^^ c ^^^ d ^^^ a) (xt (c ^^^ d) ^^^ d ^^^ a ^^^ b) (xt (d ^^^ a) ^^^ a ^^^ b ^^^ c)).toNat := by
  unfold mixW
  rw [rot8, rot16, rot24, ← UInt32.toNat_xor, w4_xor, dbl_w4, ← UInt32.toNat_xor, ← UInt32.toNat_xor, ← UInt32.toNat_xor, w4_xor, w4_xor, w4_xor]
theorem mix_wd (l : List UInt8) (j : Nat) (h : j < 4) : mixW (wd l j) = (wd (mixL l 16) j).toNat := by
  have e : ∀ i, i < 16 → (mixL l 16).getD i 0 = mixAcc l i 4 := fun i hi => map_getD _ _ _ _ hi
  unfold wd
  rw [mix_w4, e _ (by omega), e _ (by omega), e _ (by omega), e _ (by omega)]
  simp only [mixAcc]
  have q0 : 4 * j / 4 = j := by omega
  have q1 : (4 * j + 1) / 4 = j := by omega
  have q2 : (4 * j + 2) / 4 = j := by omega
  have q3 : (4 * j + 3) / 4 = j := by omega
  have r0 : 4 * j % 4 = 0 := by omega
  have r1 : (4 * j + 1) % 4 = 1 := by omega
  have r2 : (4 * j + 2) % 4 = 2 := by omega
  have r3 : (4 * j + 3) % 4 = 3 := by omega
  rw [q0, q1, q2, q3, r0, r1, r2, r3]
  simp only [mM, Nat.reduceAdd, Nat.reduceSub, Nat.reduceMod, mulU_one, mulU_two, mulU_three, Nat.add_zero, xt_xor]
  generalize l.getD (4 * j) 0 = a
  generalize l.getD (4 * j + 1) 0 = b
  generalize l.getD (4 * j + 2) 0 = c
  generalize l.getD (4 * j + 3) 0 = d
  congr 2 <;> ac_rfl
/-- a column, of which so many bytes are there -/
def colA (b : List UInt8) (j : Nat) : Nat → UInt32
  | 0 => 0
  | c + 1 => UInt32.ofNat ((colA b j c).toNat * 256 % 4294967296 ||| (b.getD (4 * j + c) 0).toNat)
theorem or_low (x : Nat) (y : UInt8) : (x * 256 % 4294967296 ||| y.toNat) = x * 256 % 4294967296 + y.toNat := by
  have h1 : x * 256 % 4294967296 = (x % 16777216) <<< 8 := by rw [Nat.shiftLeft_eq]; omega
  rw [h1, ← Nat.shiftLeft_add_eq_or_of_lt (by simpa using y.toNat_lt)]
theorem colA_nat (b : List UInt8) (j c : Nat) : (colA b j (c + 1)).toNat = (colA b j c).toNat * 256 % 4294967296 + (b.getD (4 * j + c) 0).toNat := by
  have h : (colA b j c).toNat * 256 % 4294967296 + (b.getD (4 * j + c) 0).toNat < 4294967296 := by
    have := (b.getD (4 * j + c) 0).toNat_lt; omega
  show (UInt32.ofNat _).toNat = _
  rw [or_low, UInt32.toNat_ofNat_of_lt' h]
theorem colA_four (b : List UInt8) (j : Nat) : colA b j 4 = wd b j := by
  unfold wd
  apply w4_eq
  have z : (colA b j 0).toNat = 0 := rfl
  have h0 := (b.getD (4 * j + 0) 0).toNat_lt
  have h1 := (b.getD (4 * j + 1) 0).toNat_lt
  have h2 := (b.getD (4 * j + 2) 0).toNat_lt
  have h3 := (b.getD (4 * j + 3) 0).toNat_lt
  rw [colA_nat, colA_nat, colA_nat, colA_nat, z]
  rw [Nat.add_zero] at *
  omega
/-- the columns of the first i bytes -/
def colS (b : List UInt8) (i : Nat) : List UInt32 := (List.range 4).map fun j => colA b j (min 4 (i - 4 * j))
theorem colS_at (b : List UInt8) (i : Nat) (h : i < 16) : (cells32 (colS b i))[i / 4]? = some (.int .u32 ((colA b (i / 4) (i % 4)).toNat : Int)) := by
  unfold colS
  rw [rangeW_at _ _ _ (by omega), show min 4 (i - 4 * (i / 4)) = i % 4 by omega]
theorem colS_set (b : List UInt8) (i : Nat) : (cells32 (colS b i)).set (i / 4) (.int .u32 ((colA b (i / 4) (i % 4 + 1)).toNat : Int)) = cells32 (colS b (i + 1)) := by
  have e : (colS b i).set (i / 4) (colA b (i / 4) (i % 4 + 1)) = colS b (i + 1) := by
    refine List.ext_getElem (by simp [colS]) fun t h1 h2 => ?_
    have ht : t < 4 := by simpa [colS] using h2
    rw [List.getElem_set]
    simp only [colS, List.getElem_map, List.getElem_range]
    by_cases hi : i / 4 = t
    · subst hi; rw [if_pos rfl, show min 4 (i + 1 - 4 * (i / 4)) = i % 4 + 1 by omega]
    · rw [if_neg hi, show min 4 (i + 1 - 4 * t) = min 4 (i - 4 * t) by omega]
  rw [← e]
  unfold cells32
  rw [List.map_set]
theorem colS_none (b : List UInt8) : cells32 (colS b 0) = List.replicate 4 (.int .u32 0) := by simp [colS, colA, cells32]; rfl
theorem colS_done (b : List UInt8) : colS b 16 = wordsL b := by
  unfold colS
  refine wordsL_of _ _ fun j hj => ?_
  rw [show min 4 (16 - 4 * j) = 4 by omega, colA_four]
theorem by4_wd (l : List UInt8) (i : Nat) : by4 (wd l (i / 4)) (i % 4) = l.getD i 0 := by
  unfold wd
  have h := by4_w4 (l.getD (4 * (i / 4)) 0) (l.getD (4 * (i / 4) + 1) 0) (l.getD (4 * (i / 4) + 2) 0) (l.getD (4 * (i / 4) + 3) 0)
  rcases (by omega : i % 4 = 0 ∨ i % 4 = 1 ∨ i % 4 = 2 ∨ i % 4 = 3) with e | e | e | e <;> rw [e]
  · rw [h.1]; congr 1; omega
  · rw [h.2.1]; congr 1; omega
  · rw [h.2.2.1]; congr 1; omega
  · rw [h.2.2.2]; congr 1; omega
theorem range_getD (l : List UInt8) (n : Nat) (h : l.length = n) : ((List.range n).map fun i => l.getD i 0) = l := by
  refine List.ext_getElem (by simp [h]) fun i h1 h2 => ?_
  simp [List.getD, List.getElem?_eq_getElem h2]
end Go.Proofs.YtckmobpjdpjocaaDoor

namespace Go.Proofs.YtckmobpjdpjocaaDoor
open Go.RowKit

theorem double_val (a : UInt8) : bits .xor .u8 ((a.toNat : Int) * 2 % 256) ((a.toNat : Int) / 2 ^ 7 * 27 % 256) = ((xt a).toNat : Int) := by
  have h : ∀ n : Nat, n < 256 → bits .xor .u8 ((n : Int) * 2 % 256) ((n : Int) / 2 ^ 7 * 27 % 256) = ((xt (UInt8.ofNat n)).toNat : Int) := by decide +kernel
  have := h a.toNat a.toNat_lt
  rwa [u8_val] at this
set_option maxHeartbeats 400000 in
theorem double_any (a : UInt8) (w : World) : Calls Tryd.prog 46 #[.int .u8 a.toNat] w fun e w' => e = .returned (.int .u8 (xt a).toNat) ∧ w' = w := by
  have HV : Kp _ := ⟨double_val a⟩
  go_enter Tryd.func46, Tryd.ntmps46
  go_wp2
  go_ret
  refine ⟨?_, rfl⟩
  show Ending.returned (.int .u8 _) = _
  rw [← HV.out]; rfl
set_option maxRecDepth 100000 in
set_option maxHeartbeats 400000 in
theorem len32_255 (w : World) : Calls Tryd.prog 62 #[.int .u32 255] w fun e w' => e = .returned (.int .i64 8) ∧ w' = w := by
  go_enter Tryd.func62, Tryd.ntmps62
  go_wp2
  go_ret
  refine ⟨?_, rfl⟩
  exact ret_eq (by kernel_rfl)
set_option maxRecDepth 100000 in
set_option maxHeartbeats 400000 in
theorem len32_max (w : World) : Calls Tryd.prog 62 #[.int .u32 4294967295] w fun e w' => e = .returned (.int .i64 32) ∧ w' = w := by
  go_enter Tryd.func62, Tryd.ntmps62
  go_wp2
  go_ret
  refine ⟨?_, rfl⟩
  exact ret_eq (by kernel_rfl)
theorem turn32_val (x n m : Nat) (h : m = 32 - n) : bits .or .u32 (IntKind.u32.wrap ((x : Int) * 2 ^ n)) ((x : Int) / 2 ^ m) = ((rotN x n : Nat) : Int) ∨ 4294967296 ≤ x := by
  by_cases hx : x < 4294967296
  · left
    have e1 : IntKind.u32.wrap ((x : Int) * 2 ^ n) = ((x * 2 ^ n % 4294967296 : Nat) : Int) := by rw [IntKind.wrap_u32]; simp
    have e2 : (x : Int) / 2 ^ m = ((x / 2 ^ m : Nat) : Int) := by simp
    rw [e1, e2, u32_or_nat _ _ (Nat.mod_lt _ (by decide)) (Nat.lt_of_le_of_lt (Nat.div_le_self _ _) hx), h]
    rfl
  · right; omega
theorem turn8_val (x n m : Nat) (h : m = 8 - n) (hx : x < 256) : bits .or .u8 (IntKind.u8.wrap ((x : Int) * 2 ^ n)) ((x : Int) / 2 ^ m) = ((x * 2 ^ n % 256 ||| x / 2 ^ (8 - n) : Nat) : Int) := by
  have e1 : IntKind.u8.wrap ((x : Int) * 2 ^ n) = ((x * 2 ^ n % 256 : Nat) : Int) := by rw [IntKind.wrap_u8]; simp
  have e2 : (x : Int) / 2 ^ m = ((x / 2 ^ m : Nat) : Int) := by simp
  rw [e1, e2, u8_or_nat _ _ (Nat.mod_lt _ (by decide)) (Nat.lt_of_le_of_lt (Nat.div_le_self _ _) hx), h]
set_option maxRecDepth 100000 in
set_option maxHeartbeats 400000 in
theorem turn32_any (x : UInt32) (n : Nat) (w : World) (h1 : 1 ≤ n) (h2 : n ≤ 31) :
    Calls Tryd.prog 49 #[.int .u32 x.toNat, .int .i64 (n : Int)] w fun e w' => e = .returned (.int .u32 (rotN x.toNat n : Nat)) ∧ ∃ q, w' = w.drewN q := by
  have hx := x.toNat_lt
  obtain ⟨m, hm⟩ : ∃ m : Nat, m = 32 - n := ⟨_, rfl⟩
  have hw : IntKind.i64.wrap (32 - (n : Int)) = (m : Int) := by rw [IntKind.wrap_i64]; omega
  have HV : Kp _ := ⟨(turn32_val x.toNat n m hm).resolve_right (by omega)⟩
  have hm2 : m ≤ 31 := by omega
  clear hm
  go_enter Tryd.func49, Tryd.ntmps49
  go_wp2_with fail
  refine wp_region_still_lit (by kernel_rfl) (by kernel_rfl) ?_
  repeat (first | still_step | still_call (len32_max _))
  try refine wpStill_nil ?_
  change Exit.then _ _ _ _ w.drew
  go_wp2
  go_ret
  refine ⟨?_, 1, rfl⟩
  show Ending.returned (.int .u32 _) = _
  rw [← HV.out]
set_option maxRecDepth 100000 in
set_option maxHeartbeats 400000 in
theorem turn8_any (x : UInt8) (n : Nat) (w : World) (h1 : 1 ≤ n) (h2 : n ≤ 7) :
    Calls Tryd.prog 61 #[.int .u8 x.toNat, .int .i64 (n : Int)] w fun e w' => e = .returned (.int .u8 ((x.toNat * 2 ^ n % 256 ||| x.toNat / 2 ^ (8 - n) : Nat) : Int)) ∧ ∃ q, w' = w.drewN q := by
  have hx := x.toNat_lt
  obtain ⟨m, hm⟩ : ∃ m : Nat, m = 8 - n := ⟨_, rfl⟩
  have hw : IntKind.i64.wrap (8 - (n : Int)) = (m : Int) := by rw [IntKind.wrap_i64]; omega
  have HV : Kp _ := ⟨turn8_val x.toNat n m hm hx⟩
  have hm2 : m ≤ 7 := by omega
  clear hm
  go_enter Tryd.func61, Tryd.ntmps61
  go_wp2_with fail
  refine wp_region_still_lit (by kernel_rfl) (by kernel_rfl) ?_
  repeat (first | still_step | still_call (len32_255 _))
  try refine wpStill_nil ?_
  change Exit.then _ _ _ _ w.drew
  go_wp2
  go_ret
  refine ⟨?_, 1, rfl⟩
  show Ending.returned (.int .u8 _) = _
  rw [← HV.out]
theorem row_val (x : UInt32) (r m : Nat) (h : m = 24 - 8 * r) : (x.toNat : Int) / 2 ^ m % 256 = ((by4 x r).toNat : Int) := by
  unfold by4
  rw [UInt8.toNat_ofNat', h]
  simp
set_option maxHeartbeats 400000 in
theorem row_any (x : UInt32) (r : Nat) (w : World) (h : r ≤ 3) : Calls Tryd.prog 53 #[.int .u32 x.toNat, .int .i64 (r : Int)] w fun e w' => e = .returned (.int .u8 (by4 x r).toNat) ∧ w' = w := by
  obtain ⟨m, hm⟩ : ∃ m : Nat, m = 24 - 8 * r := ⟨_, rfl⟩
  have HV : Kp ((x.toNat : Int) / 2 ^ (8 * (3 - r)) % 256 = ((by4 x r).toNat : Int)) := ⟨row_val x r _ (by omega)⟩
  have hw : wrap64 (8 * (3 - (r : Int))) = (m : Int) := by simp only [wrap64]; omega
  have hw2 : wrap64 (8 * wrap64 (3 - (r : Int))) = (m : Int) := by simp only [wrap64]; omega
  have hm2 : m ≤ 24 := by omega
  clear hm
  go_enter Tryd.func53, Tryd.ntmps53
  go_wp2
  go_ret
  refine ⟨?_, rfl⟩
  show Ending.returned (.int .u8 _) = _
  rw [← HV.out]
theorem dblAll_val (x : UInt32) : bits .xor .u32 (bits .and .u32 (x.toNat : Int) 2139062143 * 2 % 4294967296) (bits .and .u32 ((x.toNat : Int) / 128) 16843009 * 27 % 4294967296) = ((dblN x.toNat : Nat) : Int) := by
  have hx : x.toNat < 4294967296 := x.toNat_lt
  have e1 : (x.toNat : Int) / 128 = ((x.toNat / 2 ^ 7 : Nat) : Int) := by omega
  have e2 := u32_and_nat x.toNat 2139062143 hx (by decide)
  have e3 := u32_and_nat (x.toNat / 2 ^ 7) 16843009 (by omega) (by decide)
  rw [e1]
  rw [show ((2139062143 : Nat) : Int) = 2139062143 from rfl] at e2
  rw [show ((16843009 : Nat) : Int) = 16843009 from rfl] at e3
  rw [e2, e3]
  have e4 : ((x.toNat &&& 2139062143 : Nat) : Int) * 2 % 4294967296 = (((x.toNat &&& 2139062143) * 2 % 4294967296 : Nat) : Int) := by omega
  have e5 : ((x.toNat / 2 ^ 7 &&& 16843009 : Nat) : Int) * 27 % 4294967296 = (((x.toNat / 2 ^ 7 &&& 16843009) * 27 % 4294967296 : Nat) : Int) := by omega
  rw [e4, e5, u32_xor_nat _ _ (Nat.mod_lt _ (by decide)) (Nat.mod_lt _ (by decide))]
  rfl
set_option maxHeartbeats 400000 in
theorem dblAll_any (x : UInt32) (w : World) : Calls Tryd.prog 63 #[.int .u32 x.toNat] w fun e w' => e = .returned (.int .u32 (dblN x.toNat : Nat)) ∧ w' = w := by
  have HV : Kp _ := ⟨dblAll_val x⟩
  go_enter Tryd.func63, Tryd.ntmps63
  go_wp2
  go_ret
  refine ⟨?_, rfl⟩
  show Ending.returned (.int .u32 _) = _
  rw [← HV.out]
end Go.Proofs.YtckmobpjdpjocaaDoor

namespace Go.Proofs.YtckmobpjdpjocaaDoor
open Go.RowKit

def powIt (a : UInt8) : Nat → UInt8
  | 0 => a
  | k + 1 => mulU (mulU (powIt a k) (powIt a k)) a
def invU (a : UInt8) : UInt8 := mulU (powIt a 6) (powIt a 6)
def invT (k : Nat) : List UInt8 := (List.range 256).map fun a => if 0 < a ∧ a < k then invU (UInt8.ofNat a) else 0
theorem invT_length (k : Nat) : (invT k).length = 256 := by simp [invT]
theorem invT_zero : cellsI (invT 1) = List.replicate 256 (.int .i64 0) := by
  have e : invT 1 = List.replicate 256 0 := by
    rw [List.eq_replicate_iff]
    refine ⟨invT_length 1, fun b hb => ?_⟩
    obtain ⟨i, _, rfl⟩ := List.mem_map.1 hb
    rw [if_neg (by omega)]
  rw [e]; unfold cellsI; rw [List.map_replicate]; rfl
theorem invT_set (k : Nat) (h0 : 0 < k) (h : k < 256) : (cellsI (invT k)).set k (.int .i64 ((invU (UInt8.ofNat k)).toNat : Int)) = cellsI (invT (k + 1)) := by
  have e : (invT k).set k (invU (UInt8.ofNat k)) = invT (k + 1) := by
    refine List.ext_getElem (by rw [List.length_set, invT_length, invT_length]) fun i h1 h2 => ?_
    rw [List.getElem_set]
    simp only [invT, List.getElem_map, List.getElem_range]
    by_cases hik : k = i
    · subst hik; rw [if_pos rfl, if_pos (by omega)]
    · rw [if_neg hik]
      by_cases hi : 0 < i ∧ i < k
      · rw [if_pos hi, if_pos (by omega)]
      · rw [if_neg hi, if_neg (by omega)]
  rw [← e]; unfold cellsI; rw [List.map_set]

def jN : Nat → Nat
  | 0 => 0
  | k + 1 => k + 4
def bitAcc (v i : Nat) : Nat → Nat
  | 0 => 99 / 2 ^ i % 2
  | k + 1 => bitAcc v i k + v / 2 ^ ((i + jN k) % 8) % 2
def accN (v : Nat) : Nat → Nat
  | 0 => 0
  | i + 1 => accN v i + bitAcc v i 5 % 2 * 2 ^ i
theorem shr_mod (x e : Nat) : ((x : Int) / 2 ^ e).tmod 2 = ((x / 2 ^ e % 2 : Nat) : Int) := by
  have h : (2 : Int) ^ e = ((2 ^ e : Nat) : Int) := by simp
  rw [h]
  have h2 : (x : Int) / ((2 ^ e : Nat) : Int) = ((x / 2 ^ e : Nat) : Int) := rfl
  rw [h2, Int.tmod_eq_emod_of_nonneg (Int.natCast_nonneg _)]
  rfl
theorem accN_lt (v i : Nat) : accN v i < 2 ^ i := by
  induction i with
  | zero => simp [accN]
  | succ i ih =>
    have h : bitAcc v i 5 % 2 * 2 ^ i ≤ 1 * 2 ^ i := Nat.mul_le_mul_right _ (by omega)
    rw [accN, Nat.pow_succ]; omega
theorem bitAcc_le (v i k : Nat) : bitAcc v i k ≤ k + 1 := by
  induction k with
  | zero => simp only [bitAcc]; omega
  | succ k ih => simp only [bitAcc]; omega
theorem acc_next (q bit i : Nat) (hq : q < 2 ^ i) (hi : i ≤ 7) : wrap64 ((q : Int) + wrap64 ((bit : Int) % 2 * 2 ^ i)) = ((q + bit % 2 * 2 ^ i : Nat) : Int) := by
  have hpi : (bit : Int) % 2 * 2 ^ i = ((bit % 2 * 2 ^ i : Nat) : Int) := by
    rw [show (2 : Int) ^ i = ((2 ^ i : Nat) : Int) by simp]
    rfl
  have hpw : 2 ^ i ≤ 128 := Nat.pow_le_pow_right (n := 2) (by decide) hi
  have hpl : bit % 2 * 2 ^ i ≤ 1 * 2 ^ i := Nat.mul_le_mul_right _ (by omega)
  rw [hpi]
  generalize bit % 2 * 2 ^ i = P at *
  generalize 2 ^ i = T at *
  simp only [wrap64]
  omega
/-- the box -/
def boxU (v : UInt8) : UInt8 := UInt8.ofNat (accN v.toNat 8)
def boxT (j : Nat) : List UInt8 := (List.range j).map fun a => boxU ((invT 256).getD a 0)
theorem boxT_succ (j : Nat) : boxT (j + 1) = boxT j ++ [boxU ((invT 256).getD j 0)] := by simp only [boxT, List.range_succ, List.map_append]; rfl

set_option maxRecDepth 100000 in
set_option maxHeartbeats 4000000 in
theorem refbox_any (w : World) :
    Calls Tryd.prog 29 #[] w fun e w' => ∃ v, e = .returned v ∧ w'.ownsRow (w.heap.size + 1) 3 1 v 256 (cellsI (boxT 256)) ∧ Below w.heap.size w w' := by
  go_enter Tryd.func29, Tryd.ntmps29
  go_wp2_with (with_reducible refine wpList_mk (o := ⟨some 12, _, _, _, _, _⟩) elI rfl _ _ rfl w.heap.size _ _ _ _ 256 rfl rfl (by omega) (by omega) (by omega) (by simp only [maxLen]; omega) (Nat.le_refl _) ?_)
  intro w1 hown hg1
  have hb1 : Below w.heap.size w w1 := (Below.refl _ _).grown hg1 (Nat.le_refl _) (by simp)
  have H1 : Hid (w1.ownsRow w.heap.size 3 1 (.slice (some ⟨w.heap.size, 0, none⟩) 256 256) 256 (cellsI (invT 1))) := by rw [invT_zero]; exact hown
  clear hg1 hown
  go_wp2
  go_loopg [2] 255 (fun gk va wr => ∃ a : Nat, a + gk = 256 ∧ 0 < a ∧ va = .int .i64 a ∧ Hid (wr.ownsRow w.heap.size 3 1 (.slice (some ⟨w.heap.size, 0, none⟩) 256 256) 256 (cellsI (invT a))) ∧ Below w.heap.size w wr)
  case atStart => exact ⟨1, by omega, by omega, rfl, H1, hb1⟩
  case round =>
    clear H1 hb1
    obtain ⟨a, hag, ha0, rfl, H, hB⟩ := hrel
    cases gk with
    | zero =>
      obtain rfl : a = 256 := by omega
      obtain ⟨w2, rfl⟩ : ∃ x, x = wr := ⟨wr, rfl⟩
      have hs2 : w.heap.size + 1 ≤ w2.heap.size := by
        have h := (own_full H.out).1
        have := (Array.getElem?_eq_some_iff.1 h).1
        omega
      have QI : Kp (∀ a, a < 256 → ∀ W, Below (w.heap.size + 1) w2 W → W.cell? ⟨w.heap.size, a, none⟩ = some (.int .i64 ((((invT 256).getD a 0).toNat : Nat) : Int))) := ⟨fun a ha W hW => by
        rw [hW.cell (p := ⟨w.heap.size, a, none⟩) (show w.heap.size < w.heap.size + 1 by omega), H.out.cellAt a (by omega), cellsI_at _ a (by rw [invT_length]; exact ha)]
        simp only [List.getD, List.getElem?_eq_getElem (show a < (invT 256).length by rw [invT_length]; exact ha), Option.getD_some]⟩
      clear H
      go_wp2
      go_loopg [5, 6] 256 (fun gk v va wr => ∃ a : Nat, a + gk = 256 ∧ va = .int .i64 a ∧ Hid (wr.ownsRow (w.heap.size + 1) 3 1 v a (cellsI (boxT a))) ∧ Below (w.heap.size + 1) w2 wr)
      case atStart => exact ⟨0, by omega, rfl, own_nil _ _ _, Below.refl _ _⟩
      case round =>
        obtain ⟨a, hag, rfl, H, hB2⟩ := hrel
        cases gk with
        | zero =>
          obtain rfl : a = 256 := by omega
          go_wp2
          go_ret
          exact ⟨_, rfl, H.out, hB.trans (hB2.mono (by omega))⟩
        | succ g =>
          have hlt : (a : Int) < 256 := by omega
          have HQ : Kp _ := ⟨QI.out a (by omega)⟩
          have HBs : Kp _ := ⟨boxT_succ a⟩
          generalize (invT 256).getD a 0 = v at *
          obtain ⟨wm, rfl⟩ : ∃ x, x = wr := ⟨wr, rfl⟩
          have hv8 := v.toNat_lt
          go_wp2
          go_loopg [7, 8] 8 (fun g2 vn vi wx => ∃ i : Nat, i + g2 = 8 ∧ vi = .int .i64 i ∧ vn = .int .i64 (accN v.toNat i : Nat) ∧ Below wm.heap.size wm wx)
          case atStart => exact ⟨0, by omega, rfl, rfl, Below.refl _ _⟩
          case round =>
            obtain ⟨i, hi, rfl, rfl, hbx⟩ := hrel
            cases gk with
            | zero =>
              obtain rfl : i = 8 := by omega
              have hacc := accN_lt v.toNat 8
              have HV : Kp (accN v.toNat 8 = (boxU v).toNat) := ⟨by unfold boxU; rw [ofNat_toNat]; omega⟩
              have HO : Kp _ := ⟨own_below H.out hbx⟩
              have hB3 : Below (w.heap.size + 1) w2 wr := hB2.trans (hbx.mono (by have := hB2.size; omega))
              have hle : w.heap.size + 1 ≤ wr.heap.size := by have := hB3.size; omega
              rw [HV.out]
              generalize boxU v = z at *
              go_wp2_with (at_builtin; refine wpList_app1 elI rfl _ _ rfl (w.heap.size + 1) _ a _ rfl HO.out rfl rfl (by simp only [maxLen]; omega) (by omega) hle ?_)
              intro v' w' H' hb' _ _
              have H2 : Hid (w'.ownsRow (w.heap.size + 1) 3 1 v' (a + 1) (cellsI (boxT (a + 1)))) := by
                show World.ownsRow _ _ _ _ _ _ _
                rw [HBs.out, cellsI_append]
                exact H'.out
              clear H H' HO HBs HV
              go_wp2
              go_roundg g
              case rel => exact ⟨a + 1, by omega, by go_num, H2, hB3.trans hb'⟩
              case measure => omega
            | succ g3 =>
              have hi8 : (i : Int) < 8 := by omega
              obtain ⟨wn, rfl⟩ : ∃ x, x = wr := ⟨wr, rfl⟩
              have hb0 : ((99 : Int) / 2 ^ i).tmod 2 = ((bitAcc v.toNat i 0 : Nat) : Int) := shr_mod 99 i
              go_wp2
              clear hb0
              go_loopg [9, 10] 5 (fun g4 vb vk wx => ∃ (k bit : Nat), k + g4 = 5 ∧ vk = .int .i64 k ∧ vb = .int .i64 (bit : Int) ∧ Kp (bit = bitAcc v.toNat i k) ∧ bit ≤ 6 ∧ Below wm.heap.size wm wx)
              case atStart => exact ⟨0, bitAcc v.toNat i 0, by omega, rfl, rfl, ⟨rfl⟩, by have := bitAcc_le v.toNat i 0; omega, hbx⟩
              case round =>
                obtain ⟨k, bit, hk, rfl, rfl, HBit, hbit6, hby⟩ := hrel
                cases gk with
                | zero =>
                  obtain rfl : k = 5 := by omega
                  have HAcc : Kp (accN v.toNat (i + 1) = accN v.toNat i + bit % 2 * 2 ^ i) := ⟨by show accN v.toNat i + bitAcc v.toNat i 5 % 2 * 2 ^ i = _; rw [← HBit.out]⟩
                  have hal := accN_lt v.toNat i
                  have HVal : Kp (wrap64 (((accN v.toNat i : Nat) : Int) + wrap64 ((bit : Int) % 2 * 2 ^ i)) = ((accN v.toNat (i + 1) : Nat) : Int)) := ⟨by rw [HAcc.out]; exact acc_next _ bit i hal (by omega)⟩
                  clear hal HAcc HBit hbit6
                  go_wp2
                  go_roundg g3
                  case rel => exact ⟨i + 1, by omega, by go_num, by rw [HVal.out], hby⟩
                  case measure => omega
                | succ g5 =>
                  have hk5 : (k : Int) < 5 := by omega
                  have hcj : (wr.alloc (.cells #[.int .i64 0, .int .i64 4, .int .i64 5, .int .i64 6, .int .i64 7] 3)).cell? ⟨wr.heap.size, k, none⟩ = some (.int .i64 ((jN k : Nat) : Int)) := by
                    rw [World.cell?_alloc_at _ _ _ _ rfl]
                    rcases (by omega : k = 0 ∨ k = 1 ∨ k = 2 ∨ k = 3 ∨ k = 4) with rfl | rfl | rfl | rfl | rfl <;> rfl
                  have hby2 : Below wm.heap.size wm (wr.alloc (.cells #[.int .i64 0, .int .i64 4, .int .i64 5, .int .i64 6, .int .i64 7] 3)) := hby.alloc hby.size _
                  have hcv := HQ.out _ (hB2.trans (hby2.mono (by have := hB2.size; omega)))
                  have HN : Kp (bitAcc v.toNat i (k + 1) = bit + v.toNat / 2 ^ ((i + jN k) % 8) % 2) := ⟨by show bitAcc v.toNat i k + _ = _; rw [← HBit.out]⟩
                  have hj7 : jN k ≤ 7 := by rcases (by omega : k = 0 ∨ k = 1 ∨ k = 2 ∨ k = 3 ∨ k = 4) with rfl | rfl | rfl | rfl | rfl <;> decide
                  generalize jN k = J at *
                  obtain ⟨e, he⟩ : ∃ e, e = (i + J) % 8 := ⟨_, rfl⟩
                  have hei : ((i : Int) + (J : Int)) % 8 = (e : Int) := by omega
                  have hsm := shr_mod v.toNat e
                  rw [← he] at HN
                  obtain ⟨m, hm⟩ : ∃ m, m = v.toNat / 2 ^ e % 2 := ⟨_, rfl⟩
                  rw [← hm] at HN hsm
                  have hm1 : m ≤ 1 := by omega
                  clear he hm
                  go_wp2
                  go_roundg g5
                  case rel => exact ⟨k + 1, bit + m, by omega, by go_num, by go_num, ⟨HN.out.symm⟩, by have := bitAcc_le v.toNat i (k + 1); have := HN.out; omega, hby2⟩
                  case measure => omega
    | succ g =>
      have hlt : (a : Int) < 256 := by omega
      have e8 : (UInt8.ofNat a).toNat = a := by rw [ofNat_toNat]; omega
      have ea : (a : Int) = ((UInt8.ofNat a).toNat : Int) := by rw [e8]
      have HP0 : Kp (powIt (UInt8.ofNat a) 0 = UInt8.ofNat a) := ⟨rfl⟩
      have HInv : Kp (invU (UInt8.ofNat a) = mulU (powIt (UInt8.ofNat a) 6) (powIt (UInt8.ofNat a) 6)) := ⟨rfl⟩
      have HEa : Kp _ := ⟨ea⟩
      clear e8 ea
      obtain ⟨wm, rfl⟩ : ∃ x, x = wr := ⟨wr, rfl⟩
      go_wp2
      go_loopg [3, 4] 6 (fun g2 vb vi wx => ∃ (i : Nat) (b : UInt8), i + g2 = 6 ∧ vi = .int .i64 i ∧ vb = .int .i64 b.toNat ∧ Kp (b = powIt (UInt8.ofNat a) i) ∧ wx = wm)
      case atStart => exact ⟨0, UInt8.ofNat a, by omega, rfl, by rw [← HEa.out], ⟨rfl⟩, rfl⟩
      case round =>
        obtain ⟨i, b, hi, rfl, rfl, HPb, rfl⟩ := hrel
        cases gk with
        | zero =>
          obtain rfl : i = 6 := by omega
          have hc : wr.cell? ⟨w.heap.size, a, none⟩ = some (.int .i64 (((invT a)[a]'(by rw [invT_length]; omega)).toNat : Int)) := by rw [H.out.cellAt a (by omega), cellsI_at _ a (by rw [invT_length]; omega)]
          generalize (invT a)[a]'_ = old at hc
          have hf := H.out.frozenAt a
          have HSt : Kp _ := ⟨invT_set a ha0 (by omega)⟩
          rw [HInv.out, ← HPb.out] at HSt
          go_wp2_with fail
          refine (refmul_st b b _).mono ?_
          rintro e wy ⟨rfl, rfl⟩
          generalize mulU b b = z at *
          have hst := (H.out.stored a (.int .i64 (z.toNat : Int))).1
          rw [HSt.out] at hst
          have HSt2 : Hid _ := hst
          clear hst HSt HPb HInv HP0
          go_wp2
          go_roundg g
          case rel => exact ⟨a + 1, by omega, by omega, by go_num, HSt2, hB.setCell (Nat.le_refl _) _⟩
          case measure => omega
        | succ g3 =>
          have hi6 : (i : Int) < 6 := by omega
          have HN : Kp (powIt (UInt8.ofNat a) (i + 1) = mulU (mulU b b) (UInt8.ofNat a)) := ⟨by show mulU (mulU _ _) _ = _; rw [← HPb.out]⟩
          go_wp2_with fail
          refine (refmul_st b b _).mono ?_
          rintro e wy ⟨rfl, rfl⟩
          generalize mulU b b = z at *
          go_wp2_with fail
          rw [HEa.out]
          refine (refmul_st z (UInt8.ofNat a) _).mono ?_
          rintro e wy ⟨rfl, rfl⟩
          rw [← HN.out, ← HEa.out]
          go_wp2
          go_roundg g3
          case rel => exact ⟨i + 1, _, by omega, by go_num, rfl, ⟨rfl⟩, rfl⟩
          case measure => omega
end Go.Proofs.YtckmobpjdpjocaaDoor
