/- The contract of sacristanref04's Box. -/
import Derived.Test.YtleplilcpcgacaaR4Add
import Derived.Test.YtleplilcpcgacaaR4Mul
import Derived.Test.YtleplilcpcgacaaPure
import Derived.Deep.LoopGhost
import Derived.WalkMore
namespace Go.Proofs.Ytleplilcpcgacaa
open Go.RowKit

def powIt (a : UInt8) : Nat → UInt8
  | 0 => a
  | k + 1 => mulU (mulU (powIt a k) (powIt a k)) a
def invU (a : UInt8) : UInt8 := mulU (powIt a 6) (powIt a 6)
def invT (k : Nat) : List UInt8 := (List.range 256).map fun a => if 0 < a ∧ a < k then invU (UInt8.ofNat a) else 0
theorem invT_length (k : Nat) : (invT k).length = 256 := by simp [invT]
theorem invT_zero : cellsI (invT 1) = List.replicate 256 (.int .i64 0) := by
  have e : invT 1 = List.replicate 256 0 := by
    rw [List.eq_replicate_iff]
    refine ⟨invT_length 1, fun b hb => ?_⟩
    obtain ⟨i, _, rfl⟩ := List.mem_map.1 hb
    rw [if_neg (by omega)]
  rw [e]; unfold cellsI; rw [List.map_replicate]; rfl
theorem invT_set (k : Nat) (h0 : 0 < k) (h : k < 256) : (cellsI (invT k)).set k (.int .i64 ((invU (UInt8.ofNat k)).toNat : Int)) = cellsI (invT (k + 1)) := by
  have e : (invT k).set k (invU (UInt8.ofNat k)) = invT (k + 1) := by
    refine List.ext_getElem (by rw [List.length_set, invT_length, invT_length]) fun i h1 h2 => ?_
    rw [List.getElem_set]
    simp only [invT, List.getElem_map, List.getElem_range]
    by_cases hik : k = i
    · subst hik; rw [if_pos rfl, if_pos (by omega)]
    · rw [if_neg hik]
      by_cases hi : 0 < i ∧ i < k
      · rw [if_pos hi, if_pos (by omega)]
      · rw [if_neg hi, if_neg (by omega)]
  rw [← e]; unfold cellsI; rw [List.map_set]

def jN : Nat → Nat
  | 0 => 0
  | k + 1 => k + 4
def bitAcc (v i : Nat) : Nat → Nat
  | 0 => 99 / 2 ^ i % 2
  | k + 1 => bitAcc v i k + v / 2 ^ ((i + jN k) % 8) % 2
def accN (v : Nat) : Nat → Nat
  | 0 => 0
  | i + 1 => accN v i + bitAcc v i 5 % 2 * 2 ^ i
theorem shr_mod (x e : Nat) : ((x : Int) / 2 ^ e).tmod 2 = ((x / 2 ^ e % 2 : Nat) : Int) := by
  have h : (2 : Int) ^ e = ((2 ^ e : Nat) : Int) := by simp
  rw [h]
  have h2 : (x : Int) / ((2 ^ e : Nat) : Int) = ((x / 2 ^ e : Nat) : Int) := rfl
  rw [h2, Int.tmod_eq_emod_of_nonneg (Int.natCast_nonneg _)]
  rfl
theorem accN_lt (v i : Nat) : accN v i < 2 ^ i := by
  induction i with
  | zero => simp [accN]
  | succ i ih =>
    have h : bitAcc v i 5 % 2 * 2 ^ i ≤ 1 * 2 ^ i := Nat.mul_le_mul_right _ (by omega)
    rw [accN, Nat.pow_succ]; omega
theorem bitAcc_le (v i k : Nat) : bitAcc v i k ≤ k + 1 := by
  induction k with
  | zero => simp only [bitAcc]; omega
  | succ k ih => simp only [bitAcc]; omega
theorem acc_next (q bit i : Nat) (hq : q < 2 ^ i) (hi : i ≤ 7) : wrap64 ((q : Int) + wrap64 ((bit : Int) % 2 * 2 ^ i)) = ((q + bit % 2 * 2 ^ i : Nat) : Int) := by
  have hpi : (bit : Int) % 2 * 2 ^ i = ((bit % 2 * 2 ^ i : Nat) : Int) := by
    rw [show (2 : Int) ^ i = ((2 ^ i : Nat) : Int) by simp]
    rfl
  have hpw : 2 ^ i ≤ 128 := Nat.pow_le_pow_right (n := 2) (by decide) hi
  have hpl : bit % 2 * 2 ^ i ≤ 1 * 2 ^ i := Nat.mul_le_mul_right _ (by omega)
  rw [hpi]
  generalize bit % 2 * 2 ^ i = P at *
  generalize 2 ^ i = T at *
  simp only [wrap64]
  omega
/-- the box -/
def boxU (v : UInt8) : UInt8 := UInt8.ofNat (accN v.toNat 8)
def boxT (j : Nat) : List UInt8 := (List.range j).map fun a => boxU ((invT 256).getD a 0)
theorem boxT_succ (j : Nat) : boxT (j + 1) = boxT j ++ [boxU ((invT 256).getD j 0)] := by simp only [boxT, List.range_succ, List.map_append]; rfl

set_option maxRecDepth 100000 in
set_option maxHeartbeats 4000000 in
theorem refbox_any (w : World) :
    Calls Try.prog 15 #[] w fun e w' => ∃ v, e = .returned v ∧ w'.ownsRow (w.heap.size + 1) 3 1 v 256 (cellsI (boxT 256)) ∧ Below w.heap.size w w' := by
  go_enter Try.func15, Try.ntmps15
  go_wp2_with (with_reducible refine wpList_mk (o := ⟨some 12, _, _, _, _, _⟩) elI rfl _ _ rfl w.heap.size _ _ _ _ 256 rfl rfl (by omega) (by omega) (by omega) (by simp only [maxLen]; omega) (Nat.le_refl _) ?_)
  intro w1 hown hg1
  have hb1 : Below w.heap.size w w1 := (Below.refl _ _).grown hg1 (Nat.le_refl _) (by simp)
  have H1 : Hid (w1.ownsRow w.heap.size 3 1 (.slice (some ⟨w.heap.size, 0, none⟩) 256 256) 256 (cellsI (invT 1))) := by rw [invT_zero]; exact hown
  clear hg1 hown
  go_wp2
  go_loopg [2] 255 (fun gk va wr => ∃ a : Nat, a + gk = 256 ∧ 0 < a ∧ va = .int .i64 a ∧ Hid (wr.ownsRow w.heap.size 3 1 (.slice (some ⟨w.heap.size, 0, none⟩) 256 256) 256 (cellsI (invT a))) ∧ Below w.heap.size w wr)
  case atStart => exact ⟨1, by omega, by omega, rfl, H1, hb1⟩
  case round =>
    clear H1 hb1
    obtain ⟨a, hag, ha0, rfl, H, hB⟩ := hrel
    cases gk with
    | zero =>
      obtain rfl : a = 256 := by omega
      obtain ⟨w2, rfl⟩ : ∃ x, x = wr := ⟨wr, rfl⟩
      have hs2 : w.heap.size + 1 ≤ w2.heap.size := by
        have h := (own_full H.out).1
        have := (Array.getElem?_eq_some_iff.1 h).1
        omega
      have QI : Kp (∀ a, a < 256 → ∀ W, Below (w.heap.size + 1) w2 W → W.cell? ⟨w.heap.size, a, none⟩ = some (.int .i64 ((((invT 256).getD a 0).toNat : Nat) : Int))) := ⟨fun a ha W hW => by
        rw [hW.cell (p := ⟨w.heap.size, a, none⟩) (show w.heap.size < w.heap.size + 1 by omega), H.out.cellAt a (by omega), cellsI_at _ a (by rw [invT_length]; exact ha)]
        simp only [List.getD, List.getElem?_eq_getElem (show a < (invT 256).length by rw [invT_length]; exact ha), Option.getD_some]⟩
      clear H
      go_wp2
      go_loopg [5, 6] 256 (fun gk v va wr => ∃ a : Nat, a + gk = 256 ∧ va = .int .i64 a ∧ Hid (wr.ownsRow (w.heap.size + 1) 3 1 v a (cellsI (boxT a))) ∧ Below (w.heap.size + 1) w2 wr)
      case atStart => exact ⟨0, by omega, rfl, own_nil _ _ _, Below.refl _ _⟩
      case round =>
        obtain ⟨a, hag, rfl, H, hB2⟩ := hrel
        cases gk with
        | zero =>
          obtain rfl : a = 256 := by omega
          go_wp2
          go_ret
          exact ⟨_, rfl, H.out, hB.trans (hB2.mono (by omega))⟩
        | succ g =>
          have hlt : (a : Int) < 256 := by omega
          have HQ : Kp _ := ⟨QI.out a (by omega)⟩
          have HBs : Kp _ := ⟨boxT_succ a⟩
          generalize (invT 256).getD a 0 = v at *
          obtain ⟨wm, rfl⟩ : ∃ x, x = wr := ⟨wr, rfl⟩
          have hv8 := v.toNat_lt
          go_wp2
          go_loopg [7, 8] 8 (fun g2 vn vi wx => ∃ i : Nat, i + g2 = 8 ∧ vi = .int .i64 i ∧ vn = .int .i64 (accN v.toNat i : Nat) ∧ Below wm.heap.size wm wx)
          case atStart => exact ⟨0, by omega, rfl, rfl, Below.refl _ _⟩
          case round =>
            obtain ⟨i, hi, rfl, rfl, hbx⟩ := hrel
            cases gk with
            | zero =>
              obtain rfl : i = 8 := by omega
              have hacc := accN_lt v.toNat 8
              have HV : Kp (accN v.toNat 8 = (boxU v).toNat) := ⟨by unfold boxU; rw [ofNat_toNat]; omega⟩
              have HO : Kp _ := ⟨own_below H.out hbx⟩
              have hB3 : Below (w.heap.size + 1) w2 wr := hB2.trans (hbx.mono (by have := hB2.size; omega))
              have hle : w.heap.size + 1 ≤ wr.heap.size := by have := hB3.size; omega
              rw [HV.out]
              generalize boxU v = z at *
              go_wp2_with (at_builtin; refine wpList_app1 elI rfl _ _ rfl (w.heap.size + 1) _ a _ rfl HO.out rfl rfl (by simp only [maxLen]; omega) (by omega) hle ?_)
              intro v' w' H' hb' _ _
              have H2 : Hid (w'.ownsRow (w.heap.size + 1) 3 1 v' (a + 1) (cellsI (boxT (a + 1)))) := by
                show World.ownsRow _ _ _ _ _ _ _
                rw [HBs.out, cellsI_append]
                exact H'.out
              clear H H' HO HBs HV
              go_wp2
              go_roundg g
              case rel => exact ⟨a + 1, by omega, by go_num, H2, hB3.trans hb'⟩
              case measure => omega
            | succ g3 =>
              have hi8 : (i : Int) < 8 := by omega
              obtain ⟨wn, rfl⟩ : ∃ x, x = wr := ⟨wr, rfl⟩
              have hb0 : ((99 : Int) / 2 ^ i).tmod 2 = ((bitAcc v.toNat i 0 : Nat) : Int) := shr_mod 99 i
              go_wp2
              clear hb0
              go_loopg [9, 10] 5 (fun g4 vb vk wx => ∃ (k bit : Nat), k + g4 = 5 ∧ vk = .int .i64 k ∧ vb = .int .i64 (bit : Int) ∧ Kp (bit = bitAcc v.toNat i k) ∧ bit ≤ 6 ∧ Below wm.heap.size wm wx)
              case atStart => exact ⟨0, bitAcc v.toNat i 0, by omega, rfl, rfl, ⟨rfl⟩, by have := bitAcc_le v.toNat i 0; omega, hbx⟩
              case round =>
                obtain ⟨k, bit, hk, rfl, rfl, HBit, hbit6, hby⟩ := hrel
                cases gk with
                | zero =>
                  obtain rfl : k = 5 := by omega
                  have HAcc : Kp (accN v.toNat (i + 1) = accN v.toNat i + bit % 2 * 2 ^ i) := ⟨by show accN v.toNat i + bitAcc v.toNat i 5 % 2 * 2 ^ i = _; rw [← HBit.out]⟩
                  have hal := accN_lt v.toNat i
                  have HVal : Kp (wrap64 (((accN v.toNat i : Nat) : Int) + wrap64 ((bit : Int) % 2 * 2 ^ i)) = ((accN v.toNat (i + 1) : Nat) : Int)) := ⟨by rw [HAcc.out]; exact acc_next _ bit i hal (by omega)⟩
                  clear hal HAcc HBit hbit6
                  go_wp2
                  go_roundg g3
                  case rel => exact ⟨i + 1, by omega, by go_num, by rw [HVal.out], hby⟩
                  case measure => omega
                | succ g5 =>
                  have hk5 : (k : Int) < 5 := by omega
                  have hcj : (wr.alloc (.cells #[.int .i64 0, .int .i64 4, .int .i64 5, .int .i64 6, .int .i64 7] 3)).cell? ⟨wr.heap.size, k, none⟩ = some (.int .i64 ((jN k : Nat) : Int)) := by
                    rw [World.cell?_alloc_at _ _ _ _ rfl]
                    rcases (by omega : k = 0 ∨ k = 1 ∨ k = 2 ∨ k = 3 ∨ k = 4) with rfl | rfl | rfl | rfl | rfl <;> rfl
                  have hby2 : Below wm.heap.size wm (wr.alloc (.cells #[.int .i64 0, .int .i64 4, .int .i64 5, .int .i64 6, .int .i64 7] 3)) := hby.alloc hby.size _
                  have hcv := HQ.out _ (hB2.trans (hby2.mono (by have := hB2.size; omega)))
                  have HN : Kp (bitAcc v.toNat i (k + 1) = bit + v.toNat / 2 ^ ((i + jN k) % 8) % 2) := ⟨by show bitAcc v.toNat i k + _ = _; rw [← HBit.out]⟩
                  have hj7 : jN k ≤ 7 := by rcases (by omega : k = 0 ∨ k = 1 ∨ k = 2 ∨ k = 3 ∨ k = 4) with rfl | rfl | rfl | rfl | rfl <;> decide
                  generalize jN k = J at *
                  obtain ⟨e, he⟩ : ∃ e, e = (i + J) % 8 := ⟨_, rfl⟩
                  have hei : ((i : Int) + (J : Int)) % 8 = (e : Int) := by omega
                  have hsm := shr_mod v.toNat e
                  rw [← he] at HN
                  obtain ⟨m, hm⟩ : ∃ m, m = v.toNat / 2 ^ e % 2 := ⟨_, rfl⟩
                  rw [← hm] at HN hsm
                  have hm1 : m ≤ 1 := by omega
                  clear he hm
                  go_wp2
                  go_roundg g5
                  case rel => exact ⟨k + 1, bit + m, by omega, by go_num, by go_num, ⟨HN.out.symm⟩, by have := bitAcc_le v.toNat i (k + 1); have := HN.out; omega, hby2⟩
                  case measure => omega
    | succ g =>
      have hlt : (a : Int) < 256 := by omega
      have e8 : (UInt8.ofNat a).toNat = a := by rw [ofNat_toNat]; omega
      have ea : (a : Int) = ((UInt8.ofNat a).toNat : Int) := by rw [e8]
      have HP0 : Kp (powIt (UInt8.ofNat a) 0 = UInt8.ofNat a) := ⟨rfl⟩
      have HInv : Kp (invU (UInt8.ofNat a) = mulU (powIt (UInt8.ofNat a) 6) (powIt (UInt8.ofNat a) 6)) := ⟨rfl⟩
      have HEa : Kp _ := ⟨ea⟩
      clear e8 ea
      obtain ⟨wm, rfl⟩ : ∃ x, x = wr := ⟨wr, rfl⟩
      go_wp2
      go_loopg [3, 4] 6 (fun g2 vb vi wx => ∃ (i : Nat) (b : UInt8), i + g2 = 6 ∧ vi = .int .i64 i ∧ vb = .int .i64 b.toNat ∧ Kp (b = powIt (UInt8.ofNat a) i) ∧ wx = wm)
      case atStart => exact ⟨0, UInt8.ofNat a, by omega, rfl, by rw [← HEa.out], ⟨rfl⟩, rfl⟩
      case round =>
        obtain ⟨i, b, hi, rfl, rfl, HPb, rfl⟩ := hrel
        cases gk with
        | zero =>
          obtain rfl : i = 6 := by omega
          have hc : wr.cell? ⟨w.heap.size, a, none⟩ = some (.int .i64 (((invT a)[a]'(by rw [invT_length]; omega)).toNat : Int)) := by rw [H.out.cellAt a (by omega), cellsI_at _ a (by rw [invT_length]; omega)]
          generalize (invT a)[a]'_ = old at hc
          have hf := H.out.frozenAt a
          have HSt : Kp _ := ⟨invT_set a ha0 (by omega)⟩
          rw [HInv.out, ← HPb.out] at HSt
          go_wp2_with fail
          refine (refmul_st b b _).mono ?_
          rintro e wy ⟨rfl, rfl⟩
          generalize mulU b b = z at *
          have hst := (H.out.stored a (.int .i64 (z.toNat : Int))).1
          rw [HSt.out] at hst
          have HSt2 : Hid _ := hst
          clear hst HSt HPb HInv HP0
          go_wp2
          go_roundg g
          case rel => exact ⟨a + 1, by omega, by omega, by go_num, HSt2, hB.setCell (Nat.le_refl _) _⟩
          case measure => omega
        | succ g3 =>
          have hi6 : (i : Int) < 6 := by omega
          have HN : Kp (powIt (UInt8.ofNat a) (i + 1) = mulU (mulU b b) (UInt8.ofNat a)) := ⟨by show mulU (mulU _ _) _ = _; rw [← HPb.out]⟩
          go_wp2_with fail
          refine (refmul_st b b _).mono ?_
          rintro e wy ⟨rfl, rfl⟩
          generalize mulU b b = z at *
          go_wp2_with fail
          rw [HEa.out]
          refine (refmul_st z (UInt8.ofNat a) _).mono ?_
          rintro e wy ⟨rfl, rfl⟩
          rw [← HN.out, ← HEa.out]
          go_wp2
          go_roundg g3
          case rel => exact ⟨i + 1, _, by omega, by go_num, rfl, ⟨rfl⟩, rfl⟩
          case measure => omega
end Go.Proofs.Ytleplilcpcgacaa
