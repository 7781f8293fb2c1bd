/- The contract of sacristanref04's shift. -/
import Derived.Test.YtleplilcpcgacaaR4Add
import Derived.Deep.LoopGhost
import Derived.WalkMore
namespace Go.Proofs.Ytleplilcpcgacaa
open Go.RowKit

/-- where a byte of the turned rows comes from -/
def shiftIx (p : Nat) : Nat := 4 * ((p / 4 + p % 4) % 4) + p % 4
def shiftL (l bx : List UInt8) (j : Nat) : List UInt8 := (List.range j).map fun p => bx.getD (l.getD (shiftIx p) 0).toNat 0
theorem shiftL_succ (l bx : List UInt8) (j : Nat) : shiftL l bx (j + 1) = shiftL l bx j ++ [bx.getD (l.getD (shiftIx j) 0).toNat 0] := by simp [shiftL, List.range_succ]
theorem shiftL_length (l bx : List UInt8) (j : Nat) : (shiftL l bx j).length = j := by simp [shiftL]

set_option maxRecDepth 100000 in
set_option maxHeartbeats 4000000 in
theorem refshift_any (A : Option Addr) (n c : Nat) (l : List UInt8) (B : Option Addr) (d : Nat) (bx : List UInt8) (w : World) (ha : Is w w.heap.size A n c l) (hb : Is w w.heap.size B 256 d bx) (hn : 16 ≤ n) :
    Calls Try.prog 35 #[.slice A n c, .slice B 256 d] w fun e w' => ∃ v, e = .returned v ∧ w'.ownsRow w.heap.size 3 1 v 16 (cellsI (shiftL l bx 16)) ∧ Below w.heap.size w w' := by
  have hnc := ha.cap
  have hcm := ha.max
  simp only [maxLen] at hcm
  have HA : Kp _ := ⟨ha⟩
  have HB : Kp _ := ⟨hb⟩
  have HLl : Kp (l.length = n) := ⟨ha.len⟩
  have HLb : Kp (bx.length = 256) := ⟨hb.len⟩
  clear ha hb
  go_enter Try.func35, Try.ntmps35
  go_wp2
  go_loopg [5, 6] 4 (fun gk v i wr => ∃ j : Nat, j + gk = 4 ∧ i = .int .i64 j ∧ Hid (wr.ownsRow w.heap.size 3 1 v (4 * j) (cellsI (shiftL l bx (4 * j)))) ∧ Below w.heap.size w wr)
  case atStart => exact ⟨0, by omega, rfl, own_nil _ _ _, Below.refl _ _⟩
  case round =>
    obtain ⟨j, hj, rfl, H, hB⟩ := hrel
    cases gk with
    | zero =>
      obtain rfl : j = 4 := by omega
      go_wp2
      go_ret
      exact ⟨_, rfl, H.out, hB⟩
    | succ g2 =>
      have hlt : (j : Int) < 4 := by omega
      go_wp2
      go_loopg [5, 7] 4 (fun g3 v i wx => ∃ k : Nat, k + g3 = 4 ∧ i = .int .i64 k ∧ Hid (wx.ownsRow w.heap.size 3 1 v (4 * j + k) (cellsI (shiftL l bx (4 * j + k)))) ∧ Below w.heap.size w wx)
      case atStart => exact ⟨0, by omega, rfl, H, hB⟩
      case round =>
        clear H hB
        obtain ⟨k, hk, rfl, H, hB⟩ := hrel
        cases gk with
        | zero =>
          obtain rfl : k = 4 := by omega
          obtain ⟨Ak, ck, rfl, _⟩ := own_form H.out
          have H2 : Hid (wr.ownsRow w.heap.size 3 1 (.slice Ak (4 * j + 4) ck) (4 * (j + 1)) (cellsI (shiftL l bx (4 * (j + 1))))) := H
          go_wp2
          go_roundg g2
          case rel => exact ⟨j + 1, by omega, by go_num, H2, hB⟩
          case measure => omega
        | succ g4 =>
          have hlt2 : (k : Int) < 4 := by omega
          have hsz := hB.size
          obtain ⟨i, hi⟩ : ∃ i, i = shiftIx (4 * j + k) := ⟨_, rfl⟩
          have hi2 : i = 4 * ((j + k) % 4) + k := by rw [hi]; unfold shiftIx; omega
          have hix : 4 * (((j : Int) + (k : Int)) % 4) + (k : Int) = (i : Int) := by omega
          have hi16 : i < n := by omega
          obtain ⟨b1, o1, rfl, hb1, hc1⟩ := (HA.out.below hB).cell (i := i) hi16
          have HS : Kp (shiftL l bx (4 * j + (k + 1)) = shiftL l bx (4 * j + k) ++ [bx.getD (l.getD i 0).toNat 0]) := ⟨by rw [hi]; exact shiftL_succ l bx (4 * j + k)⟩
          have e1 : l.getD i 0 = l[i]'(by rw [HLl.out]; omega) := by simp [List.getD, List.getElem?_eq_getElem (show i < l.length by rw [HLl.out]; omega)]
          rw [← e1] at hc1
          clear e1 hi hi2
          generalize l.getD i 0 = x at *
          have hx8 := x.toNat_lt
          obtain ⟨b2, o2, rfl, hb2, hc2⟩ := (HB.out.below hB).cell (i := x.toNat) (by omega)
          have e2 : bx.getD x.toNat 0 = bx[x.toNat]'(by rw [HLb.out]; omega) := by simp [List.getD, List.getElem?_eq_getElem (show x.toNat < bx.length by rw [HLb.out]; omega)]
          rw [← e2] at hc2
          clear e2
          generalize bx.getD x.toNat 0 = y at *
          have hin : (i : Int) < (n : Int) := by omega
          have hx256 : (x.toNat : Int) < 256 := by omega
          go_wp2_with (at_builtin; refine wpList_app1 elI rfl _ _ rfl w.heap.size _ (4 * j + k) _ rfl H.out rfl rfl (by simp only [maxLen]; omega) (by omega) hsz ?_)
          intro v' w' H' hb' _ _
          have H2 : Hid (w'.ownsRow w.heap.size 3 1 v' (4 * j + (k + 1)) (cellsI (shiftL l bx (4 * j + (k + 1))))) := by
            show World.ownsRow _ _ _ _ _ _ _
            rw [HS.out, cellsI_append]
            exact H'.out
          clear H H' HS
          go_wp2
          go_roundg g4
          case rel => exact ⟨k + 1, by omega, by go_num, H2, hB.trans hb'⟩
          case measure => omega
end Go.Proofs.Ytleplilcpcgacaa
