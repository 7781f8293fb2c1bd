/- The contracts of world's power: take, armed. -/
import Derived.Test.YtalnbomnmmefgaaWd
namespace Go.Proofs.Ytalnbomnmmefgaa
open Go.RowKit

def takeOk (t : Wd) : Bool := !t.lim || decide (0 < t.left)
def takeW (t : Wd) : Wd := if t.lim = true then (if t.left = 0 then { t with lost := true } else { t with left := t.left - 1 }) else t

set_option maxHeartbeats 400000 in
theorem take_any (b : Nat) (ad : Ad) (t : Wd) (w : World) (hb : Blk w b 75 (wdCells ad t)) (hp : t.left ≤ 1000000) :
    Calls Try.prog 42 #[.pointer (some ⟨b, 4, none⟩)] w fun e w' => e = .returned (.bool (takeOk t)) ∧ Blk w' b 75 (wdCells ad (takeW t)) ∧ Only b w w' := by
  have c4 : w.cell? ⟨b, 4, none⟩ = some (.bool t.lim) := by rw [hb.cell? 4]; rfl
  have c5 : w.cell? ⟨b, 5, none⟩ = some (.bool t.lost) := by rw [hb.cell? 5]; rfl
  have c6 : w.cell? ⟨b, 6, none⟩ = some (.int .i64 (t.left : Int)) := by rw [hb.cell? 6]; rfl
  have f5 := hb.frozen 5
  have f6 := hb.frozen 6
  have HB : Kp _ := ⟨hb⟩
  have HP : Kp _ := ⟨hp⟩
  clear hb hp
  by_cases hl : t.lim = true
  · rw [hl] at c4
    by_cases h0 : t.left = 0
    · have hi : ((t.left : Int) == 0) = true := by rw [beq_iff_eq]; omega
      have HL : Kp _ := ⟨hl⟩
      have H0 : Kp _ := ⟨h0⟩
      clear hl h0
      go_enter Try.func42, Try.ntmps42
      go_wp2
      go_ret
      have e : takeW t = { t with lost := true } := by unfold takeW; rw [if_pos HL.out, if_pos H0.out]
      refine ⟨by unfold takeOk; rw [HL.out, H0.out]; rfl, ?_, Only.setCell w ⟨b, 5, none⟩ _⟩
      rw [e]
      exact HB.out.set 5 (.bool true)
    · have hi : ((t.left : Int) == 0) = false := by rw [beq_eq_false_iff_ne]; omega
      obtain ⟨m, hm⟩ : ∃ m, t.left = m + 1 := ⟨t.left - 1, by omega⟩
      have hw2 : wrap64 ((t.left : Int) - 1) = (m : Int) := by rw [show (t.left : Int) - 1 = (m : Int) by omega]; have := HP.out; unfold wrap64; omega
      have HL : Kp _ := ⟨hl⟩
      have H0 : Kp _ := ⟨hm⟩
      clear hl h0 hm
      go_enter Try.func42, Try.ntmps42
      go_wp2
      go_ret
      have e : takeW t = { t with left := m } := by unfold takeW; rw [if_pos HL.out, if_neg (by have := H0.out; omega), H0.out]; rfl
      refine ⟨by unfold takeOk; rw [HL.out, H0.out]; rfl, ?_, Only.setCell w ⟨b, 6, none⟩ _⟩
      rw [e]
      exact HB.out.set 6 (.int .i64 (m : Int))
  · have hl' : t.lim = false := by simpa using hl
    rw [hl'] at c4
    have HL : Kp _ := ⟨hl'⟩
    clear hl hl'
    go_enter Try.func42, Try.ntmps42
    go_wp2
    go_ret
    have e : takeW t = t := by unfold takeW; rw [if_neg (by rw [HL.out]; decide)]
    rw [e]
    exact ⟨by unfold takeOk; rw [HL.out]; rfl, HB.out, Only.refl _ _⟩
end Go.Proofs.Ytalnbomnmmefgaa
