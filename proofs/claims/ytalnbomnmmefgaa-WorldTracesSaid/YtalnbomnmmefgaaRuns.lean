/- The contracts of world's runs, slot, hasSeal. -/
import Derived.Test.YtalnbomnmmefgaaPow
namespace Go.Proofs.Ytalnbomnmmefgaa
open Go.RowKit

set_option maxHeartbeats 400000 in
theorem runs_any (b : Nat) (ad : Ad) (t : Wd) (w : World) (hb : Blk w b 75 (wdCells ad t)) :
    Calls Try.prog 40 #[.pointer (some ⟨b, 0, none⟩)] w fun e w' => e = .returned (.bool (!t.lost)) ∧ w' = w := by
  have c5 : w.cell? ⟨b, 5, none⟩ = some (.bool t.lost) := by rw [hb.cell? 5]; rfl
  clear hb
  go_enter Try.func40, Try.ntmps40
  go_wp2
  go_ret
  exact ⟨rfl, rfl⟩
set_option maxHeartbeats 400000 in
theorem dead_any (b : Nat) (ad : Ad) (t : Wd) (w : World) (hb : Blk w b 75 (wdCells ad t)) :
    Calls Try.prog 17 #[.pointer (some ⟨b, 0, none⟩)] w fun e w' => e = .returned (.bool t.lost) ∧ w' = w := by
  have c5 : w.cell? ⟨b, 5, none⟩ = some (.bool t.lost) := by rw [hb.cell? 5]; rfl
  clear hb
  go_enter Try.func17, Try.ntmps17
  go_wp2
  go_ret
  exact ⟨rfl, rfl⟩
def slotV (t : Wd) (p : Int × Int → Option Nat) (x : Int × Int) : Value := if t.lost = true then .pointer none else ((p x).map ptr).getD (.pointer none)
set_option maxHeartbeats 400000 in
theorem slot_any {O M : Nat → Prop} {b : Nat} {ad : Ad} {t : Wd} {p : Int × Int → Option Nat} {L : List Hd4} {w : World} (h : Parts w O M b ad t p L) (x y : Int) (hx : okP (x, y)) :
    Calls Try.prog 33 #[.pointer (some ⟨b, 0, none⟩), .int .i64 x, .int .i64 y] w fun e w' => e = .returned (slotV t p (x, y)) ∧ w' = w := by
  have c0 : w.cell? ⟨b, 0, none⟩ = some (.map (some ad.ms)) := by rw [h.blk.cell? 0]; rfl
  have HB : Kp _ := ⟨h.blk⟩
  have HM : Kp _ := ⟨h.slots.map⟩
  have HX : Kp _ := ⟨hx⟩
  clear h hx
  by_cases hl : t.lost = true
  · go_enter Try.func33, Try.ntmps33
    go_wp2_with fail
    refine (runs_any b ad t w HB.out).mono ?_
    rintro e w1 ⟨rfl, rfl⟩
    go_wp2
    go_ret
    exact ⟨by unfold slotV; rw [if_pos hl]; rfl, rfl⟩
  · have hl' : t.lost = false := by simpa using hl
    go_enter Try.func33, Try.ntmps33
    go_wp2_with fail
    refine (runs_any b ad t w HB.out).mono ?_
    rintro e w1 ⟨rfl, rfl⟩
    go_wp2_with (with_reducible refine wpList_lookI (o := ⟨some 17, _, _, _, _, _⟩) HM.out keyP rfl (.tmp 13) (.tmp 16) rfl Try.underlying64 (z := .pointer none) (by kernel_rfl) rfl (x, y) HX.out rfl ?_)
    go_ret
    exact ⟨by unfold slotV; rw [if_neg hl]; rfl, rfl⟩
set_option maxHeartbeats 400000 in
theorem hasSeal_any (b : Nat) (ad : Ad) (t : Wd) (w : World) (hb : Blk w b 75 (wdCells ad t)) (i : Int) :
    Calls Try.prog 51 #[.pointer (some ⟨b, 0, none⟩), .int .i64 i] w fun e w' => e = .returned (.bool (!t.lost && (decide (0 ≤ i) && decide (i < 2)))) ∧ w' = w := by
  have HB : Kp _ := ⟨hb⟩
  clear hb
  cases hl : t.lost
  · rcases (by omega : i < 0 ∨ (0 ≤ i ∧ i < 2) ∨ 2 ≤ i) with h | ⟨h, h2⟩ | h
    all_goals
      go_enter Try.func51, Try.ntmps51
      go_wp2_with fail
      refine (runs_any b ad t w HB.out).mono ?_
      rintro e w1 ⟨rfl, rfl⟩
      go_wp2
      go_ret
      refine ⟨?_, rfl⟩
      simp
      try omega
  · go_enter Try.func51, Try.ntmps51
    go_wp2_with fail
    refine (runs_any b ad t w HB.out).mono ?_
    rintro e w1 ⟨rfl, rfl⟩
    go_wp2
    go_ret
    exact ⟨rfl, rfl⟩
end Go.Proofs.Ytalnbomnmmefgaa
