/- The contracts of World's Counter, Bump, Arm, Restart, Set, and of Blocks of none. -/
import Derived.Test.YtalnbomnmmefgaaTel
import Derived.Test.YtalnbomnmmefgaaRuns
import Derived.Test.YtalnbomnmmefgaaArm
namespace Go.Proofs.Ytalnbomnmmefgaa
open Go.RowKit
section
variable {O M : Nat → Prop} {b : Nat} {ad : Ad} {t : Wd} {p : Int × Int → Option Nat} {L : List Hd4} {w : World}

def ctrW (t : Wd) : Nat := if t.lost = true then 0 else t.ctr
set_option maxHeartbeats 400000 in
theorem counter_any (h : Parts w O M b ad t p L) :
    Calls Try.prog 19 #[.pointer (some ⟨b, 0, none⟩)] w fun e w' => e = .returned (.int .u64 (ctrW t : Int)) ∧ w' = w := by
  have c3 : w.cell? ⟨b, 3, none⟩ = some (.int .u64 (t.ctr : Int)) := by rw [h.blk.cell? 3]; rfl
  have HP : Kp _ := ⟨h⟩
  clear h
  cases hl : t.lost
  · have HT : Kp (ctrW t = t.ctr) := ⟨by unfold ctrW; rw [hl]; rfl⟩
    go_enter Try.func19, Try.ntmps19
    go_wp2_with fail
    refine (runs_any b ad t w HP.out.blk).mono ?_
    rintro e w1 ⟨rfl, rfl⟩
    rw [hl]
    go_wp2
    go_ret
    exact ⟨by rw [HT.out]; rfl, rfl⟩
  · have HT : Kp (ctrW t = 0) := ⟨by unfold ctrW; rw [hl]; rfl⟩
    go_enter Try.func19, Try.ntmps19
    go_wp2_with fail
    refine (runs_any b ad t w HP.out.blk).mono ?_
    rintro e w1 ⟨rfl, rfl⟩
    rw [hl]
    go_wp2
    go_ret
    exact ⟨by rw [HT.out]; rfl, rfl⟩

def setW (t : Wd) (n : Nat) : Wd := { t with ctr := n }
set_option maxHeartbeats 400000 in
theorem set_any (h : Parts w O M b ad t p L) (n : Nat) (hn : n < 18446744073709551616) :
    Calls Try.prog 31 #[.pointer (some ⟨b, 0, none⟩), .int .u64 (n : Int)] w fun e w' => e = .returned (.tuple #[]) ∧ Parts w' O M b ad (setW t n) p L ∧ Nx w O w' O := by
  have c3 : w.cell? ⟨b, 3, none⟩ = some (.int .u64 (t.ctr : Int)) := by rw [h.blk.cell? 3]; rfl
  have f3 := h.blk.frozen 3
  have HP : Kp _ := ⟨h⟩
  clear h
  go_enter Try.func31, Try.ntmps31
  go_wp2
  go_end0
  have HO := Only.setCell w ⟨b, 3, none⟩ (.int .u64 (n : Int))
  exact ⟨rfl, HP.out.own HO (HP.out.blk.set 3 _) rfl rfl rfl rfl rfl rfl rfl HP.out.pow hn HP.out.read, Nx.only HO HP.out.ob (fun k hk => HP.out.lt k (HP.out.sub k hk))⟩

def armW (t : Wd) (n : Int) : Wd := if t.lost = true then t else { t with lim := true, lost := false, left := armN n }
def restartW (t : Wd) : Wd := { t with lim := false, lost := false, left := 0 }
/-- behind a change of the three power cells -/
theorem power_parts (h : Parts w O M b ad t p L) (x y : Bool) (n : Nat) (hn : n ≤ 1000000) :
    Parts (((w.setCell ⟨b, 4, none⟩ (.bool x)).setCell ⟨b, 5, none⟩ (.bool y)).setCell ⟨b, 6, none⟩ (.int .i64 (n : Int))) O M b ad { t with lim := x, lost := y, left := n } p L ∧ Nx w O (((w.setCell ⟨b, 4, none⟩ (.bool x)).setCell ⟨b, 5, none⟩ (.bool y)).setCell ⟨b, 6, none⟩ (.int .i64 (n : Int))) O := by
  have HO := ((Only.setCell w ⟨b, 4, none⟩ (.bool x)).trans (Only.setCell _ ⟨b, 5, none⟩ (.bool y))).trans (Only.setCell _ ⟨b, 6, none⟩ (.int .i64 (n : Int)))
  exact ⟨h.own HO (((h.blk.set 4 _).set 5 _).set 6 _) rfl rfl rfl rfl rfl rfl rfl hn h.num h.read, Nx.only HO h.ob (fun k hk => h.lt k (h.sub k hk))⟩
set_option maxHeartbeats 400000 in
theorem restart_any (h : Parts w O M b ad t p L) :
    Calls Try.prog 20 #[.pointer (some ⟨b, 0, none⟩)] w fun e w' => e = .returned (.tuple #[]) ∧ Parts w' O M b ad (restartW t) p L ∧ Nx w O w' O := by
  have c4 : w.cell? ⟨b, 4, none⟩ = some (.bool t.lim) := by rw [h.blk.cell? 4]; rfl
  have c5 : w.cell? ⟨b, 5, none⟩ = some (.bool t.lost) := by rw [h.blk.cell? 5]; rfl
  have c6 : w.cell? ⟨b, 6, none⟩ = some (.int .i64 (t.left : Int)) := by rw [h.blk.cell? 6]; rfl
  have f4 := h.blk.frozen 4
  have f5 := h.blk.frozen 5
  have f6 := h.blk.frozen 6
  have HC : Kp _ := ⟨power_parts h false false 0 (by omega)⟩
  clear h
  go_enter Try.func20, Try.ntmps20
  go_wp2
  go_end0
  exact ⟨rfl, HC.out⟩
set_option maxHeartbeats 400000 in
theorem arm_any (h : Parts w O M b ad t p L) (n : Int) :
    Calls Try.prog 16 #[.pointer (some ⟨b, 0, none⟩), .int .i64 n] w fun e w' => e = .returned (.tuple #[]) ∧ Parts w' O M b ad (armW t n) p L ∧ Nx w O w' O := by
  have HP : Kp _ := ⟨h⟩
  clear h
  cases hl : t.lost
  · have HT : Kp (armW t n = { t with lim := true, lost := false, left := armN n }) := ⟨by unfold armW; rw [hl]; rfl⟩
    go_enter Try.func16, Try.ntmps16
    go_wp2_with fail
    refine (runs_any b ad t w HP.out.blk).mono ?_
    rintro e w1 ⟨rfl, rfl⟩
    rw [hl]
    go_wp2_with fail
    refine (armed_any n w1).mono ?_
    rintro e w2 ⟨rfl, hb2⟩
    have P2 := HP.out.below hb2
    have N2 := (Nx.refl O w1 (fun k hk => HP.out.lt k (HP.out.sub k hk))).below hb2
    have c4 : w2.cell? ⟨b, 4, none⟩ = some (.bool t.lim) := by rw [P2.blk.cell? 4]; rfl
    have c5 : w2.cell? ⟨b, 5, none⟩ = some (.bool t.lost) := by rw [P2.blk.cell? 5]; rfl
    have c6 : w2.cell? ⟨b, 6, none⟩ = some (.int .i64 (t.left : Int)) := by rw [P2.blk.cell? 6]; rfl
    have f4 := P2.blk.frozen 4
    have f5 := P2.blk.frozen 5
    have f6 := P2.blk.frozen 6
    have HC : Kp _ := ⟨power_parts P2 true false (armN n) (armN_le n)⟩
    have HN : Kp _ := ⟨N2⟩
    clear P2 N2 hb2
    go_wp2
    go_end0
    rw [HT.out]
    exact ⟨rfl, HC.out.1, HN.out.trans HC.out.2⟩
  · have HT : Kp (armW t n = t) := ⟨by unfold armW; rw [hl]; rfl⟩
    go_enter Try.func16, Try.ntmps16
    go_wp2_with fail
    refine (runs_any b ad t w HP.out.blk).mono ?_
    rintro e w1 ⟨rfl, rfl⟩
    rw [hl]
    go_wp2
    go_end0
    rw [HT.out]
    exact ⟨rfl, HP.out, Nx.refl O _ (fun k hk => HP.out.lt k (HP.out.sub k hk))⟩
set_option maxHeartbeats 400000 in
theorem blocks_none (w : World) : Calls Try.prog 32 #[.pointer none] w fun e w' => e = .returned (.int .i64 0) ∧ w' = w := by
  go_enter Try.func32, Try.ntmps32
  go_wp2
  go_ret
  exact ⟨rfl, rfl⟩
end
end Go.Proofs.Ytalnbomnmmefgaa
