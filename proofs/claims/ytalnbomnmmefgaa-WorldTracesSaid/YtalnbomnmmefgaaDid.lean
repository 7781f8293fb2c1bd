/- The contracts of sacristanref06's Long, of small and of did. -/
import Derived.Test.YtalnbomnmmefgaaKnown6
import Derived.Test.YtalnbomnmmefgaaDos
namespace Go.Proofs.Ytalnbomnmmefgaa
open Go.RowKit

def dlong (ds : List Dd) : Nat := (ds.map fun d => 1 + d.bs.length).sum
theorem dlong_next (ds : List Dd) (k : Nat) (h : k < ds.length) : dlong (ds.take (k + 1)) = dlong (ds.take k) + 1 + ds[k].bs.length := by
  unfold dlong
  rw [List.take_succ_eq_append_getElem h, List.map_append, List.sum_append]
  simp; omega
theorem dlong_mem (ds : List Dd) : ∀ x ∈ ds, x.bs.length < dlong ds := by
  induction ds with
  | nil => intro x h; cases h
  | cons y ys ih =>
    intro x h
    have e : dlong (y :: ys) = 1 + y.bs.length + dlong ys := by simp [dlong]
    rw [e]
    rcases List.mem_cons.1 h with rfl | h
    · omega
    · have := ih x h; omega
theorem dlong_le (ds : List Dd) (M : Nat) (h : ∀ x ∈ ds, x.bs.length ≤ M) (k : Nat) (hk : k ≤ ds.length) : dlong (ds.take k) ≤ k * (M + 1) := by
  induction k with
  | zero => simp [dlong]
  | succ k ih =>
    rw [dlong_next ds k (by omega)]
    have := h _ (List.getElem_mem (show k < ds.length by omega))
    have := ih (by omega)
    rw [Nat.succ_mul]; omega
set_option maxHeartbeats 1000000 in
theorem dlong_any (A : Option Addr) (m c : Nat) (ds : List Dd) (w : World) (B : Nat) (hI : Dos w B A m c ds) (hm : m ≤ 40) (hb : ∀ x ∈ ds, x.bs.length ≤ 140737488351232) :
    Calls Try.prog 43 #[.slice A m c] w fun e w' => e = .returned (.int .i64 ((dlong ds : Nat) : Int)) ∧ w' = w := by
  have HL : Kp _ := ⟨hI.len⟩
  have HB : Kp _ := ⟨hb⟩
  have HI : Kp _ := ⟨hI⟩
  have hm63 := hI.le
  clear hI hb
  go_enter Try.func43, Try.ntmps43
  go_wp2
  go_loop [3, 4] (fun s i => ∃ k : Nat, k ≤ m ∧ i = .int .i64 k ∧ s = .int .i64 ((dlong (ds.take k) : Nat) : Int)) (fun _ i => m - (intOf i).toNat)
  case atStart => exact ⟨0, Nat.zero_le _, rfl, rfl⟩
  case round =>
    obtain ⟨k, hk, rfl, rfl⟩ := hrel
    by_cases hlt : k < m
    · obtain ⟨b, o, A', n', c', rfl, hd⟩ := HI.out.at hlt
      have hki : k < ds.length := by rw [HL.out]; exact hlt
      have HNx : Kp _ := ⟨dlong_next ds k hki⟩
      have h1 := dlong_le ds 140737488351232 HB.out k (by omega)
      have h2 := HB.out _ (List.getElem_mem hki)
      have h3 : (ds[k]'hki).bs.length = n' := hd.bytes.len
      have hc4 := hd.sli
      rw [h3] at h2 HNx
      have h4 : dlong (ds.take k) ≤ 5629499534049280 := Nat.le_trans h1 (by omega)
      have hn63 := hd.bytes.le
      generalize dlong (ds.take k) = s at *
      clear h1 h3 hd
      go_wp2
      go_round
      case rel => exact ⟨k + 1, by omega, by go_num, by rw [HNx.out]; go_num⟩
      case measure => simp [intOf]; omega
    · obtain rfl : k = m := by omega
      have HE : Kp (ds.take k = ds) := ⟨List.take_of_length_le (by rw [HL.out]; exact Nat.le_refl _)⟩
      rw [HE.out]
      go_wp2
      go_ret
      exact ⟨rfl, rfl⟩
def dsmall (ds : List Dd) : Bool := decide (ds.length ≤ 40) && decide (dlong ds ≤ 3000)
set_option maxHeartbeats 400000 in
theorem small_any (A : Option Addr) (m c : Nat) (ds : List Dd) (w : World) (B : Nat) (hI : Dos w B A m c ds) (hb : ∀ x ∈ ds, x.bs.length ≤ 140737488351232) :
    Calls Try.prog 21 #[.slice A m c] w fun e w' => e = .returned (.bool (dsmall ds)) ∧ w' = w := by
  have hl := hI.len
  have hm63 := hI.le
  by_cases hm : m ≤ 40
  · have hmi : (m : Int) ≤ 40 := by omega
    have HI : Kp _ := ⟨hI⟩
    have HB : Kp _ := ⟨hb⟩
    have HS : Kp (dsmall ds = decide (dlong ds ≤ 3000)) := ⟨by unfold dsmall; rw [decide_eq_true (by omega)]; rfl⟩
    clear hI hb hl
    go_enter Try.func21, Try.ntmps21
    go_wp2_with fail
    refine (dlong_any A m c ds w B HI.out hm HB.out).mono ?_
    rintro e w1 ⟨rfl, rfl⟩
    by_cases h3 : dlong ds ≤ 3000
    · have h3i : ((dlong ds : Nat) : Int) ≤ 3000 := by omega
      have HD : Kp _ := ⟨decide_eq_true h3⟩
      clear h3
      go_wp2
      go_ret
      exact ⟨by rw [HS.out, HD.out]; rfl, rfl⟩
    · have h3i : ¬ (((dlong ds : Nat) : Int) ≤ 3000) := by omega
      have HD : Kp _ := ⟨And.intro (decide_eq_false h3) (decide_eq_false h3i)⟩
      clear h3
      go_wp2
      go_ret
      refine ⟨?_, rfl⟩
      rw [HS.out, HD.out.1]
      show Ending.returned (.bool (decide (((dlong ds : Nat) : Int) ≤ 3000))) = _
      rw [HD.out.2]
  · have hmi : ¬ ((m : Int) ≤ 40) := by omega
    have HS : Kp (dsmall ds = false) := ⟨by unfold dsmall; rw [decide_eq_false (by omega)]; rfl⟩
    clear hI hb hl hm
    go_enter Try.func21, Try.ntmps21
    go_wp2
    go_ret
    exact ⟨by rw [HS.out]; rfl, rfl⟩

def u64N (z : Int) : Nat := (z % 18446744073709551616).toNat
def didW (t : Wd) (d : Dd) : Wd :=
  if d.kind = 1 then readW t (d.pl, d.sl) else if d.kind = 2 then writeW t (d.pl, d.sl) d.bs else if d.kind = 3 then lookW t d.pl else if d.kind = 4 then sealedW t d.pl d.bs
  else if d.kind = 5 then bumpW t else if d.kind = 6 then lieW t d.num d.bs else if d.kind = 7 then armW t d.num else if d.kind = 8 then restartW t else if d.kind = 9 then setW t (u64N d.num) else t
def didL (t : Wd) (d : Dd) : List UInt8 := if d.kind = 1 then readL t (d.pl, d.sl) else if d.kind = 3 then lookL t d.pl else []
def didB (t : Wd) (d : Dd) : Bool := if d.kind = 2 then writeB t (d.pl, d.sl) else if d.kind = 4 then sealB t d.pl d.bs else if d.kind = 5 then bumpB t else false
theorem StS.holdNil {w0 w : World} {k : Nat} {ws : List (Nat × Wd)} {hs : List Held} {sn : List (World × (Nat → Prop))} (h : StS w0 w k ws hs sn) : StS w0 w k ws ((none, 0, 0, []) :: hs) sn := by
  obtain ⟨M, Os, h1, h2, h3, h4, h5⟩ := h.is
  refine ⟨⟨M, Os, h1, h2, h3, fun x hx => ?_, h5⟩, h.below, h.small⟩
  rcases List.mem_cons.1 hx with rfl | hx
  · exact BsM.zero _ _
  · exact h4 x hx
end Go.Proofs.Ytalnbomnmmefgaa
