/- The contract of the sixth chapter's known. -/
import Derived.Test.YtalnbomnmmefgaaSt
import Derived.Test.YtalnbomnmmefgaaLit
namespace Go.Proofs.Ytalnbomnmmefgaa
open Go.RowKit

def kx : Int × Int := (0, 1)
def kt0 : Wd := newW 1
def kt1 : Wd := writeW kt0 kx [97, 98]
def kt2 : Wd := readW kt1 kx
def kt3 : Wd := armW kt2 1
def kt4 : Wd := writeW kt3 kx [99, 100]
def kt5 : Wd := restartW kt4
def kr1 : List UInt8 := readL kt1 kx
def kr2 : List UInt8 := readL kt5 kx
theorem k_b1 : writeB kt0 kx = true := by decide +kernel
theorem k_b2 : writeB kt3 kx = false := by decide +kernel
theorem k_dead : kt4.lost = true := by decide +kernel
theorem k_r1 : kr1.length = 272 ∧ kr1.take 2 = [97, 98] := by decide +kernel
theorem k_r2 : kr2.length = 272 ∧ kr2.take 2 = [99, 98] := by decide +kernel
theorem k_ok : okP (0, 1) := ⟨rfl, rfl⟩

/-- bytes that have just been laid -/
theorem StS.laid {w0 w w' : World} {k : Nat} {ws : List (Nat × Wd)} {hs : List Held} {sn : List (World × (Nat → Prop))} (h : StS w0 w k ws hs sn) (hb : Below w.heap.size w w') {n c : Nat} {l : List UInt8} (hB : Bs w' w'.heap.size (some ⟨w.heap.size, 0, none⟩) n c l) (hn : n ≤ 4294967296) :
    StS w0 w' k ws ((some ⟨w.heap.size, 0, none⟩, n, c, l) :: hs) sn := by
  obtain ⟨M0, Os0, g1, g2, g3, g4, g5⟩ := h.is
  have hlt : ∀ k, M0 k → k < w'.heap.size := fun k hk => Nat.lt_of_lt_of_le (g2 k hk) hb.size
  refine ⟨⟨M0, Os0, g1.chg (S := fun _ => False) (Chg.of_below _ hb) (fun _ h => h.elim) (fun _ h => .inl h) (fun _ h => h) hlt (fun _ _ _ h => h.elim), hlt, g3, fun x hx => ?_, fun s hs => (g5 s hs).next (Chg.of_below (fun _ => False) hb) (fun _ h => h.elim) (fun _ h => .inl h)⟩, h.below.trans (hb.mono h.below.size), h.small⟩
  rcases List.mem_cons.1 hx with rfl | hx
  · refine ⟨hB, fun ad hA _ hm => ?_, hn⟩
    obtain rfl := Option.some.inj hA
    have := g2 _ hm
    simp at this
  · exact (g4 x hx).below hb

set_option maxRecDepth 100000 in
set_option maxHeartbeats 2000000 in
theorem known6_any (w : World) : Calls Try.prog 10 #[] w fun e w' => e = .returned (.bool true) ∧ Below w.heap.size w w' := by
  have hb1 := k_b1
  have hb2 := k_b2
  have hd := k_dead
  have hl1 := k_r1.1
  have hl2 := k_r2.1
  go_enter Try.func10, Try.ntmps10
  go_wp2_with fail
  refine (st_new (St.start w) 1 (by omega)).mono ?_
  rintro e w1 ⟨b, rfl, S1⟩
  have H1 : Kp (St w w1 0 [(b, kt0)] []) := ⟨S1⟩
  clear S1
  go_wp2_with (with_reducible refine wpList_lit (o := ⟨some 11, _, _, _, _, _⟩) el8 Try.underlying5 rfl (.tmp 10) rfl [97, 98] rfl 2 rfl (by decide) rfl ?_)
  intro w2 hB2 hb2
  have H2 : Kp _ := ⟨H1.out.laid hb2 hB2 (by omega)⟩
  clear hB2 hb2 H1
  go_wp2_with fail
  refine (st_write H2.out (by omega) 0 1 k_ok _ 2 2 [97, 98] (by simp)).mono ?_
  rintro e w3 ⟨rfl, S3⟩
  have H3 : Kp (St w w3 1 [(b, kt1)] []) := ⟨S3.forget (fun _ h => by cases h)⟩
  clear S3 H2
  go_wp2_with fail
  refine (st_read H3.out (by omega) 0 1 k_ok).mono ?_
  rintro e w4 ⟨A4, n4, c4, rfl, S4⟩
  have H4 : Kp (St w w4 2 [(b, kt2)] [(A4, n4, c4, kr1)]) := ⟨S4⟩
  clear S4 H3
  go_wp2_with fail
  refine (st_arm H4.out 1).mono ?_
  rintro e w5 ⟨rfl, S5⟩
  have H5 : Kp (St w w5 3 [(b, kt3)] [(A4, n4, c4, kr1)]) := ⟨S5⟩
  clear S5 H4
  go_wp2_with (with_reducible refine wpList_lit (o := ⟨some 19, _, _, _, _, _⟩) el8 Try.underlying5 rfl (.tmp 18) rfl [99, 100] rfl 2 rfl (by decide) rfl ?_)
  intro w6 hB6 hb6
  have H6 : Kp _ := ⟨H5.out.laid hb6 hB6 (by omega)⟩
  clear hB6 hb6 H5
  go_wp2_with fail
  refine (st_write H6.out (by omega) 0 1 k_ok _ 2 2 [99, 100] (by simp)).mono ?_
  rintro e w7 ⟨rfl, S7⟩
  have H7 : Kp (St w w7 4 [(b, kt4)] [(A4, n4, c4, kr1)]) := ⟨S7.forget (fun x h => by simp at h ⊢; exact .inr h)⟩
  clear S7 H6
  go_wp2_with fail
  refine (st_dead H7.out).mono ?_
  rintro e w8 ⟨rfl, rfl⟩
  go_wp2_with fail
  refine (st_restart H7.out).mono ?_
  rintro e w9 ⟨rfl, S9⟩
  have H9 : Kp (St w w9 5 [(b, kt5)] [(A4, n4, c4, kr1)]) := ⟨S9⟩
  clear S9 H7
  go_wp2_with fail
  refine (st_read H9.out (by omega) 0 1 k_ok).mono ?_
  rintro e w10 ⟨A10, n10, c10, rfl, S10⟩
  have H10 : Kp (St w w10 6 [(b, readW kt5 kx)] [(A10, n10, c10, kr2), (A4, n4, c4, kr1)]) := ⟨S10⟩
  clear S10 H9
  have B4 := (H10.out.heldM (A := A4) (n := n4) (c := c4) (l := kr1) (by simp)).1
  have B10 := (H10.out.heldM (A := A10) (n := n10) (c := c10) (l := kr2) (by simp)).1
  obtain rfl : n4 = 272 := by rw [← B4.len]; exact hl1
  obtain rfl : n10 = 272 := by rw [← B10.len]; exact hl2
  have hB : Below w.heap.size w w10 := H10.out.below
  have HB4 : Kp _ := ⟨B4⟩
  have HB10 : Kp _ := ⟨B10⟩
  clear B4 B10 H10
  go_wp2_with (with_reducible refine wpList_cut_h_g (o := ⟨some 35, _, _, _, _, _⟩) el8 (by kernel_rfl) _ _ rfl rfl HB4.out _ _ 2 rfl rfl (by omega) ?_)
  intro A5 hc5
  rw [k_r1.2] at hc5
  have e5 := hc5.text Try.underlying22 Try.underlying5 Try.underlying9
  clear hc5
  go_wp2_with (with_reducible refine wpList_cut_h_g (o := ⟨some 55, _, _, _, _, _⟩) el8 (by kernel_rfl) _ _ rfl rfl HB10.out _ _ 2 rfl rfl (by omega) ?_)
  intro A6 hc6
  rw [k_r2.2] at hc6
  have e6 := hc6.text Try.underlying22 Try.underlying5 Try.underlying9
  clear hc6
  go_wp2_with fail
  refine (blocks_none _).mono ?_
  rintro e w11 ⟨rfl, rfl⟩
  go_wp2
  go_ret
  exact ⟨rfl, hB⟩
end Go.Proofs.Ytalnbomnmmefgaa
