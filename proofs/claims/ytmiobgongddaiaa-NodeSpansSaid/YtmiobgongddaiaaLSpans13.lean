/- The law NodeSpans. -/
import Derived.Test.YtmiobgongddaiaaLw13
namespace Go.Proofs.Ytmiobgongddaiaa
open Go.RowKit Go.Shelf

section
set_option maxRecDepth 100000
set_option maxHeartbeats 4000000
theorem law_nodeSpans (a n : Int) (w : World) (ha : (Lit.int .i64 a).wf = true) (hn : (Lit.int .i64 n).wf = true) :
    Calls Try.prog 5 #[.int .i64 a, .int .i64 n] w fun e w' => e = .returned (.bool true) ∧ Below w.heap.size w w' := by
  obtain ⟨a1, a2⟩ := i64_b ha
  obtain ⟨n1, n2⟩ := i64_b hn
  have HC1 : Kp _ := ⟨spans_any a n w a1 a2 n1 n2⟩
  have HC2 : Kp _ := ⟨fun W => refspans_any a n W⟩
  have HC3 : Kp _ := ⟨fun W => blocks_any a W a1 a2⟩
  have HSame : Kp ((spA a n == spA a n) = true) := ⟨by simp⟩
  generalize spA a n = l at *
  clear ha hn a1 a2 n1 n2
  go_enter Try.func5, Try.ntmps5
  go_wp2_with fail
  refine HC1.out.mono ?_
  rintro e w1 ⟨A1, m1, c1, rfl, hs1, hb1⟩
  have HS1 : Kp _ := ⟨hs1⟩
  have HB1 : Kp _ := ⟨hb1⟩
  clear hs1 hb1 HC1
  go_wp2_with fail
  refine (HC2.out w1).mono ?_
  rintro e w2 ⟨A2, m2, c2, rfl, hs2, hb2⟩
  have HB2 : Kp (Below w.heap.size w w2) := ⟨HB1.out.trans (hb2.mono HB1.out.size)⟩
  have hcall := samespans_any A1 A2 m1 c1 m2 c2 l l w2 _ _ (HS1.out.below hb2) hs2
  rw [HSame.out] at hcall
  have HCl : Kp _ := ⟨hcall⟩
  clear hs2 hb2 hcall HC2 HS1 HB1
  go_wp2_with fail
  refine HCl.out.mono ?_
  rintro e w3 ⟨rfl, hb3⟩
  have HB3 : Kp (Below w.heap.size w w3) := ⟨HB2.out.trans (hb3.mono HB2.out.size)⟩
  clear hb3 HCl HB2
  go_wp2_with fail
  refine (HC3.out w3).mono ?_
  rintro e w4 ⟨rfl, rfl⟩
  go_wp2_with fail
  refine (refblocks_any a w4).mono ?_
  rintro e w5 ⟨rfl, rfl⟩
  go_wp2_with fail
  refine (known13_any w5).mono ?_
  rintro e w6 ⟨rfl, hb6⟩
  have HB6 : Kp (Below w.heap.size w w6) := ⟨HB3.out.trans (hb6.mono HB3.out.size)⟩
  clear hb6
  go_wp2
  go_ret
  exact ⟨rfl, HB6.out⟩
end
end Go.Proofs.Ytmiobgongddaiaa
