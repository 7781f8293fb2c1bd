/- The law PathParses. -/
import Derived.Test.YtaedlaeflliibaaDoorKnown15
namespace Go.Proofs.YtaedlaeflliibaaDoor
open Go.RowKit Go.Shelf Go.Deep

theorem str_of (s : ByteArray) : ∃ nm : List UInt8, s = ⟨nm.toArray⟩ ∧ s.data.toList = nm := ⟨s.data.toList, by cases s; simp, rfl⟩
theorem same_self (b : Bool) (l : List Nm) : ((b == b) && (l == l)) = true := by simp
section
set_option maxRecDepth 100000
set_option maxHeartbeats 4000000
theorem law_pathParses (s : ByteArray) (w : World) (hs : s.data.toList.length ≤ 140737488351232) :
    Calls Tryd.prog 3 #[.string s] w fun e w' => e = .returned (.bool true) ∧ Below w.heap.size w w' := by
  obtain ⟨l, rfl, hl⟩ := str_of s
  rw [hl] at hs
  clear hl
  have hsz : (ByteArray.mk l.toArray).size = l.length := by simp [ByteArray.size]
  have HPa : Kp (∀ W, _) := ⟨fun W => parse_any l W hs⟩
  have HRp : Kp (∀ W, _) := ⟨fun W => refparse_any l W hs⟩
  obtain ⟨E, hE⟩ : ∃ E, E = errS l := ⟨_, rfl⟩
  obtain ⟨b, hb⟩ : ∃ b, b = absS l := ⟨_, rfl⟩
  obtain ⟨ns, hns⟩ : ∃ ns, ns = namS l := ⟨_, rfl⟩
  rw [← hE, ← hb, ← hns] at HPa HRp
  clear hE hb hns
  go_enter Tryd.func3, Tryd.ntmps3
  by_cases hbig : 400 < l.length
  · have hbd : (400 : Int) < (l.length : Int) := by omega
    have HW : Kp (Below w.heap.size w w) := ⟨Below.refl _ _⟩
    go_wp2_with fail
    refine (known15_any _).mono ?_
    rintro e w1 ⟨rfl, hb'⟩
    replace HW : Kp _ := ⟨HW.out.trans (hb'.mono HW.out.size)⟩
    clear hb'
    go_wp2
    go_ret
    exact ⟨rfl, HW.out⟩
  have hbd : ¬ (400 : Int) < (l.length : Int) := by omega
  have HW : Kp (Below w.heap.size w w) := ⟨Below.refl _ _⟩
  go_wp2_with fail
  refine (HPa.out _).mono ?_
  rintro e w1 ⟨A1, n1, c1, rfl, hs1, hb'⟩
  replace HW : Kp _ := ⟨HW.out.trans (hb'.mono HW.out.size)⟩
  have S1 : Kp _ := ⟨hs1⟩
  clear hs1
  clear hb'
  go_wp2_with fail
  have hbx : Below w1.heap.size w1 (w1.alloc (.cells #[.bool b, .slice A1 n1 c1] 25)) := (Below.refl _ _).alloc (Nat.le_refl _) _
  have KP : Kp _ := ⟨Blk.new w1 25 [.bool b, .slice A1 n1 c1]⟩
  obtain ⟨w2, hw2⟩ : ∃ x, x = w1.alloc (.cells #[.bool b, .slice A1 n1 c1] 25) := ⟨_, rfl⟩
  rw [← hw2] at hbx KP ⊢
  replace S1 : Kp _ := ⟨S1.out.next hbx (Nat.le_refl _)⟩
  replace HW : Kp _ := ⟨HW.out.trans (hbx.mono HW.out.size)⟩
  obtain ⟨GP, hG⟩ : ∃ g, g = w1.heap.size := ⟨_, rfl⟩
  rw [← hG] at KP ⊢
  clear hG hbx hw2
  refine (HRp.out _).mono ?_
  rintro e w3 ⟨A2, n2, c2, rfl, hs2, hb'⟩
  replace KP : Kp _ := ⟨KP.out.below hb' KP.out.lt⟩
  replace S1 : Kp _ := ⟨S1.out.next hb' (Nat.le_refl _)⟩
  replace HW : Kp _ := ⟨HW.out.trans (hb'.mono HW.out.size)⟩
  have S2 : Kp _ := ⟨hs2⟩
  clear hs2
  clear hb'
  have cKP0 : w3.cell? ⟨GP, 0, none⟩ = some (.bool b) := KP.out.cell? 0
  have cKP1 : w3.cell? ⟨GP, 1, none⟩ = some (.slice A1 n1 c1) := KP.out.cell? 1
  go_upto_region 5 with fail
  have hbx : Below w3.heap.size w3 (w3.alloc (.cells #[.bool b, .slice A2 n2 c2] 25)) := (Below.refl _ _).alloc (Nat.le_refl _) _
  have KQ : Kp _ := ⟨Blk.new w3 25 [.bool b, .slice A2 n2 c2]⟩
  obtain ⟨w4, hw4⟩ : ∃ x, x = w3.alloc (.cells #[.bool b, .slice A2 n2 c2] 25) := ⟨_, rfl⟩
  rw [← hw4] at hbx KQ ⊢
  replace KP : Kp _ := ⟨KP.out.below hbx KP.out.lt⟩
  replace S1 : Kp _ := ⟨S1.out.next hbx (Nat.le_refl _)⟩
  replace S2 : Kp _ := ⟨S2.out.next hbx (Nat.le_refl _)⟩
  replace HW : Kp _ := ⟨HW.out.trans (hbx.mono HW.out.size)⟩
  obtain ⟨GQ, hG⟩ : ∃ g, g = w3.heap.size := ⟨_, rfl⟩
  rw [← hG] at KQ ⊢
  clear hG hbx hw4
  clear cKP0 cKP1
  have cKP0 : w4.cell? ⟨GP, 0, none⟩ = some (.bool b) := KP.out.cell? 0
  have cKP1 : w4.cell? ⟨GP, 1, none⟩ = some (.slice A1 n1 c1) := KP.out.cell? 1
  have cKQ0 : w4.cell? ⟨GQ, 0, none⟩ = some (.bool b) := KQ.out.cell? 0
  have cKQ1 : w4.cell? ⟨GQ, 1, none⟩ = some (.slice A2 n2 c2) := KQ.out.cell? 1
  go_wp2_with fail
  refine (refsame_any b b A1 A2 n1 c1 n2 c2 ns ns _ _ _ S1.out S2.out (Nat.le_refl _) (Nat.le_refl _)).mono ?_
  rintro e w5 ⟨rfl, hb'⟩
  replace KP : Kp _ := ⟨KP.out.below hb' KP.out.lt⟩
  replace KQ : Kp _ := ⟨KQ.out.below hb' KQ.out.lt⟩
  replace S1 : Kp _ := ⟨S1.out.next hb' (Nat.le_refl _)⟩
  replace S2 : Kp _ := ⟨S2.out.next hb' (Nat.le_refl _)⟩
  replace HW : Kp _ := ⟨HW.out.trans (hb'.mono HW.out.size)⟩
  rw [same_self]
  clear hb'
  clear cKP0 cKP1 cKQ0 cKQ1
  go_wp2_with fail
  refine (known15_any _).mono ?_
  rintro e w6 ⟨rfl, hb'⟩
  replace KP : Kp _ := ⟨KP.out.below hb' KP.out.lt⟩
  replace KQ : Kp _ := ⟨KQ.out.below hb' KQ.out.lt⟩
  replace S1 : Kp _ := ⟨S1.out.next hb' (Nat.le_refl _)⟩
  replace S2 : Kp _ := ⟨S2.out.next hb' (Nat.le_refl _)⟩
  replace HW : Kp _ := ⟨HW.out.trans (hb'.mono HW.out.size)⟩
  clear hb'
  go_wp2
  go_ret
  exact ⟨rfl, HW.out⟩
end
end Go.Proofs.YtaedlaeflliibaaDoor
