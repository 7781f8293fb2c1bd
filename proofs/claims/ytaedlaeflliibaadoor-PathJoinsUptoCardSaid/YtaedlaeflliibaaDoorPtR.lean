/- The contracts of the library's Clone, Equal, Or and Join of names; Same and Long. -/
import Derived.Test.YtaedlaeflliibaaDoorPtQ
import Derived.Test.YtaedlaeflliibaaDoorHeld
namespace Go.Proofs.YtaedlaeflliibaaDoor
open Go.RowKit Go.Shelf

section
set_option maxRecDepth 100000
set_option maxHeartbeats 2000000
theorem cloneSt_any (A : Option Addr) (n c : Nat) (l : List Nm) (w : World) (L : Nat) (ha : Ss w L A n c l) (hL : L ≤ w.heap.size) (hn : n ≤ 8796093022208) :
    Calls Tryd.prog 26 #[.slice A n c] w fun e w' => ∃ v, e = .returned v ∧ w'.ownsRow w.heap.size 9 1 v n (stCells l) ∧ Below w.heap.size w w' := by
  have HA : Kp _ := ⟨ha.more hL⟩
  have HL : Kp _ := ⟨ha.len⟩
  have heq := fun w => Lib.run_eql_slice_nil (P := Tryd.prog) w 23 9 A n c 0 0 Tryd.underlying23
  cases hA : A with
  | none =>
    have h0 : n = 0 := by have := ha.nil hA; have := ha.cap; omega
    have hl : l = [] := List.eq_nil_of_length_eq_zero (by have := ha.len; omega)
    have hc : c = 0 := ha.nil hA
    rw [hA] at heq
    clear ha HA HL hA
    subst h0 hl hc
    go_enter Tryd.func26, Tryd.ntmps26
    go_wp2
    go_ret
    exact ⟨_, rfl, ownSt_nil _ _ _, Below.refl _ _⟩
  | some ad =>
    subst hA
    clear ha
    have hb1 : Below w.heap.size w (w.alloc (.cells #[] 9)) := (Below.refl _ _).alloc (Nat.le_refl _) _
    have HO : Kp ((w.alloc (.cells #[] 9)).ownsRow w.heap.size 9 1 (.slice (some ⟨w.heap.size, 0, none⟩) 0 0) 0 (stCells [])) :=
      ⟨rfl, .inr ⟨w.heap.size, 0, #[], rfl, Nat.le_refl _, by show (w.heap.push _)[w.heap.size]? = _; simp, Nat.le_refl _, Nat.zero_le _, rfl, rfl⟩⟩
    have HA1 : Kp _ := ⟨HA.out.below hb1⟩
    go_enter Tryd.func26, Tryd.ntmps26
    go_wp2_with (at_builtin; refine wpList_appSt rfl _ _ rfl w.heap.size _ 0 [] rfl HO.out rfl HA1.out (by omega) (by simp) ?_)
    intro v2 w2 hown2 hb2' _
    have hb2 : Below w.heap.size w w2 := hb1.trans hb2'
    have H2 : Kp (w2.ownsRow w.heap.size 9 1 v2 n (stCells l)) := ⟨by simpa using hown2⟩
    clear hown2 hb2'
    go_wp2
    go_ret
    exact ⟨_, rfl, H2.out, hb2⟩
theorem equalSt_any (A B : Option Addr) (n c m d : Nat) (xs ys : List Nm) (w : World) (L M : Nat) (ha : Ss w L A n c xs) (hb : Ss w M B m d ys) :
    Calls Tryd.prog 29 #[.slice A n c, .slice B m d] w fun e w' => e = .returned (.bool (xs == ys)) ∧ Below w.heap.size w w' := by
  have HA : Kp _ := ⟨ha⟩
  have HB : Kp _ := ⟨hb⟩
  have HX : Kp (xs.length = n) := ⟨ha.len⟩
  have HY : Kp (ys.length = m) := ⟨hb.len⟩
  have hn63 := ha.le
  have hm63 := hb.le
  clear ha hb
  by_cases hnm : n = m
  · subst hnm
    go_enter Tryd.func29, Tryd.ntmps29
    go_wp2
    go_loopg [13] n (fun gk v5 wr => ∃ k : Nat, k + gk = n ∧ v5 = .int .i64 (k : Int) ∧ Kp (xs.take k = ys.take k) ∧ Kp (∀ B, Below B w wr))
    case atStart => exact ⟨0, by omega, rfl, ⟨by simp⟩, ⟨fun _ => Below.refl _ _⟩⟩
    case round =>
      obtain ⟨k, hkm, rfl, HE, HS⟩ := hrel
      cases gk with
      | zero =>
        have hend : ¬ ((k : Int) < (n : Int)) := by omega
        have HV : Kp ((xs == ys) = true) := ⟨by
          have h := HE.out
          rw [List.take_of_length_le (by rw [HX.out]; omega), List.take_of_length_le (by rw [HY.out]; omega)] at h
          rw [h]; simp⟩
        go_wp2
        go_ret
        exact ⟨by rw [HV.out]; rfl, HS.out _⟩
      | succ g2 =>
        have hgo : (k : Int) < (n : Int) := by omega
        have hin : k < n := by omega
        obtain ⟨b1, o1, rfl, hl1, hc1⟩ := HA.out.at hin
        obtain ⟨b2, o2, rfl, hl2, hc2⟩ := HB.out.at hin
        have hx : k < xs.length := by rw [HX.out]; exact hin
        have hy : k < ys.length := by rw [HY.out]; exact hin
        obtain ⟨x, hxe⟩ : ∃ x, x = xs[k] := ⟨_, rfl⟩
        obtain ⟨y, hye⟩ : ∃ y, y = ys[k] := ⟨_, rfl⟩
        rw [← hxe] at hc1
        rw [← hye] at hc2
        have hk1 : wr.cell? ⟨b1, o1 + k, none⟩ = some (.string ⟨x.toArray⟩) := ((HS.out (b1 + 1)).cell (Nat.lt_succ_self _)).trans hc1
        have hk2 : wr.cell? ⟨b2, o2 + k, none⟩ = some (.string ⟨y.toArray⟩) := ((HS.out (b2 + 1)).cell (Nat.lt_succ_self _)).trans hc2
        have HT1 : Kp (xs.take (k + 1) = xs.take k ++ [x]) := ⟨by rw [hxe, List.take_succ_eq_append_getElem hx]⟩
        have HT2 : Kp (ys.take (k + 1) = ys.take k ++ [y]) := ⟨by rw [hye, List.take_succ_eq_append_getElem hy]⟩
        have HNe : Kp (x ≠ y → (xs == ys) = false) := ⟨fun h => by
          rw [beq_eq_false_iff_ne]
          intro e
          apply h
          rw [hxe, hye]
          simp [e]⟩
        have heq := eqs_str x y
        clear hc1 hc2 hxe hye hl1 hl2
        cases hq : x == y with
        | true =>
          have HE2 : Kp (xs.take (k + 1) = ys.take (k + 1)) := ⟨by rw [HT1.out, HT2.out, HE.out, eq_of_beq hq]⟩
          rw [hq] at heq
          go_wp2
          go_still (by kernel_rfl)
          go_wp2
          go_roundg g2
          case measure => omega
          case rel => exact ⟨k + 1, by omega, by go_num, HE2, ⟨fun B => (HS.out B).drew⟩⟩
        | false =>
          have HV : Kp ((xs == ys) = false) := ⟨HNe.out (by simpa using hq)⟩
          rw [hq] at heq
          go_wp2
          go_still (by kernel_rfl)
          go_wp2
          go_ret
          exact ⟨by rw [HV.out]; rfl, (HS.out _).drew⟩
  · have hne : ¬ ((n : Int) = (m : Int)) := by omega
    have HV : Kp ((xs == ys) = false) := ⟨by
      rw [beq_eq_false_iff_ne]
      intro e
      rw [e] at HX
      exact hnm (HX.out.symm.trans HY.out)⟩
    go_enter Tryd.func29, Tryd.ntmps29
    go_wp2
    go_ret
    exact ⟨by rw [HV.out]; rfl, Below.refl _ _⟩
end
end Go.Proofs.YtaedlaeflliibaaDoor
