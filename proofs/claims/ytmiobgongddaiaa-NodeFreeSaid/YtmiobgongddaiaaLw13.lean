/- What the laws of stage 13 share. -/
import Derived.Test.YtmiobgongddaiaaKnown13
import Derived.Test.YtmiobgongddaiaaOpenN
import Derived.Test.YtmiobgongddaiaaSame
import Derived.Deep.QuietTactic
namespace Go.Proofs.Ytmiobgongddaiaa
open Go.RowKit Go.Shelf

theorem u16_b {z : Int} (h : (Lit.int .u16 z).wf = true) : 0 ≤ z ∧ z ≤ 65535 := by simpa [Lit.wf, IntKind.min, IntKind.max, IntKind.signed, IntKind.bits] using h
theorem u8_b {z : Int} (h : (Lit.int .u8 z).wf = true) : 0 ≤ z ∧ z ≤ 255 := by simpa [Lit.wf, IntKind.min, IntKind.max, IntKind.signed, IntKind.bits] using h
theorem i64_b {z : Int} (h : (Lit.int .i64 z).wf = true) : -9223372036854775808 ≤ z ∧ z ≤ 9223372036854775807 := by simpa [Lit.wf, IntKind.min, IntKind.max, IntKind.signed, IntKind.bits] using h
theorem nodeT' : ∃ f0 f1 f2 f3 f4, NodeT Try.prog 24 3 f0 f1 f2 f3 f4 :=
  ⟨_, _, _, _, _, Try.underlying24, by kernel_rfl, by kernel_rfl, by kernel_rfl, by kernel_rfl, by kernel_rfl, by kernel_rfl, rfl, rfl, rfl, rfl, rfl, by kernel_rfl, by kernel_rfl, by kernel_rfl, by kernel_rfl, by kernel_rfl, by kernel_rfl, by kernel_rfl⟩
theorem Zs.next {w0 w1 : World} {B n c : Nat} {k : IntKind} {A : Option Addr} {zs : List Int} (h : Zs w0 B k A n c zs) (hb : Below w0.heap.size w0 w1) (hB : B ≤ w0.heap.size) : Zs w1 w1.heap.size k A n c zs :=
  (h.below (hb.mono hB)).more (Nat.le_trans hB hb.size)
section
variable {P : Program} {w : World} {ops : Array Oper} {o : Oper} {a : Act} {Q : Exit → Act → World → Prop} {t : TypeId}
/-- many cells, read in a region whose order is open, guarded -/
theorem step_load_g {K : Act → World → Prop} {C : Prop} {d : TypeDesc} {n : Nat} (E : Rw P t d n) (hw : Region.wanted o (yielded ops a.tmps) = true) (x : Operand) (hop : o.op = .load t x) {g : Nat} {t' : TypeId} {cs : List Value} (hx : a.eval x = .pointer (some ⟨g, 0, none⟩)) (hb : Blk w g t' cs) (hn : cs.length = n)
    (h : K (a.put o.dst (.agg cs.toArray)) w) : if Region.wanted o (yielded ops a.tmps) = true then Oper.wp P o a w K Q else C := by
  rw [if_pos hw]
  have hr := run_load_rw E hb (off := 0) (by omega)
  rw [List.drop_zero, List.take_of_length_le (by omega)] at hr
  unfold Oper.wp
  simp only [execOp, hop, hx, Sem.run_bind, hr, Result.andThen_ok, Sem.run_pure]
  exact h
end
section
set_option maxRecDepth 100000
set_option maxHeartbeats 2000000
theorem sameints_any (A B : Option Addr) (n c m d : Nat) (xs ys : List Int) (w : World) (L M : Nat) (ha : Zs w L .i64 A n c xs) (hb : Zs w M .i64 B m d ys) :
    Calls Try.prog 23 #[.slice A n c, .slice B m d] w fun e w' => e = .returned (.bool (xs == ys)) ∧ Below w.heap.size w w' := by
  have HA : Kp _ := ⟨ha⟩
  have HB : Kp _ := ⟨hb⟩
  have HX : Kp (xs.length = n) := ⟨ha.len⟩
  have HY : Kp (ys.length = m) := ⟨hb.len⟩
  have hn63 := ha.le
  have hm63 := hb.le
  clear ha hb
  by_cases hnm : n = m
  · subst hnm
    go_enter Try.func23, Try.ntmps23
    go_wp2
    go_loopg [5] n (fun gk v5 wr => ∃ k : Nat, k + gk = n ∧ v5 = .int .i64 (k : Int) ∧ Kp (xs.take k = ys.take k) ∧ Kp (∀ B, Below B w wr))
    case atStart => exact ⟨0, by omega, rfl, ⟨by simp⟩, ⟨fun _ => Below.refl _ _⟩⟩
    case round =>
      obtain ⟨k, hkm, rfl, HE, HS⟩ := hrel
      cases gk with
      | zero =>
        have hend : ¬ ((k : Int) < (n : Int)) := by omega
        have HV : Kp ((xs == ys) = true) := ⟨by
          have h := HE.out
          rw [List.take_of_length_le (by rw [HX.out]; omega), List.take_of_length_le (by rw [HY.out]; omega)] at h
          rw [h]; simp⟩
        go_wp2
        go_ret
        exact ⟨by rw [HV.out]; rfl, HS.out _⟩
      | succ g2 =>
        have hgo : (k : Int) < (n : Int) := by omega
        have hin : k < n := by omega
        obtain ⟨b1, o1, rfl, hl1, hc1⟩ := HA.out.at hin
        obtain ⟨b2, o2, rfl, hl2, hc2⟩ := HB.out.at hin
        have hx : k < xs.length := by rw [HX.out]; exact hin
        have hy : k < ys.length := by rw [HY.out]; exact hin
        obtain ⟨x, hxe⟩ : ∃ x, x = xs[k] := ⟨_, rfl⟩
        obtain ⟨y, hye⟩ : ∃ y, y = ys[k] := ⟨_, rfl⟩
        rw [← hxe] at hc1
        rw [← hye] at hc2
        have hk1 : wr.cell? ⟨b1, o1 + k, none⟩ = some (.int .i64 x) := ((HS.out (b1 + 1)).cell (p := ⟨b1, o1 + k, none⟩) (Nat.lt_succ_self _)).trans hc1
        have hk2 : wr.cell? ⟨b2, o2 + k, none⟩ = some (.int .i64 y) := ((HS.out (b2 + 1)).cell (p := ⟨b2, o2 + k, none⟩) (Nat.lt_succ_self _)).trans hc2
        have HT1 : Kp (xs.take (k + 1) = xs.take k ++ [x]) := ⟨by rw [hxe, List.take_succ_eq_append_getElem hx]⟩
        have HT2 : Kp (ys.take (k + 1) = ys.take k ++ [y]) := ⟨by rw [hye, List.take_succ_eq_append_getElem hy]⟩
        have HNe : Kp (x ≠ y → (xs == ys) = false) := ⟨fun h => by
          rw [beq_eq_false_iff_ne]
          intro e
          apply h
          rw [hxe, hye]
          simp [e]⟩
        clear hc1 hc2 hxe hye
        by_cases hxy : x = y
        · subst hxy
          go_wp2_with fail
          go_quiet (fail)
          go_wp2
          go_roundg g2
          case measure => omega
          case rel => exact ⟨k + 1, by omega, by go_num, ⟨by rw [HT1.out, HT2.out, HE.out]⟩, ⟨fun B => below_drewN (HS.out B) _⟩⟩
        · have hxyI : ¬ (x = y) := hxy
          go_wp2_with fail
          go_quiet (fail)
          go_wp2
          go_ret
          exact ⟨by rw [HNe.out hxyI]; rfl, below_drewN (HS.out _) _⟩
  · have hne : ¬ ((n : Int) = (m : Int)) := by omega
    have HV : Kp ((xs == ys) = false) := ⟨by
      rw [beq_eq_false_iff_ne]
      intro e
      rw [e] at HX
      exact hnm (HX.out.symm.trans HY.out)⟩
    go_enter Try.func23, Try.ntmps23
    go_wp2
    go_ret
    exact ⟨by rw [HV.out]; rfl, Below.refl _ _⟩
end
end Go.Proofs.Ytmiobgongddaiaa
