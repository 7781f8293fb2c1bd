/- Cut rows of numbers, and records held against each other, guarded. -/
import Derived.Test.YtmiobgongddaiaaLw13
namespace Go.Proofs.Ytmiobgongddaiaa
open Go.RowKit Go.Shelf

theorem Zs.cut0 {w : World} {L n c : Nat} {k : IntKind} {A : Option Addr} {l : List Int} (h : Zs w L k A n c l) {i : Nat} (hi : i ≤ n) : Zs w L k (if c = 0 then A else A.map (·.add 0)) i c (l.take i) := by
  have hl := h.len
  have hc := h.cap
  refine ⟨by simp; omega, by omega, h.max, fun hn => ?_, fun z hz => h.wf z (List.mem_of_mem_take hz), fun h0 => ?_⟩
  · by_cases e : c = 0
    · exact e
    · rw [if_neg e] at hn
      exact h.nil (by simpa using hn)
  · obtain ⟨b, o, hA, hb, hcell⟩ := h.cells (by omega)
    refine ⟨b, o, ?_, hb, fun j hj => ?_⟩
    · rw [if_neg (by omega), hA]
      simp [Addr.add]
    · have hj' : j < l.length := by simp at hj; omega
      rw [hcell j hj']
      simp
section
variable {P : Program} {w : World} {ops : Array Oper} {rest : List Oper} {o : Oper} {a : Act} {Q : Exit → Act → World → Prop} {t e : TypeId} {z : Value} {bytes : Nat}
theorem wpList_cutZ_g (E : El P t e z bytes) (hw : Region.wanted o (yielded ops a.tmps) = true) (x hi : Operand) (hop : o.op = Op.slice t x none (some hi) none)
    {L : Nat} {A : Option Addr} {n c : Nat} {l : List Int} {k' : IntKind} (hx : a.eval x = .slice A n c) (hz : Zs w L k' A n c l) (k : IntKind) (I : Int) (i : Nat) (hhi : a.eval hi = .int k I) (hI : I = i) (hi' : i ≤ n)
    (h : ∀ A', Zs w L k' A' i c (l.take i) → wpList P ops Q rest (a.put o.dst (.slice A' i c)) w) : wpList P ops Q (o :: rest) a w := by
  subst hI
  refine wpList_step fun K hK => ?_
  rw [if_pos hw]
  have hcap := hz.cap
  have hrun := run_slice_h (P := P) (w := w) t A n c E.ty' k (i : Int) (by omega) (by omega)
  rw [E.sizeOf] at hrun
  have h2 := hz.cut0 hi'
  unfold Oper.wp
  simp [execOp, hop, hx, hhi, run_sliceAt_slice (P := P) (w := w) t _ _ _ _ E.ty', hrun, Result.andThen, sliced]
  exact hK _ _ (h _ h2)
theorem wpList_neq_g (hG : P.eqGuardType P.depth t = false) (hg : Region.wanted o (yielded ops a.tmps) = true) (x y : Operand) {t' : TypeId} (hop : o.op = .binOp .neq t x y t') {u v : Array Value} (hx : a.eval x = .agg u) (hy : a.eval y = .agg v) {q : Bool}
    (hr : (Op.equalIn 10000 t (.agg u) (.agg v)).run P w = .ok q w)
    (h : wpList P ops Q rest (a.put o.dst (.bool (!q))) w) : wpList P ops Q (o :: rest) a w := by
  refine wpList_step fun K hK => ?_
  rw [if_pos hg]
  unfold Oper.wp
  simp only [execOp, hop, hx, hy, Sem.run_bind, run_eqGuard_agg (w := w) _ _ _ _ _ _ hG, Result.andThen_ok, run_neq_struct, hr, Sem.run_pure]
  exact hK _ _ h
end
end Go.Proofs.Ytmiobgongddaiaa
