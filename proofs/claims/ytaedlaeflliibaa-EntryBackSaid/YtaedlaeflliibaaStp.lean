/- A drawn region that only reads, walked aside: to what it comes, told apart from what follows. No program is named here. -/
import Derived.Test.YtaedlaeflliibaaBase
import Derived.StillTactics
namespace Go.Proofs.Ytaedlaeflliibaa
open Go.RowKit
section
variable {P : Program} {w : World} {ops : Array Oper} {rest : List Oper} {o : Oper} {a : Act} {Q : Act → Prop}
theorem wpStill_mono {Q' : Act → Prop} (hQ : ∀ a, Q a → Q' a) : ∀ (rest : List Oper) (a : Act), wpStill P ops w Q rest a → wpStill P ops w Q' rest a
  | [], a, h => hQ a h
  | o :: rest, a, h => by
    unfold wpStill at h ⊢
    split
    · rename_i hw
      rw [if_pos hw] at h
      exact Oper.still_mono (fun a => wpStill_mono hQ rest a) h
    · rename_i hw
      rw [if_neg hw] at h
      exact wpStill_mono hQ rest _ h
theorem wpStill_to {A : Act} (h : wpStill P ops w (fun a' => a' = A) rest a) (hQ : Q A) : wpStill P ops w Q rest a :=
  wpStill_mono (fun a' e => by subst e; exact hQ) rest a h
/-- to what a region comes -/
structure Wk (P : Program) (ops : Array Oper) (w : World) (rest : List Oper) (a : Act) where
  A : Act
  h : wpStill P ops w (fun a' => a' = A) rest a
theorem wpStill_wk (W : Wk P ops w rest a) (hQ : Q W.A) : wpStill P ops w Q rest a := wpStill_to W.h hQ
theorem st_skip (hw : Region.wanted o (yielded ops a.tmps) = false) (h : wpStill P ops w Q rest (a.put o.dst undef)) : wpStill P ops w Q (o :: rest) a := by
  refine wpStill_step fun K hK => ?_
  rw [if_neg (by rw [hw]; decide)]
  exact hK _ h
theorem st_move {x : Operand} (hw : Region.wanted o (yielded ops a.tmps) = true) (ho : o.op = .move x) (h : wpStill P ops w Q rest (a.put o.dst (a.eval x))) : wpStill P ops w Q (o :: rest) a := by
  refine wpStill_step fun K hK => ?_
  rw [if_pos hw]
  unfold Oper.still execOp
  simp only [ho, Sem.run_pure]
  exact ⟨rfl, hK _ h⟩
end
end Go.Proofs.Ytaedlaeflliibaa
