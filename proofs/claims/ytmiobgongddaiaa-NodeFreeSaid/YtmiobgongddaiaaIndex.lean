/- An array by value, indexed. No program is named here. -/
import Derived.Test.YtmiobgongddaiaaArr
import Derived.ChangeKeysEq
namespace Go.Proofs.Ytmiobgongddaiaa
open Go.RowKit

/-- an element's type: of one cell, and no array or struct -/
structure Plain1 (P : Program) (e : TypeId) : Prop where
  size : (P.info? e).map (·.size) = some 1
  plain : (match P.underlying e with | some (.int _) => true | some .bool => true | some .string => true | some (.slice _) => true | some (.pointer _) => true | _ => false) = true
theorem run_index_agg {P : Program} {t e : TypeId} {n : Nat} (ht : P.underlying t = some (.array n e)) (E : Plain1 P e) (cs : List Value) (k : IntKind) (i : Nat) (hi : i < n) (v : Value) (hv : cs[i]? = some v) (w : World) :
    (Instr.index t (.agg cs.toArray) (.int k (i : Int))).run P w = .ok v w := by
  have hin : (0 : Int) ≤ (i : Int) ∧ (i : Int) < (n : Int) := by omega
  obtain ⟨inf, hinf, hsz⟩ : ∃ inf, P.info? e = some inf ∧ inf.size = 1 := by
    have h := E.size
    cases hq : P.info? e with
    | none => simp [hq] at h
    | some x => exact ⟨x, rfl, by simpa [hq] using h⟩
  have hs : (Go.sizeOf e).run P w = .ok 1 w := by simp [Go.sizeOf, typeInfo, hinf, hsz]
  have hp : (part e cs.toArray i).run P w = .ok v w := by
    have hpl := E.plain
    unfold part
    cases hu : P.underlying e with
    | none => rw [hu] at hpl; simp at hpl
    | some d =>
      rw [hu] at hpl
      cases d <;> simp at hpl <;> simp [isAgg, run_underlying hu, hv]
  simp only [Instr.index, asIntOf, Sem.run_bind, Sem.run_pure, Result.andThen_ok, run_underlying ht, if_pos hin, hs, Int.toNat_natCast, Nat.mul_one, hp]

section
variable {P : Program} {w : World} {ops : Array Oper} {rest : List Oper} {o : Oper} {a : Act} {Q : Exit → Act → World → Prop} {t e : TypeId}
theorem wpList_index {n : Nat} (ht : P.underlying t = some (.array n e)) (E : Plain1 P e) (hg : o.guard = none) (x j : Operand) (hop : o.op = .index t x j) {cs : List Value} (hx : a.eval x = .agg cs.toArray) {k : IntKind} {I : Int} (hj : a.eval j = .int k I) (i : Nat) (hI : I = (i : Int)) (hi : i < n) {v : Value} (hv : cs[i]? = some v)
    (h : wpList P ops Q rest (a.put o.dst v) w) : wpList P ops Q (o :: rest) a w := by
  subst hI
  refine wpList_plain hg fun K hK => ?_
  unfold Oper.wp
  simp only [execOp, hop, hx, hj, Sem.run_bind, run_index_agg ht E cs k i hi v hv, Result.andThen_ok, Sem.run_pure]
  exact hK _ _ h
end
end Go.Proofs.Ytmiobgongddaiaa
