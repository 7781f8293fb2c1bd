/- A region that draws its order, within a round of a range over a function, walked as anywhere. No program is named here. -/
import Derived.Test.YtaedlaeflliibaaInRound
namespace Go.Proofs.Ytaedlaeflliibaa
open Go.RowKit

section
variable {P : Program} {ops : Array Oper} {Q : Exit → Act → World → Prop} {n : Nat}
theorem ops_inRound (r : Nat) (hno : ¬ LetsOut Q) (hd : ∀ (i : Nat) (o : Oper), ops[i]? = some o → ∀ c, o.op ≠ .defer c) : ∀ (sched : List Nat) (a : Act) (w : World), wpOps P ops Q sched a w → wpOpsIn (Fence.wide.inRound r) n P ops Q sched a w
  | [], _, _, h => h
  | i :: rest, a, w, h => by
    unfold wpOps at h
    unfold wpOpsIn
    cases ho : ops[i]? with
    | none =>
      simp only [ho] at h ⊢
      exact ops_inRound r hno hd rest a w h
    | some o =>
      simp only [ho] at h ⊢
      by_cases hw : Region.wanted o (yielded ops a.tmps) = true
      · rw [if_pos hw] at h ⊢
        rcases h with h | ⟨_, h⟩
        · exact op_inRound r (hd i o ho) (Oper.wp_mono (fun a w h => ops_inRound r hno hd rest a w h) h)
        · exact absurd h hno
      · rw [if_neg hw] at h ⊢
        exact ⟨fun f _ => trivial, ops_inRound r hno hd rest _ _ h⟩
theorem region_inRound {id : Nat} {a : Act} {w : World} (r : Nat) (hno : ¬ LetsOut Q) (hd : (ops.all fun o => match o.op with | .defer _ => false | _ => true) = true) (hm : P.follows .mixedOrders = true)
    (h : wpAny P .any ops Q ops.size (Array.replicate ops.size false) a w.drew) : (Code.region id ops true).wpIn (Fence.wide.inRound r) n P Q a w := by
  refine wpIn_region_draw fun t => ?_
  simp only [Region.schedule, hm, Bool.true_or, if_true]
  refine ops_inRound r hno (fun i o ho c e => ?_) _ _ _ (wpAny_sound ops.size t _ a _ h)
  have h1 := Array.all_eq_true.1 hd i (Array.getElem?_eq_some_iff.1 ho).1
  rw [(Array.getElem?_eq_some_iff.1 ho).2, e] at h1
  cases h1
end
end Go.Proofs.Ytaedlaeflliibaa
