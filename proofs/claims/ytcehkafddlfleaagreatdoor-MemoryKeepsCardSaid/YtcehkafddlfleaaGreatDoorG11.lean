/-  -/
import Derived.Test.YtcehkafddlfleaaGreatDoorG04
import Derived.Test.YtcehkafddlfleaaGreatDoorG05
namespace Go.Proofs.YtcehkafddlfleaaGreatDoor
open Go.RowKit
section
variable {P : Program} {w w' : World} {t e : TypeId} {z : Value} {bytes : Nat} {g : Nat} {C : Array Value} {fr : Nat × Nat}
theorem mark_heap (hh : w.heap[g]? = some (.cells C e fr)) (k : Nat) : ∃ fr2, (w.freeze ⟨g, k, none⟩ 1).heap[g]? = some (.cells C e fr2) ∧ Only g w (w.freeze ⟨g, k, none⟩ 1) := by
 obtain ⟨lo, hi⟩ := fr
 refine ⟨if lo == hi then (k, k + 1) else (min lo k, max hi (k + 1)), ?_, ?_, ?_, ?_, ?_, ?_⟩
 ·unfold World.freeze
  rw [if_neg (by decide)]
  show (w.heap.modify g _)[g]? = _
  rw [Array.getElem?_modify, if_pos rfl, hh]
  rfl
 all_goals unfold World.freeze; rw [if_neg (by decide)]
 ·simp
 ·intro k2 hk
  show (w.heap.modify g _)[k2]? = _
  rw [Array.getElem?_modify, if_neg (fun e => hk e.symm)]
theorem run_mark (E : El P t e z bytes) (he : P.underlying e = some (.int .u8)) (hh : w.heap[g]? = some (.cells C e fr)) (n c : Nat) :
  ∃ w' fr2, (convert t t (.slice (some ⟨g, 0, none⟩) n c)).run P w = .ok (.slice (some ⟨g, 0, none⟩) n c) w' ∧ w'.heap[g]? = some (.cells C e fr2) ∧ Only g w w' := by
 have hsh : w.shape? g = some (e, C.size) := by unfold World.shape?; rw [hh]
 obtain ⟨fr2, h1, h2⟩ := mark_heap hh C.size
 refine ⟨_, fr2, ?_, h1, h2⟩
 simp [convert, run_underlying E.ty, run_underlying he, markStringish, hsh]
theorem same_cells (hh : w.heap[g]? = some (.cells C e fr)) {fr2 : Nat × Nat} (hh2 : w'.heap[g]? = some (.cells C e fr2)) (ho : Only g w w') : ∀ p : Addr, w'.cell? p = w.cell? p := by
 intro p
 by_cases hp : p.block = g
 ·obtain ⟨b, o, s⟩ := p
  simp only at hp
  subst hp
  simp only [World.cell?, hh, hh2]
 ·exact World.cell?_of_block (w := w) (ho.block _ hp)
theorem step_mark {ops : Array Oper} {o : Oper} {a : Act} {Q : Exit → Act → World → Prop} {K : Act → World → Prop} {C0 : Prop} (E : El P t e z bytes) (he : P.underlying e = some (.int .u8)) (hgd : o.guard = none) (x : Operand) (hop : o.op = .convert t t x) {n c : Nat} (hx : a.eval x = .slice (some ⟨g, 0, none⟩) n c) (hh : w.heap[g]? = some (.cells C e fr))
  (h : ∀ w' fr2, w'.heap[g]? = some (.cells C e fr2) → Only g w w' → (∀ p : Addr, w'.cell? p = w.cell? p) → K (a.put o.dst (.slice (some ⟨g, 0, none⟩) n c)) w') :
  if Region.wanted o (yielded ops a.tmps) = true then Oper.wp P o a w K Q else C0 := by
 have hw : Region.wanted o (yielded ops a.tmps) = true := by simp [Region.wanted, hgd]
 rw [if_pos hw]
 obtain ⟨w', fr2, hrun, h1, h2⟩ := run_mark E he hh n c
 unfold Oper.wp
 simp only [execOp, hop, hx, Sem.run_bind, hrun, Result.andThen_ok, Sem.run_pure]
 exact h w' fr2 h1 h2 (same_cells hh h1 h2)
theorem raw_below {B : Nat} (hh : w.heap[g]? = some (.cells C e fr)) (hb : Below B w w') (hB : w.heap.size ≤ B) : w'.heap[g]? = some (.cells C e fr) :=
 (hb.block g (Nat.lt_of_lt_of_le (Array.getElem?_eq_some_iff.1 hh).1 hB)).trans hh
theorem raw_bs (hh : w.heap[g]? = some (.cells C e fr)) (l : List UInt8) (hC : C = (cells8 l).toArray) (n : Nat) (hn : l.length = n) (hm : n ≤ maxLen) : Bs w w.heap.size (some ⟨g, 0, none⟩) n n l := by
 subst hC
 refine ⟨hn, Nat.le_refl _, hm, (fun h => by cases h), fun _ => ⟨g, 0, rfl, (Array.getElem?_eq_some_iff.1 hh).1, fun j hj => ?_⟩⟩
 rw [cell_of_row _ _ _ _ _ _ hh]
 simpa using cells8_at l j hj
end
end Go.Proofs.YtcehkafddlfleaaGreatDoor
