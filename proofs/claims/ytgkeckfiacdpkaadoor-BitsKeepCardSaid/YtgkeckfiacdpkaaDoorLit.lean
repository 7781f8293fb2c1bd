/- Bytes of a constant text, as the walk meets them: the row is laid, and marked. No program is named here. -/
import Derived.Test.YtgkeckfiacdpkaaDoorLaws
import Derived.Lib.SlBytesConst
namespace Go.Proofs.YtgkeckfiacdpkaaDoor
open Go.RowKit

/-- bytes that have just been laid, marked or not -/
theorem lit_bs (w : World) (t : TypeId) (fr : Nat × Nat) (l : List UInt8) (C : Array Value) (hC : C = (cells8 l).toArray) (n : Nat) (hn : l.length = n) (hm : n ≤ maxLen) : Bs (w.alloc (.cells C t fr)) (w.heap.size + 1) (some ⟨w.heap.size, 0, none⟩) n n l := by
  subst hC
  refine ⟨hn, Nat.le_refl _, hm, (fun h => by cases h), fun _ => ⟨w.heap.size, 0, rfl, by omega, fun j hj => ?_⟩⟩
  have hb : (w.alloc (.cells (cells8 l).toArray t fr)).heap[w.heap.size]? = some (.cells (cells8 l).toArray t fr) := by
    show (w.heap.push _)[w.heap.size]? = _
    simp
  rw [cell_of_row _ _ _ _ _ _ hb]
  simpa using cells8_at l j hj
section
variable {P : Program} {w : World} {ops : Array Oper} {rest : List Oper} {o : Oper} {a : Act} {Q : Exit → Act → World → Prop} {t e : TypeId} {z : Value} {bytes : Nat}
theorem wpList_lit (E : El P t e z bytes) (he : P.underlying e = some (.int .u8)) (hg : Region.wanted o (yielded ops a.tmps) = true) (x : Operand) (hop : o.op = .convert t t x) {C : Array Value} (l : List UInt8) (hC : C = (cells8 l).toArray) (n : Nat) (hn : l.length = n) (hm : n ≤ maxLen) (hx : a.eval x = .slice (some ⟨w.heap.size, 0, none⟩) n n)
    (h : ∀ w', Bs w' w'.heap.size (some ⟨w.heap.size, 0, none⟩) n n l → Below w.heap.size w w' → wpList P ops Q rest (a.put o.dst (.slice (some ⟨w.heap.size, 0, none⟩) n n)) w') :
    wpList P ops Q (o :: rest) a (w.alloc (.cells C e)) := by
  refine wpList_step fun K hK => ?_
  rw [if_pos hg]
  have hrun := Lib.run_convert_bytes_const (P := P) w t e C n n E.ty he
  have hty : o.op = .convert t t x := hop
  unfold Oper.wp
  simp only [execOp, hty, hx, Sem.run_bind, hrun, Result.andThen_ok, Sem.run_pure]
  refine hK _ _ (h _ ((lit_bs w e (C.size, C.size + 1) l C hC n hn hm).more (by simp)) ((Below.refl _ _).alloc (Nat.le_refl _) _))
end
end Go.Proofs.YtgkeckfiacdpkaaDoor
