/- What is found, put, dropped, over lists; rows of entries as a call lays them: one, two or three behind one another. -/
import Derived.Test.YtaedlaeflliibaaEnB
import Derived.Test.YtaedlaeflliibaaEnG
import Derived.Deep.RegionHeld3
import Derived.Great.BuildSlice
namespace Go.Proofs.Ytaedlaeflliibaa
open Go.RowKit Go.Deep

def findE (l : List En) (n : List UInt8) : Int × Bool := if hasE l n then ((l.getD (idxE l n) ([], 0)).2, true) else (0, false)
def putE (l : List En) (x : En) : List En := l.take (aboveE l x.1) ++ ([x] ++ l.drop (aboveE l x.1))
def dropE (l : List En) (n : List UInt8) : List En := l.take (idxE l n) ++ l.drop (idxE l n + 1)
def putC (l : List En) (x : En) : Int := if okNm x.1 then (if hasE l x.1 then 13 else 0) else 11
def putR (l : List En) (x : En) : List En := if okNm x.1 then (if hasE l x.1 then [] else putE l x) else []
theorem aboveE_le (l : List En) (n : List UInt8) : aboveE l n ≤ l.length := List.findIdx_le_length
theorem idxE_le (l : List En) (n : List UInt8) : idxE l n ≤ l.length := List.findIdx_le_length
theorem dropE_none {l : List En} {n : List UInt8} (h : hasE l n = false) : dropE l n = l := by
  have h1 : ¬ idxE l n < l.length := fun h2 => by rw [idxE_lt.1 h2] at h; cases h
  have h2 : idxE l n = l.length := by have := idxE_le l n; omega
  unfold dropE
  rw [h2, List.take_of_length_le (Nat.le_refl _), List.drop_of_length_le (by omega), List.append_nil]
section
variable {P : Program} {ops : Array Oper} {a : Act}
variable {S : World → Prop} {op : Oper} {t e : TypeId} {i : TypeInfo}
theorem elem_of (hty : P.underlying t = some (.slice e)) : P.elem t = e := by
  unfold Program.elem
  simp [hty]
theorem size_two (hi : P.info? e = some i) (hs : i.size = 2) (u : World) : (sizeOf e).run P u = .ok 2 u := by
  simp [Go.sizeOf, typeInfo, hi, hs]
/-- x[lo:] of things of two cells -/
theorem yieldsIf_cut2_l (hw : Region.wanted op (yielded ops a.tmps) = true) (hty : P.underlying t = some (.slice e)) (hi : P.info? e = some i) (hs : i.size = 2) (x lo : Operand) (ho : op.op = .slice t x (some lo) none none)
    {A : Option Addr} {n c : Nat} (hx : a.eval x = .slice A n c) {k : IntKind} {I : Int} (hlo : a.eval lo = .int k I) (r : Nat) (hI : I = r) (hr : r ≤ n) {A' : Option Addr} {n' c' : Nat} (hA' : (if c = r then A else A.map (·.add (r * 2))) = A') (hn' : n - r = n') (hc' : c - r = c') : YieldsIf P ops S op (.slice A' n' c') a := by
  subst hI hA' hn' hc'
  refine .inl ⟨hw, fun w _ => ?_⟩
  have ht' : P.underlying t = some (.slice (P.elem t)) := by rw [elem_of hty]; exact hty
  have hrun := run_slice_l (P := P) (w := w) t A n c ht' k (r : Int) (by omega) (by omega)
  rw [elem_of hty, size_two hi hs] at hrun
  unfold execOp
  simp [ho, hx, hlo, run_sliceAt_slice (P := P) (w := w) t _ _ _ _ ht', hrun, Result.andThen, sliced]
/-- x[:hi] of things of two cells -/
theorem yieldsIf_cut2_h (hw : Region.wanted op (yielded ops a.tmps) = true) (hty : P.underlying t = some (.slice e)) (hi : P.info? e = some i) (hs : i.size = 2) (x hh : Operand) (ho : op.op = .slice t x none (some hh) none)
    {A : Option Addr} {n c : Nat} (hx : a.eval x = .slice A n c) {k : IntKind} {I : Int} (hhi : a.eval hh = .int k I) (r : Nat) (hI : I = r) (hr : r ≤ c) : YieldsIf P ops S op (.slice A r c) a := by
  subst hI
  refine .inl ⟨hw, fun w _ => ?_⟩
  have ht' : P.underlying t = some (.slice (P.elem t)) := by rw [elem_of hty]; exact hty
  have hrun := run_slice_h (P := P) (w := w) t A n c ht' k (r : Int) (by omega) (by omega)
  rw [elem_of hty, size_two hi hs] at hrun
  unfold execOp
  simp [ho, hx, hhi, run_sliceAt_slice (P := P) (w := w) t _ _ _ _ ht', hrun, Result.andThen, sliced]
  try (cases A <;> simp [Addr.add])
end
section
variable {w : World} {B : Nat} {A : Option Addr} {n c : Nat} {l m k : List En}
theorem ens_one (w : World) (t : TypeId) (x : En) (hx : EnOk x) : Ens (w.alloc (.cells (enOne x).toArray t)) (w.alloc (.cells (enOne x).toArray t)).heap.size (some ⟨w.heap.size, 0, none⟩) 1 1 [x] := by
  have hk := Blk.new w t (enOne x)
  refine ⟨rfl, Nat.le_refl _, by simp [maxLen], (fun h => by cases h), fun y hy => ?_, fun _ => ⟨w.heap.size, 0, rfl, by simp, fun j hj => ?_⟩⟩
  · simp at hy; rw [hy]; exact hx
  · obtain rfl : j = 0 := by simp at hj; omega
    exact ⟨hk.cell? 0, hk.cell? 1⟩
theorem run_buildEn (w : World) (x : En) : (Instr.buildSlice 22 1 #[(0, .agg (enOne x).toArray)]).run Try.prog w = .ok (.slice (some ⟨w.heap.size, 0, none⟩) 1 1) (w.alloc (.cells (enOne x).toArray 39)) := by
  simp only [enOne]
  go_simp
section
variable {ops : Array Oper} {o : Oper} {a : Act} {Q : Exit → Act → World → Prop} {rest : List Oper}
theorem step_buildEn {K : Act → World → Prop} {C : Prop} (hgd : o.guard = none) (y : Operand) (hop : o.op = .buildSlice 22 1 #[(0, y)]) (x : En) (hx : a.eval y = .agg (enOne x).toArray)
    (h : K (a.put o.dst (.slice (some ⟨w.heap.size, 0, none⟩) 1 1)) (w.alloc (.cells (enOne x).toArray 39))) : if Region.wanted o (yielded ops a.tmps) = true then Oper.wp Try.prog o a w K Q else C := by
  have hw : Region.wanted o (yielded ops a.tmps) = true := by simp [Region.wanted, hgd]
  rw [if_pos hw]
  unfold Oper.wp execOp
  simp only [hop, Sem.run_bind, List.map_toArray, List.map_cons, List.map_nil, hx, run_buildEn w x, Result.andThen_ok, Sem.run_pure]
  exact h
theorem wpList_buildEn (hgd : o.guard = none) (y : Operand) (hop : o.op = .buildSlice 22 1 #[(0, y)]) (x : En) (hx : a.eval y = .agg (enOne x).toArray)
    (h : wpList Try.prog ops Q rest (a.put o.dst (.slice (some ⟨w.heap.size, 0, none⟩) 1 1)) (w.alloc (.cells (enOne x).toArray 39))) : wpList Try.prog ops Q (o :: rest) a w := by
  refine wpList_plain hgd fun K hK => ?_
  unfold Oper.wp execOp
  simp only [hop, Sem.run_bind, List.map_toArray, List.map_cons, List.map_nil, hx, run_buildEn w x, Result.andThen_ok, Sem.run_pure]
  exact hK _ _ h
end
theorem enss_two (w : World) (t : TypeId) {A1 A2 : Option Addr} {n1 c1 n2 c2 : Nat} (h1 : Ens w w.heap.size A1 n1 c1 l) (h2 : Ens w w.heap.size A2 n2 c2 m) :
    Enss (w.alloc (.cells #[.slice A1 n1 c1, .slice A2 n2 c2] t)) (w.alloc (.cells #[.slice A1 n1 c1, .slice A2 n2 c2] t)).heap.size (some ⟨w.heap.size, 0, none⟩) 2 2 [l, m] := by
  have hk := Blk.new w t [.slice A1 n1 c1, .slice A2 n2 c2]
  have hb : Below w.heap.size w (w.alloc (.cells #[.slice A1 n1 c1, .slice A2 n2 c2] t)) := (Below.refl _ _).alloc (Nat.le_refl _) _
  refine ⟨rfl, Nat.le_refl _, by simp [maxLen], (fun h => by cases h), fun _ => ⟨w.heap.size, 0, rfl, by simp, fun j hj => ?_⟩⟩
  rcases (by simp at hj; omega : j = 0 ∨ j = 1) with rfl | rfl
  · exact ⟨_, _, _, hk.cell? 0, (h1.below hb).more (by simp)⟩
  · exact ⟨_, _, _, hk.cell? 1, (h2.below hb).more (by simp)⟩
theorem enss_three (w : World) (t : TypeId) {A1 A2 A3 : Option Addr} {n1 c1 n2 c2 n3 c3 : Nat} (h1 : Ens w w.heap.size A1 n1 c1 l) (h2 : Ens w w.heap.size A2 n2 c2 m) (h3 : Ens w w.heap.size A3 n3 c3 k) :
    Enss (w.alloc (.cells #[.slice A1 n1 c1, .slice A2 n2 c2, .slice A3 n3 c3] t)) (w.alloc (.cells #[.slice A1 n1 c1, .slice A2 n2 c2, .slice A3 n3 c3] t)).heap.size (some ⟨w.heap.size, 0, none⟩) 3 3 [l, m, k] := by
  have hk := Blk.new w t [.slice A1 n1 c1, .slice A2 n2 c2, .slice A3 n3 c3]
  have hb : Below w.heap.size w (w.alloc (.cells #[.slice A1 n1 c1, .slice A2 n2 c2, .slice A3 n3 c3] t)) := (Below.refl _ _).alloc (Nat.le_refl _) _
  refine ⟨rfl, Nat.le_refl _, by simp [maxLen], (fun h => by cases h), fun _ => ⟨w.heap.size, 0, rfl, by simp, fun j hj => ?_⟩⟩
  rcases (by simp at hj; omega : j = 0 ∨ j = 1 ∨ j = 2) with rfl | rfl | rfl
  · exact ⟨_, _, _, hk.cell? 0, (h1.below hb).more (by simp)⟩
  · exact ⟨_, _, _, hk.cell? 1, (h2.below hb).more (by simp)⟩
  · exact ⟨_, _, _, hk.cell? 2, (h3.below hb).more (by simp)⟩
/-- all from k on: where they lie -/
def fromA (A : Option Addr) (c k : Nat) : Option Addr := if c = k then A else A.map (·.add (k * 2))
theorem Ens.tail (h : Ens w B A n c l) {k : Nat} (hk : k ≤ n) : Ens w B (fromA A c k) (n - k) (c - k) (l.drop k) := by
  have hl := h.len
  have hcap := h.cap
  refine ⟨by simp; omega, by omega, by have := h.max; omega, fun h0 => ?_, fun x hx => h.ok x (List.mem_of_mem_drop hx), fun h0 => ?_⟩
  · unfold fromA at h0
    split at h0
    · omega
    · have : A = none := by simpa using h0
      have := h.nil this; omega
  · obtain ⟨b1, o1, rfl, hb, hc⟩ := h.cells (by omega)
    have hck : ¬ c = k := by omega
    refine ⟨b1, o1 + k * 2, ?_, hb, fun j hj => ?_⟩
    · unfold fromA
      rw [if_neg hck, Option.map_some, Addr.add_lit]
    · obtain ⟨h1, h2⟩ := hc (k + j) (by simp at hj; omega)
      rw [List.getElem_drop, show o1 + k * 2 + j * 2 = o1 + (k + j) * 2 by omega]
      exact ⟨h1, h2⟩
end
end Go.Proofs.Ytaedlaeflliibaa
