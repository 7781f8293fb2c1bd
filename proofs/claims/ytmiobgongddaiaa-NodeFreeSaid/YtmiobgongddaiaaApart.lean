/- Byte slices and lists of them that lie apart from one block, which is written meanwhile. No program is named here. -/
import Derived.Test.YtmiobgongddaiaaLists
import Derived.Test.YtmiobgongddaiaaArr
namespace Go.Proofs.Ytmiobgongddaiaa
open Go.RowKit

/-- a block of bytes that has just been laid -/
theorem Bs.laid (w : World) (t : TypeId) (l : List UInt8) (hm : l.length ≤ maxLen) : Bs (w.alloc (.cells (cells8 l).toArray t)) (w.heap.size + 1) (some ⟨w.heap.size, 0, none⟩) l.length l.length l := by
  refine ⟨rfl, Nat.le_refl _, hm, (fun h => by cases h), fun _ => ⟨w.heap.size, 0, rfl, by omega, fun j hj => ?_⟩⟩
  rw [World.cell?_alloc_at _ _ _ _ rfl]
  have := cells8_at l j hj
  simpa using this
/-- A slice reads as the bytes l, and none of its cells lies in block g. -/
structure BsA (w : World) (g : Nat) (A : Option Addr) (n c : Nat) (l : List UInt8) : Prop where
  bs : Bs w w.heap.size A n c l
  apart : ∀ ad, A = some ad → 0 < n → ad.block ≠ g
/-- A slice reads as the lists ls of bytes, and none of the cells lies in block g. -/
structure LsA (w : World) (g : Nat) (A : Option Addr) (n c : Nat) (ls : List (List UInt8)) : Prop where
  len : ls.length = n
  cap : n ≤ c
  max : c ≤ maxLen
  cells : 0 < n → ∃ b o, A = some ⟨b, o, none⟩ ∧ b < w.heap.size ∧ b ≠ g ∧ ∀ j (h : j < ls.length), ∃ A' n' c', w.cell? ⟨b, o + j, none⟩ = some (.slice A' n' c') ∧ BsA w g A' n' c' ls[j]
section
variable {w w' : World} {B : Nat} {g : Nat} {A : Option Addr} {n c : Nat} {l : List UInt8} {ls : List (List UInt8)}
theorem BsA.of_bs (h : Bs w B A n c l) (hB : B ≤ g) (hw : B ≤ w.heap.size) : BsA w g A n c l :=
  ⟨h.more hw, fun ad hA h0 => by
    obtain ⟨b, o, hA', hb, _⟩ := h.cells h0
    rw [hA] at hA'
    obtain rfl := Option.some.inj hA'
    simp; omega⟩
theorem BsA.of_own {base : Nat} {e : TypeId} {v : Value} (h : w.ownsRow base e 1 v n (cells8 l)) (hg : g < base) : ∃ A c, v = .slice A n c ∧ BsA w g A n c l := by
  obtain ⟨A, c, rfl, hb⟩ := Bs.of_own h
  obtain ⟨A', c', e1, _, _, _, hs⟩ := own_form h
  injection e1 with e2 _ e3
  subst e2
  subst e3
  exact ⟨A, c, rfl, hb, fun ad hA _ => by
    obtain ⟨k, rfl, hk, _⟩ := hs ad hA
    simp; omega⟩
theorem BsA.grown (h : BsA w g A n c l) (hg : w.grownBy w' (some g)) : BsA w' g A n c l :=
  ⟨(h.bs.grown (w' := w') (g := some g) (fun k hk hlt => hg.block k hlt (fun e => hk (by rw [e]))) (fun ad hA h0 e => h.apart ad hA h0 (Option.some.inj e).symm)).more hg.size, h.apart⟩
theorem LsA.le (h : LsA w g A n c ls) : n ≤ 9223372036854775807 := by have := h.cap; have := h.max; simp only [maxLen] at this; omega
theorem LsA.grown (h : LsA w g A n c ls) (hg : w.grownBy w' (some g)) : LsA w' g A n c ls :=
  ⟨h.len, h.cap, h.max, fun h0 => by
    obtain ⟨b, o, hA, hb, hne, hc⟩ := h.cells h0
    refine ⟨b, o, hA, Nat.lt_of_lt_of_le hb hg.size, hne, fun j hj => ?_⟩
    obtain ⟨A', n', c', h1, h2⟩ := hc j hj
    refine ⟨A', n', c', ?_, h2.grown hg⟩
    rw [← h1]
    exact World.cell?_of_block (w := w) (hg.block b hb (fun e => hne (Option.some.inj e)))⟩
theorem LsA.at (h : LsA w g A n c ls) {i : Nat} (hi : i < n) : ∃ b o A' n' c', A = some ⟨b, o, none⟩ ∧ b < w.heap.size ∧ w.cell? ⟨b, o + i, none⟩ = some (.slice A' n' c') ∧ BsA w g A' n' c' (ls[i]'(by have := h.len; omega)) := by
  obtain ⟨b, o, hA, hb, _, hc⟩ := h.cells (by omega)
  obtain ⟨A', n', c', h1, h2⟩ := hc i (by have := h.len; omega)
  exact ⟨b, o, A', n', c', hA, hb, h1, h2⟩
theorem LsA.of_ls (h : Ls w B A n c ls) (hB : B ≤ g) (hw : B ≤ w.heap.size) : LsA w g A n c ls :=
  ⟨h.len, h.cap, h.max, fun h0 => by
    obtain ⟨b, o, hA, hb, hc⟩ := h.cells h0
    refine ⟨b, o, hA, by omega, by omega, fun j hj => ?_⟩
    obtain ⟨A', n', c', h1, h2⟩ := hc j hj
    exact ⟨A', n', c', h1, BsA.of_bs h2 hB hw⟩⟩
/-- one slice, laid in a block of its own, is a list of one -/
theorem LsA.one (t : TypeId) (h : BsA w g A n c l) (hg : g < w.heap.size) : LsA (w.alloc (.cells #[.slice A n c] t)) g (some ⟨w.heap.size, 0, none⟩) 1 1 [l] := by
  refine ⟨rfl, Nat.le_refl _, by simp [maxLen], fun _ => ⟨w.heap.size, 0, rfl, by simp, by omega, fun j hj => ?_⟩⟩
  obtain rfl : j = 0 := by simp at hj; omega
  refine ⟨A, n, c, ?_, ⟨(h.bs.alloc (Nat.le_refl _) _).more (by simp), h.apart⟩⟩
  rw [World.cell?_alloc_at _ _ _ _ rfl]; rfl
theorem grown_below {w' : World} (hb : Below w.heap.size w w') (row : Option Nat) : w.grownBy w' row := ⟨hb.os, hb.tape, hb.output, hb.size, fun k hk _ => hb.block k hk⟩
theorem grown_only (h : Only g w w') : w.grownBy w' (some g) := ⟨h.os, h.tape, h.output, by rw [h.size]; exact Nat.le_refl _, fun k _ hne => h.block k (fun e => hne (by rw [e]))⟩
theorem grown_trans {w2 : World} {row : Option Nat} (h : w.grownBy w' row) (h2 : w'.grownBy w2 row) : w.grownBy w2 row :=
  ⟨h2.os.trans h.os, h2.tape.trans h.tape, h2.output.trans h.output, Nat.le_trans h.size h2.size, fun k hk hne => (h2.block k (Nat.lt_of_lt_of_le hk h.size) hne).trans (h.block k hk hne)⟩
theorem grown_refl (w : World) (row : Option Nat) : w.grownBy w row := ⟨rfl, rfl, rfl, Nat.le_refl _, fun _ _ _ => rfl⟩
theorem grown_drew (w : World) (row : Option Nat) : w.grownBy w.drew row := ⟨rfl, rfl, rfl, Nat.le_refl _, fun _ _ _ => rfl⟩
theorem grown_set (w : World) (g i : Nat) (v : Value) : w.grownBy (w.setCell ⟨g, i, none⟩ v) (some g) := grown_only (Only.setCell w ⟨g, i, none⟩ v)
theorem below_grown {w' : World} (h : w.grownBy w' (some g)) (hB : B ≤ g) (hw : B ≤ w.heap.size) : Below B w w' := ⟨h.os, h.tape, h.output, h.size, fun k hk => h.block k (by omega) (fun e => by have := Option.some.inj e; omega)⟩
theorem own_grown {base n : Nat} {e : TypeId} {v : Value} {xs : List Value} (h : w.ownsRow base e 1 v n xs) (hg : w.grownBy w' (some g)) (hb : g < base) : w'.ownsRow base e 1 v n xs := by
  refine ⟨h.1, ?_⟩
  rcases h.2 with h1 | ⟨k, cap, cur, h1, hk, hh, hr⟩
  · exact .inl h1
  · exact .inr ⟨k, cap, cur, h1, hk, (hg.block k (Array.getElem?_eq_some_iff.1 hh).1 (fun e => by have := Option.some.inj e; omega)).trans hh, hr⟩
theorem Blk.grown {k : Nat} {t : TypeId} {cs : List Value} (h : Blk w k t cs) (hg : w.grownBy w' (some g)) (hk : k ≠ g) : Blk w' k t cs := ⟨(hg.block k h.lt (fun e => hk (Option.some.inj e))).trans h.heap⟩
end
section
variable {P : Program} {w : World} {ops : Array Oper} {rest : List Oper} {o : Oper} {a : Act} {Q : Exit → Act → World → Prop} {t e : TypeId} {z : Value} {bytes : Nat}
/-- x[i:] of bytes that lie apart -/
theorem wpList_cut_lA (E : El P t e z bytes) (hg : o.guard = none) (x lo : Operand) (hop : o.op = Op.slice t x (some lo) none none)
    {g : Nat} {A : Option Addr} {n c : Nat} {l : List UInt8} (hx : a.eval x = .slice A n c) (hb : BsA w g A n c l) (k : IntKind) (I : Int) (i : Nat) (hlo : a.eval lo = .int k I) (hI : I = i) (hi : i ≤ n)
    (h : ∀ A' d, BsA w g A' (n - i) d (l.drop i) → wpList P ops Q rest (a.put o.dst (.slice A' (n - i) d)) w) : wpList P ops Q (o :: rest) a w := by
  subst hI
  refine wpList_plain hg fun K hK => ?_
  have hrun := run_slice_l (P := P) (w := w) t A n c E.ty' k (i : Int) (by omega) (by omega)
  rw [E.sizeOf] at hrun
  have h2 := hb.bs.cut (i := i) (k := n) hi (Nat.le_refl _)
  rw [List.take_of_length_le (by rw [hb.bs.len]; exact Nat.le_refl _)] at h2
  unfold Oper.wp
  simp [execOp, hop, hx, hlo, run_sliceAt_slice (P := P) (w := w) t _ _ _ _ E.ty', hrun, Result.andThen, sliced]
  refine hK _ _ (h _ _ ⟨h2, fun ad hA h0 => ?_⟩)
  have hc := hb.bs.cap
  rw [if_neg (by omega)] at hA
  cases A with
  | none => simp at hA
  | some ad0 =>
    simp at hA
    have := hb.apart ad0 rfl (by omega)
    rw [← hA]
    unfold Addr.add
    split <;> exact this
end
end Go.Proofs.Ytmiobgongddaiaa
