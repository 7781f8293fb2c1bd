/-  -/
import Derived.Test.YtcehkafddlfleaaGreatDoorRows
import Derived.Deep.RegionHeld3
import Derived.WalkMore
namespace Go.Proofs.YtcehkafddlfleaaGreatDoor
open Go
theorem sA.{u} {α : Type u} {l : List α} {i : Nat} {a : α} : l.toArray.setIfInBounds i a = (l.set i a).toArray := List.setIfInBounds_toArray _ _ _
theorem sB.{u} {α : Type u} {x : α} {l : List α} {a : α} : (x :: l).set 0 a = a :: l := List.set_cons_zero
theorem sC.{u} {α : Type u} {x : α} {l : List α} {n : Nat} {a : α} : (x :: l).set (n + 1) a = x :: l.set n a := List.set_cons_succ
section
variable {P : Program} {md : Region.Mode} {ops : Array Oper} {Q : Exit → Act → World → Prop} {S : World → Prop} {fuel : Nat} {listed : Array Bool} {a : Act} {w : World}
theorem wT (i n : Nat) (v : Value) {x1 x2 x3 x4 x5} (hi : ops[i]? = some ⟨some n, x1, x2, x3, x4, x5⟩) (h : wpAny P md ops Q fuel (listed.setIfInBounds i true) (a.put (some n) v) w) (hs : Region.noSelect ops = true := by kernel_rfl) (hf : Region.free md ops listed i = true := by kernel_rfl) (hr : (Region.ready md ops listed).contains i = true := by kernel_rfl)
  (hQ : ∀ c a w, Q (.panic c) (a.put (some n) v) w → Q (.panic c) a w := by exact fun _ _ _ h => h) (hy : Yields P ops ⟨some n, x1, x2, x3, x4, x5⟩ v a := by exact Or.inl ⟨by rfl, by intro w; go_simp; try rfl⟩) : wpAny P md ops Q (fuel + 1) listed a w := wpAny_take hi hs hf hr hQ hy h
theorem wU (i n : Nat) (v : Value) {x1 x2 x3 x4 x5} (hi : ops[i]? = some ⟨some n, x1, x2, x3, x4, x5⟩) (h : wpAnyH P md ops Q S fuel (listed.setIfInBounds i true) (a.put (some n) v) w) (hs : Region.noSelect ops = true := by kernel_rfl) (hf : Region.free md ops listed i = true := by kernel_rfl) (hr : (Region.ready md ops listed).contains i = true := by kernel_rfl)
  (hQ : ∀ c a w, Q (.panic c) (a.put (some n) v) w → Q (.panic c) a w := by exact fun _ _ _ h => h) (hy : YieldsIf P ops S ⟨some n, x1, x2, x3, x4, x5⟩ v a := by exact Or.inl ⟨by rfl, by intro w hSw; go_simp; try rfl⟩) (hS : S w := by assumption) : wpAnyH P md ops Q S (fuel + 1) listed a w := wpAnyH_take hi hs hf hr hQ hy hS h
theorem aR (n : Nat) {i : Nat} {x1 x2 x3 x4 x5} (ho : ops[i]? = some ⟨some n, x1, x2, x3, x4, x5⟩) (h : ∀ K' : Act → World → Prop, (∀ a w, wpAny P md ops Q fuel (listed.setIfInBounds i true) a w → K' a w) → if Region.wanted ⟨some n, x1, x2, x3, x4, x5⟩ (yielded ops a.tmps) = true then Oper.wp P ⟨some n, x1, x2, x3, x4, x5⟩ a w K' Q else K' (a.put (some n) undef) w) : AllReady P md ops Q fuel listed a w [i] := AllReady.cons ho h AllReady.nil
theorem aS (n m : Nat) {i j : Nat} {x1 x2 x3 x4 x5 y1 y2 y3 y4 y5} (ho : ops[i]? = some ⟨some n, x1, x2, x3, x4, x5⟩) (hp : ops[j]? = some ⟨some m, y1, y2, y3, y4, y5⟩) (h : ∀ K' : Act → World → Prop, (∀ a w, wpAny P md ops Q fuel (listed.setIfInBounds i true) a w → K' a w) → if Region.wanted ⟨some n, x1, x2, x3, x4, x5⟩ (yielded ops a.tmps) = true then Oper.wp P ⟨some n, x1, x2, x3, x4, x5⟩ a w K' Q else K' (a.put (some n) undef) w)
  (h2 : ∀ K' : Act → World → Prop, (∀ a w, wpAny P md ops Q fuel (listed.setIfInBounds j true) a w → K' a w) → if Region.wanted ⟨some m, y1, y2, y3, y4, y5⟩ (yielded ops a.tmps) = true then Oper.wp P ⟨some m, y1, y2, y3, y4, y5⟩ a w K' Q else K' (a.put (some m) undef) w) : AllReady P md ops Q fuel listed a w [i, j] := AllReady.cons ho h (AllReady.cons hp h2 AllReady.nil)
theorem aH (n : Nat) {i : Nat} {x1 x2 x3 x4 x5} (ho : ops[i]? = some ⟨some n, x1, x2, x3, x4, x5⟩) (h : ∀ K' : Act → World → Prop, Shut (∀ a w, S w → (S w → wpAnyH P md ops Q S fuel (listed.setIfInBounds i true) a w) → K' a w) → if Region.wanted ⟨some n, x1, x2, x3, x4, x5⟩ (yielded ops a.tmps) = true then Oper.wp P ⟨some n, x1, x2, x3, x4, x5⟩ a w K' Q else K' (a.put (some n) undef) w) : AllReadyH P md ops Q S fuel listed a w [i] := AllReadyH.cons ho h AllReadyH.nil
theorem rK (rs : List Nat) (h : AllReady P md ops Q fuel listed a w rs) (hr : Region.ready md ops listed = rs := by kernel_rfl) (hne : rs ≠ [] := by simp) : wpAny P md ops Q (fuel + 1) listed a w := wpAny_ready hr hne h
theorem rD (rs : List Nat) (h : AllReady P md ops Q fuel listed a w rs) (hr : Region.ready md ops listed = rs := by decide +kernel) (hne : rs ≠ [] := by simp) : wpAny P md ops Q (fuel + 1) listed a w := wpAny_ready hr hne h
theorem rH (rs : List Nat) (h : AllReadyH P md ops Q S fuel listed a w rs) (hr : Region.ready md ops listed = rs := by kernel_rfl) (hne : rs ≠ [] := by simp) : wpAnyH P md ops Q S (fuel + 1) listed a w := wpAnyH_ready hr hne h
end
end Go.Proofs.YtcehkafddlfleaaGreatDoor
