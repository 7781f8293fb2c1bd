/- Digests told apart, and the sums of nothing, of one piece, of two. -/
import Derived.Test.YtjllfaeamjadcaaHash
import Derived.Test.YtjllfaeamjadcaaEqArr
namespace Go.Proofs.Ytjllfaeamjadcaa
open Go.RowKit

theorem eqDig : EqB Try.prog 23 5 32 := ⟨by kernel_rfl, by kernel_rfl, by kernel_rfl⟩
theorem shaL_length (l : List UInt8) : (shaL l).length = 32 := by unfold shaL; rw [digestL_length]
/-- a digest is the same as itself -/
theorem eql_self (D : List UInt8) (hD : D.length = 32) (W : World) : (Op.equalIn 10000 23 (.agg (cells8 D).toArray) (.agg (cells8 D).toArray)).run Try.prog W = .ok true W :=
  (run_equalIn_bytes eqDig W D D hD hD).trans (by rw [beq_self_eq_true])
theorem Ls.next {w0 w1 : World} {B : Nat} {A : Option Addr} {n c : Nat} {ls : List (List UInt8)} (h : Ls w0 B A n c ls) (hb : Below w0.heap.size w0 w1) (hB : B ≤ w0.heap.size) : Ls w1 w1.heap.size A n c ls :=
  (h.below (hb.mono hB)).more (Nat.le_trans hB hb.size)

theorem sumf0 (W : World) :
    Calls Try.prog 40 #[.slice none 0 0] W fun e w' => e = .returned (.agg (cells8 (shaL [])).toArray) ∧ Below W.heap.size W w' :=
  sumf_any none 0 0 [] W (Ls.zero W _) (by simp)
theorem sumf1 (A : Option Addr) (n c : Nat) (la : List UInt8) (W : World) (t : TypeId) (ha : Bs W W.heap.size A n c la) (hn : la.length ≤ 524288) :
    Calls Try.prog 40 #[.slice (some ⟨W.heap.size, 0, none⟩) 1 1] (W.alloc (.cells #[.slice A n c] t)) fun e w' => e = .returned (.agg (cells8 (shaL la)).toArray) ∧ Below W.heap.size W w' := by
  refine (sumf_any _ 1 1 [la] _ ((Ls.one t ha).more (by simp)) (by simpa using hn)).mono ?_
  rintro e w' ⟨rfl, hb⟩
  have e1 : [la].flatten = la := by simp
  rw [e1]
  exact ⟨rfl, ((Below.refl _ _).alloc (Nat.le_refl _) _).trans (hb.mono (by simp))⟩
theorem Ls.one' {W : World} {A : Option Addr} {n c : Nat} {l : List UInt8} (t : TypeId) (h : Bs (W.alloc (.cells #[.slice A n c] t)) (W.alloc (.cells #[.slice A n c] t)).heap.size A n c l) : Ls (W.alloc (.cells #[.slice A n c] t)) (W.alloc (.cells #[.slice A n c] t)).heap.size (some ⟨W.heap.size, 0, none⟩) 1 1 [l] := by
  refine ⟨rfl, Nat.le_refl _, by simp [maxLen], (fun h => by cases h), fun _ => ⟨W.heap.size, 0, rfl, by simp, fun j hj => ?_⟩⟩
  obtain rfl : j = 0 := by simp at hj; omega
  refine ⟨A, n, c, ?_, h⟩
  rw [World.cell?_alloc_at _ _ _ _ rfl]; rfl
theorem sumf1' (A : Option Addr) (n c : Nat) (la : List UInt8) (W : World) (t : TypeId) (ha : Bs (W.alloc (.cells #[.slice A n c] t)) (W.alloc (.cells #[.slice A n c] t)).heap.size A n c la) (hn : la.length ≤ 524288) :
    Calls Try.prog 40 #[.slice (some ⟨W.heap.size, 0, none⟩) 1 1] (W.alloc (.cells #[.slice A n c] t)) fun e w' => e = .returned (.agg (cells8 (shaL la)).toArray) ∧ Below (W.alloc (.cells #[.slice A n c] t)).heap.size (W.alloc (.cells #[.slice A n c] t)) w' := by
  have h := sumf_any _ 1 1 [la] _ (Ls.one' t ha) (by simpa using hn)
  have e1 : [la].flatten = la := by simp
  rw [e1] at h
  exact h
theorem sumf2 (A : Option Addr) (n c : Nat) (la : List UInt8) (B : Option Addr) (m d : Nat) (lb : List UInt8) (W : World) (t : TypeId) (ha : Bs W W.heap.size A n c la) (hb : Bs W W.heap.size B m d lb) (hn : la.length + lb.length ≤ 524288) :
    Calls Try.prog 40 #[.slice (some ⟨W.heap.size, 0, none⟩) 2 2] (W.alloc (.cells #[.slice A n c, .slice B m d] t)) fun e w' => e = .returned (.agg (cells8 (shaL (la ++ lb))).toArray) ∧ Below W.heap.size W w' := by
  refine (sumf_any _ 2 2 [la, lb] _ ((Ls.two t ha hb).more (by simp)) (by simpa using hn)).mono ?_
  rintro e w' ⟨rfl, hb⟩
  have e1 : [la, lb].flatten = la ++ lb := by simp
  rw [e1]
  exact ⟨rfl, ((Below.refl _ _).alloc (Nat.le_refl _) _).trans (hb.mono (by simp))⟩
end Go.Proofs.Ytjllfaeamjadcaa
