/- WorldTraces: the plain data. -/
import Derived.Test.YtalnbomnmmefgaaDid2
import Derived.Test.YtalnbomnmmefgaaSamT
import Derived.Test.YtalnbomnmmefgaaWtP
import Derived.Test.YtalnbomnmmefgaaOpen
namespace Go.Proofs.Ytalnbomnmmefgaa
open Go.RowKit

/-- what is traced of one thing that is done -/
def trX (t : Wd) (d : Dd) : List Tr :=
  if d.kind = 1 then (if thereW t (d.pl, d.sl) = true then [⟨1, d.pl, d.sl, readL t (d.pl, d.sl)⟩] else [])
  else if d.kind = 2 then (if thereW t (d.pl, d.sl) = true then [⟨2, d.pl, d.sl, d.bs⟩] else [])
  else if d.kind = 3 then (if sealW t d.pl = true then [⟨3, d.pl, 0, lookL t d.pl⟩] else [])
  else if d.kind = 4 then (if sealW t d.pl = true then [⟨4, d.pl, 0, d.bs⟩] else [])
  else if d.kind = 5 then (if bumpB t = true then [⟨5, 0, 0, []⟩] else []) else []
theorem bump_tr (t : Wd) : (bumpW t).tr = t.tr ++ (if bumpB t = true then [⟨5, 0, 0, []⟩] else []) := by
  unfold bumpW bumpB
  cases hl : t.lost
  · rw [if_neg (by decide)]
    by_cases hc : 18446744073709551615 ≤ t.ctr
    · rw [if_pos hc, decide_eq_false (by omega)]; simp
    · rw [if_neg hc, decide_eq_true (by omega)]
      cases ht : takeOk t
      · simp [(takeW_same t).2.2.2.2.2.2.1]
      · simp
  · simp
theorem did_tr (t : Wd) (d : Dd) : (didW t d).tr = t.tr ++ trX t d := by
  unfold didW trX
  split
  · unfold readW readL
    split
    · rfl
    · simp
  · split
    · split
      · rename_i hth
        unfold writeW; rw [if_pos hth]
        exact (layW_same _ _).2.2.2.2.2.2.1
      · rename_i hth
        unfold writeW; rw [if_neg hth]; simp
    · split
      · unfold lookW lookL
        split
        · rfl
        · simp
      · split
        · unfold sealedW
          split
          · split
            · exact (layW_same _ _).2.2.2.2.2.2.1
            · exact (layW_same _ _).2.2.2.2.2.2.1
          · simp
        · split
          · exact bump_tr t
          · split
            · unfold lieW; split <;> simp
            · split
              · unfold armW; split <;> simp
              · split
                · simp [restartW]
                · split
                  · simp [setW]
                  · simp
theorem trX_cases (t : Wd) (d : Dd) : trX t d = [] ∨ ∃ x, trX t d = [x] ∧ t.lost = false ∧ d.kind ≤ 5 ∧ (d.kind = 1 → x.kind = 1 ∧ x.pl = d.pl ∧ x.bytes = didL t d) ∧ (d.kind = 2 → x.kind = 2 ∧ x.slot = d.sl ∧ x.bytes = d.bs) := by
  have hth : ∀ x, thereW t x = true → t.lost = false := fun x h => by unfold thereW at h; simp at h; exact h.1
  have hse : ∀ i, sealW t i = true → t.lost = false := fun i h => by unfold sealW at h; simp at h; exact h.1
  have hbu : bumpB t = true → t.lost = false := fun h => by unfold bumpB at h; simp at h; exact h.1
  unfold trX
  split
  · rename_i h1
    split
    · rename_i h2
      exact .inr ⟨_, rfl, hth _ h2, by omega, fun _ => ⟨rfl, rfl, by unfold didL; rw [if_pos h1]⟩, fun h => by omega⟩
    · exact .inl rfl
  · split
    · split
      · rename_i h1 h2
        exact .inr ⟨_, rfl, hth _ h2, by omega, fun h => by omega, fun _ => ⟨rfl, rfl, rfl⟩⟩
      · exact .inl rfl
    · split
      · split
        · rename_i h2
          exact .inr ⟨_, rfl, hse _ h2, by omega, fun h => by omega, fun h => by omega⟩
        · exact .inl rfl
      · split
        · split
          · rename_i h2
            exact .inr ⟨_, rfl, hse _ h2, by omega, fun h => by omega, fun h => by omega⟩
          · exact .inl rfl
        · split
          · split
            · rename_i h2
              exact .inr ⟨_, rfl, hbu h2, by omega, fun h => by omega, fun h => by omega⟩
            · exact .inl rfl
          · exact .inl rfl
theorem cut40 (A : Option Addr) (n c k : Nat) (hk : k ≤ c) (w : World) : (Instr.sliceAt 40 (.slice A n c) none (some (.int .i64 (k : Int))) none).run Try.prog w = .ok (.slice A k c) w := by
  have e1 : (Try.prog).underlying 40 = some (.slice ((Try.prog).elem 40)) := by kernel_rfl
  have e2 : (Try.prog).elem 40 = 61 := by kernel_rfl
  have h4 : ((Try.prog).info? 61).map (·.size) = some 4 := by kernel_rfl
  have hrun := run_slice_h (P := Try.prog) (w := w) 40 A n c e1 .i64 (k : Int) (by omega) (by omega)
  rw [e2] at hrun
  rw [run_sliceAt_slice (P := Try.prog) (w := w) 40 _ _ _ _ e1, hrun]
  cases hq : (Try.prog).info? 61 with
  | none => simp [hq] at h4
  | some i =>
    have hs : i.size = 4 := by simpa [hq] using h4
    simp [Go.sizeOf, typeInfo, hq, hs, Result.andThen, sliced]
    intro hc
    cases A with
    | none => rfl
    | some a => simp [add_none]
end Go.Proofs.Ytalnbomnmmefgaa
