/- The calls of math/bits that add and subtract words; the types of package sum. -/
import Derived.Test.YtjllfaeamjadcaaSumPure
import Derived.Test.YtjllfaeamjadcaaIndex
import Derived.Test.YtjllfaeamjadcaaBuild
import Derived.Test.YtjllfaeamjadcaaEl
import Derived.Laws.Externs
import Derived.Shelf.Spec.BitsCarry
import Derived.Deep.LoopGhost
namespace Go.Proofs.Ytjllfaeamjadcaa
open Go.RowKit

theorem add64_run (x y c s d : Nat) (hc : c ≤ 1) (hs : s = (x + y + c) % 18446744073709551616) (hd : d = (x + y + c) / 18446744073709551616) (w : World) :
    (callFunc 33 #[.int .u64 (x : Int), .int .u64 (y : Int), .int .u64 (c : Int)]).run Try.prog w = .ok (.value (.tuple #[.int .u64 (s : Int), .int .u64 (d : Int)])) w := by
  subst hs hd
  rw [run_callFunc_extern Try.func33 (by kernel_rfl) (by kernel_rfl) (by kernel_rfl) (e := add64Entry) (by kernel_rfl), run_add64 x y c (by omega) (by omega) (by omega) (by omega)]
  simp only [Result.andThen]
  congr 5 <;> omega
theorem sub64_run (x y b s d : Nat) (hb : b ≤ 1) (hs : s = (x + 18446744073709551616 - y - b) % 18446744073709551616) (hd : d = if x < y + b then 1 else 0) (w : World) :
    (callFunc 34 #[.int .u64 (x : Int), .int .u64 (y : Int), .int .u64 (b : Int)]).run Try.prog w = .ok (.value (.tuple #[.int .u64 (s : Int), .int .u64 (d : Int)])) w := by
  subst hs hd
  rw [run_callFunc_extern Try.func34 (by kernel_rfl) (by kernel_rfl) (by kernel_rfl) (e := sub64Entry) (by kernel_rfl), run_sub64 x y b hb]
  rfl
def zeroW4 : List Value := List.replicate 4 (.int .u64 0)
theorem tyWords : Ty Try.prog 41 zeroW4 := ⟨by kernel_rfl⟩
theorem rwWords : Rw Try.prog 41 (.array 4 39) 4 := ⟨by kernel_rfl, rfl, by kernel_rfl⟩
theorem plain64 : Plain1 Try.prog 39 := ⟨by kernel_rfl, by kernel_rfl⟩
theorem plus_parts (m n k : Nat) : ∃ x y c s d : Nat, c ≤ 1 ∧ Kp (dg m k = x) ∧ Kp (dg n k = y) ∧ Kp (carryN m n k = c) ∧ Kp (dg (m + n) k = s) ∧ Kp (carryN m n (k + 1) = d) ∧
    ∀ w, (callFunc 33 #[.int .u64 (x : Int), .int .u64 (y : Int), .int .u64 (c : Int)]).run Try.prog w = .ok (.value (.tuple #[.int .u64 (s : Int), .int .u64 (d : Int)])) w :=
  ⟨_, _, _, _, _, carryN_le m n k, ⟨rfl⟩, ⟨rfl⟩, ⟨rfl⟩, ⟨rfl⟩, ⟨rfl⟩, fun w => add64_run _ _ _ _ _ (carryN_le m n k) (plus_digit m n k).1 (plus_digit m n k).2 w⟩
theorem minus_parts (m n k : Nat) (hk : k < 4) (hn : n < 256 ^ 32) : ∃ x y c s d : Nat, c ≤ 1 ∧ Kp (dg m k = x) ∧ Kp (dg n k = y) ∧ Kp (borrowN m n k = c) ∧ Kp (dg (subN m n) k = s) ∧ Kp (borrowN m n (k + 1) = d) ∧
    ∀ w, (callFunc 34 #[.int .u64 (x : Int), .int .u64 (y : Int), .int .u64 (c : Int)]).run Try.prog w = .ok (.value (.tuple #[.int .u64 (s : Int), .int .u64 (d : Int)])) w :=
  ⟨_, _, _, _, _, borrowN_le m n k, ⟨rfl⟩, ⟨rfl⟩, ⟨rfl⟩, ⟨rfl⟩, ⟨rfl⟩, fun w => sub64_run _ _ _ _ _ (borrowN_le m n k) (by
    have h1 := dg_lt n k
    have h2 := borrowN_le m n k
    rw [show dg (subN m n) k = _ from (minus_digit m n k hk hn).1, show dg m k + 18446744073709551616 - dg n k + 18446744073709551616 - borrowN m n k = dg m k + 18446744073709551616 - dg n k - borrowN m n k + 18446744073709551616 by omega, Nat.add_mod_right]) (minus_digit m n k hk hn).2 w⟩
/-- the results of many cells and of one -/
theorem ret_arr_tmp {P : Program} {w : World} {a : Act} {t : TypeId} {fn : Func} {R : Ending → World → Prop} {p q : Tmp} {d : TypeDesc} {n : Nat} (hr : fn.results = #[.cell p t, .tmp q]) (E : Rw P t d n) {g : Nat} {t' : TypeId} {cs : List Value} {v2 : Value} (hx : a.tmps.getD p undef = .pointer (some ⟨g, 0, none⟩)) (hq : a.tmps.getD q undef = v2) (hb : Blk w g t' cs) (hn : cs.length = n) (hd : a.defers = [])
    (h : R (.returned (.tuple #[.agg cs.toArray, v2])) w) : bodyPost P fn R .ret a w := by
  have hl := run_load_rw (w := w) E hb (off := 0) (by omega)
  simp only [Instr.loadAt, Instr.sureAddr, Sem.run_bind, Sem.run_pure, Result.andThen_ok] at hl
  have e : (cs.drop 0).take n = cs := by rw [List.drop_zero, List.take_of_length_le (by omega)]
  rw [e] at hl
  have hx' : a.tmps[p]?.getD undef = .pointer (some ⟨g, 0, none⟩) := by simpa using hx
  have hq' : a.tmps[q]?.getD undef = v2 := by simpa using hq
  exact bodyPost_ret (v := .tuple #[.agg cs.toArray, v2]) (by simp only [results, hr]; simp [hx', hq', asAddr, hl]) hd h
end Go.Proofs.Ytjllfaeamjadcaa
