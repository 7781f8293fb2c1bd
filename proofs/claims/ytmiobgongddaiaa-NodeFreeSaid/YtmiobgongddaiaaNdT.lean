/- The types of package node, and small laws of the walk: literals of structs, records and spans held against each other. -/
import Derived.Test.YtmiobgongddaiaaNdP
import Derived.Test.YtmiobgongddaiaaEl
import Derived.Test.YtmiobgongddaiaaBuild
import Derived.Test.YtmiobgongddaiaaIndex
import Derived.Test.YtmiobgongddaiaaLens
import Derived.Test.YtmiobgongddaiaaNums7
import Derived.Test.YtmiobgongddaiaaCPut
import Derived.Laws.StructEq
namespace Go.Proofs.Ytmiobgongddaiaa
open Go.RowKit

def zeroFd : List Value := [.pointer none, .int .i64 0, .int .i64 0]
def zeroFs : List Value := zeroFd ++ zeroFd ++ zeroFd ++ zeroFd ++ zeroFd ++ zeroFd ++ zeroFd ++ zeroFd ++ zeroFd ++ zeroFd
def zeroNd : List Value := cellsZ (List.replicate 10 0)
def zeroSp : List Value := cellsZ (List.replicate 3 0)
theorem tyFd : Ty Try.prog 62 zeroFd := ⟨by kernel_rfl⟩
theorem rwFd : Rw Try.prog 62 (match (Try.prog).underlying 62 with | some d => d | none => .bool) 3 := ⟨by kernel_rfl, by kernel_rfl, by kernel_rfl⟩
theorem tyFs : Ty Try.prog 63 zeroFs := ⟨by kernel_rfl⟩
theorem rwFs : Rw Try.prog 63 (.array 10 62) 30 := ⟨by kernel_rfl, rfl, by kernel_rfl⟩
theorem tyNd : Ty Try.prog 24 zeroNd := ⟨by kernel_rfl⟩
theorem rwNd : Rw Try.prog 24 (match (Try.prog).underlying 24 with | some d => d | none => .bool) 10 := ⟨by kernel_rfl, by kernel_rfl, by kernel_rfl⟩
theorem tySp : Ty Try.prog 55 zeroSp := ⟨by kernel_rfl⟩
theorem rwSp : Rw Try.prog 55 (match (Try.prog).underlying 55 with | some d => d | none => .bool) 3 := ⟨by kernel_rfl, by kernel_rfl, by kernel_rfl⟩

theorem cellsZ_one (l : List Int) : ∀ u ∈ cellsZ l, u.oneCell' = true := by
  intro u hu
  obtain ⟨_, _, rfl⟩ := List.mem_map.1 hu
  rfl
theorem ten {l : List Int} (h : l.length = 10) : ∃ a b c d e f g i j k, l = [a, b, c, d, e, f, g, i, j, k] := by
  match l, h with
  | [a, b, c, d, e, f, g, i, j, k], _ => exact ⟨a, b, c, d, e, f, g, i, j, k, rfl⟩
theorem three {l : List Int} (h : l.length = 3) : ∃ a b c, l = [a, b, c] := by
  match l, h with
  | [a, b, c], _ => exact ⟨a, b, c, rfl⟩
theorem run_eqItems_ints {P : Program} {e : TypeId} (he : P.underlying e = some (.int .i64)) (hc : P.cellsOf e = 1) (w : World) (d : Nat) (l m : List Int) (hl : l.length = m.length) :
    ∀ (k i : Nat), i + k = l.length → (Op.eqItems (d + 1) e (P.cellsOf e) (cellsZ l).toArray (cellsZ m).toArray (List.range' i k)).run P w = .ok (l.drop i == m.drop i) w
  | 0, i, h => by
    rw [List.drop_of_length_le (by omega), List.drop_of_length_le (by omega)]
    simp [Op.eqItems]
  | k + 1, i, h => by
    have hi : i < l.length := by omega
    have hi2 : i < m.length := by omega
    have ih := run_eqItems_ints he hc w d l m hl k (i + 1) (by omega)
    have p1 : (part e (cellsZ l).toArray (i * P.cellsOf e)).run P w = .ok (.int .i64 l[i]) w := by
      rw [hc, Nat.mul_one]
      exact run_part_plain w (by simp [Program.plainKey, he]) (by simp [cellsZ, List.getElem?_eq_getElem hi])
    have p2 : (part e (cellsZ m).toArray (i * P.cellsOf e)).run P w = .ok (.int .i64 m[i]) w := by
      rw [hc, Nat.mul_one]
      exact run_part_plain w (by simp [Program.plainKey, he]) (by simp [cellsZ, List.getElem?_eq_getElem hi2])
    rw [List.range'_succ]
    simp only [Op.eqItems, Sem.run_bind, p1, p2, Result.andThen_ok, run_equalIn_int w d e .i64 .i64 _ _ he]
    rw [List.drop_eq_getElem_cons hi, List.drop_eq_getElem_cons hi2, List.cons_beq_cons]
    cases h4 : l[i] == m[i]
    · simp
    · simpa using ih
theorem run_eqA (w : World) (l m : List Int) (hl : l.length = 6) (hm : m.length = 6) : (Op.equalIn 9999 22 (.agg (cellsZ l).toArray) (.agg (cellsZ m).toArray)).run Try.prog w = .ok (l == m) w := by
  obtain ⟨i, hi⟩ : ∃ i, (Try.prog).info? 3 = some i := info_of_underlying Try.underlying3
  rw [run_equalIn_array w 9998 _ _ (show (Try.prog).underlying 22 = some (.array 6 3) by kernel_rfl) hi, List.range_eq_range', run_eqItems_ints Try.underlying3 (by kernel_rfl) w 9997 l m (by omega) 6 0 (by omega)]
  simp
set_option maxHeartbeats 1000000 in
theorem run_eqN (w : World) (l m : List Int) (hl : l.length = 10) (hm : m.length = 10) : (Op.equalIn 10000 24 (.agg (cellsZ l).toArray) (.agg (cellsZ m).toArray)).run Try.prog w = .ok (l == m) w := by
  obtain ⟨a, b, c, d, e, f, g, i, j, k, rfl⟩ := ten hl
  obtain ⟨a', b', c', d', e', f', g', i', j', k', rfl⟩ := ten hm
  have h6 := run_eqA w [d, e, f, g, i, j] [d', e', f', g', i', j'] rfl rfl
  simp only [cellsZ, List.map_cons, List.map_nil] at h6 ⊢
  go_simp
  clear h6
  by_cases h1 : a = a' <;> by_cases h2 : b = b' <;> by_cases h3 : c = c' <;> by_cases h4 : (d = d' → e = e' → f = f' → g = g' → i = i' → ¬j = j') <;> by_cases h5 : k = k' <;> simp_all
set_option maxHeartbeats 1000000 in
theorem run_eqS (w : World) (l m : List Int) (hl : l.length = 3) (hm : m.length = 3) : (Op.equalIn 10000 55 (.agg (cellsZ l).toArray) (.agg (cellsZ m).toArray)).run Try.prog w = .ok (l == m) w := by
  obtain ⟨a, b, c, rfl⟩ := three hl
  obtain ⟨a', b', c', rfl⟩ := three hm
  simp only [cellsZ, List.map_cons, List.map_nil]
  go_simp
  by_cases h1 : a = a' <;> by_cases h2 : b = b' <;> by_cases h3 : c = c' <;> simp_all
/-- nothing is known of it -/
def zero10 : List Int := List.replicate 10 0
theorem zero10_length : zero10.length = 10 := rfl
theorem built_zero : (Try.prog).built 24 [] = some (cellsZ zero10).toArray := by kernel_rfl
theorem eqG : (Try.prog).eqGuardType (Try.prog).depth 24 = false := by kernel_rfl
section
variable {P : Program} {w : World} {ops : Array Oper} {rest : List Oper} {o : Oper} {a : Act} {Q : Exit → Act → World → Prop} {t : TypeId}
theorem wpList_build0 (hg : o.guard = none) (hop : o.op = .build t #[]) {cs : List Value} (hb : P.built t [] = some cs.toArray)
    (h : wpList P ops Q rest (a.put o.dst (.agg cs.toArray)) w) : wpList P ops Q (o :: rest) a w := by
  refine wpList_plain hg fun K hK => ?_
  unfold Oper.wp execOp
  have hr := run_build (P := P) w t #[] cs.toArray (by simpa using hb)
  simp only [hop, Sem.run_bind, List.map_toArray, List.map_nil, hr, Result.andThen_ok]
  exact hK _ _ h
theorem wpList_build3 (hg : o.guard = none) (i j k : Nat) (x y z : Operand) (hop : o.op = .build t #[(i, x), (j, y), (k, z)]) {v u r : Value} (hx : a.eval x = v) (hy : a.eval y = u) (hz : a.eval z = r) {cs : List Value} (hb : P.built t [(i, v), (j, u), (k, r)] = some cs.toArray)
    (h : wpList P ops Q rest (a.put o.dst (.agg cs.toArray)) w) : wpList P ops Q (o :: rest) a w := by
  refine wpList_plain hg fun K hK => ?_
  unfold Oper.wp execOp
  have hr := run_build (P := P) w t #[(i, v), (j, u), (k, r)] cs.toArray (by simpa using hb)
  simp only [hop, Sem.run_bind, List.map_toArray, List.map_cons, List.map_nil, hx, hy, hz, hr, Result.andThen_ok]
  exact hK _ _ h
theorem wpList_build0_g (hg : Region.wanted o (yielded ops a.tmps) = true) (hop : o.op = .build t #[]) {cs : List Value} (hb : P.built t [] = some cs.toArray)
    (h : wpList P ops Q rest (a.put o.dst (.agg cs.toArray)) w) : wpList P ops Q (o :: rest) a w := by
  refine wpList_step fun K hK => ?_
  rw [if_pos hg]
  unfold Oper.wp execOp
  have hr := run_build (P := P) w t #[] cs.toArray (by simpa using hb)
  simp only [hop, Sem.run_bind, List.map_toArray, List.map_nil, hr, Result.andThen_ok]
  exact hK _ _ h
/-- two structs, held against each other -/
theorem wpList_eql_g (hG : P.eqGuardType P.depth t = false) (hg : Region.wanted o (yielded ops a.tmps) = true) (x y : Operand) {t' : TypeId} (hop : o.op = .binOp .eql t x y t') {u v : Array Value} (hx : a.eval x = .agg u) (hy : a.eval y = .agg v) {q : Bool}
    (hr : (Op.equalIn 10000 t (.agg u) (.agg v)).run P w = .ok q w)
    (h : wpList P ops Q rest (a.put o.dst (.bool q)) w) : wpList P ops Q (o :: rest) a w := by
  refine wpList_step fun K hK => ?_
  rw [if_pos hg]
  unfold Oper.wp
  simp only [execOp, hop, hx, hy, Sem.run_bind, run_eqGuard_agg (w := w) _ _ _ _ _ _ hG, Result.andThen_ok, run_eql_struct, hr, Sem.run_pure]
  exact hK _ _ h
end
end Go.Proofs.Ytmiobgongddaiaa
