/- '==' and '!=' between two arrays of bytes. No program is named here. -/
import Derived.Test.YtaedlaeflliibaaArr
import Derived.ChangeKeysEq
import Derived.Laws.StructEq
namespace Go.Proofs.Ytaedlaeflliibaa
open Go.RowKit

theorem run_eqItems_bytes {P : Program} {e : TypeId} (he : P.underlying e = some (.int .u8)) (hc : P.cellsOf e = 1) (w : World) (d : Nat) (l m : List UInt8) (hl : l.length = m.length) :
    ∀ (k i : Nat), i + k = l.length → (Op.eqItems (d + 1) e (P.cellsOf e) (cells8 l).toArray (cells8 m).toArray (List.range' i k)).run P w = .ok (l.drop i == m.drop i) w
  | 0, i, h => by
    rw [List.drop_of_length_le (by omega), List.drop_of_length_le (by omega)]
    simp [Op.eqItems]
  | k + 1, i, h => by
    have hi : i < l.length := by omega
    have hi2 : i < m.length := by omega
    have ih := run_eqItems_bytes he hc w d l m hl k (i + 1) (by omega)
    have p1 : (part e (cells8 l).toArray (i * P.cellsOf e)).run P w = .ok (.int .u8 (l[i].toNat : Int)) w := by
      rw [hc, Nat.mul_one]
      exact run_part_plain w (by simp [Program.plainKey, he]) (by simpa using cells8_at l i hi)
    have p2 : (part e (cells8 m).toArray (i * P.cellsOf e)).run P w = .ok (.int .u8 (m[i].toNat : Int)) w := by
      rw [hc, Nat.mul_one]
      exact run_part_plain w (by simp [Program.plainKey, he]) (by simpa using cells8_at m i hi2)
    rw [List.range'_succ]
    simp only [Op.eqItems, Sem.run_bind, p1, p2, Result.andThen_ok, run_equalIn_int w d e .u8 .u8 _ _ he]
    rw [List.drop_eq_getElem_cons hi, List.drop_eq_getElem_cons hi2, List.cons_beq_cons]
    have e1 : ((l[i].toNat : Int) == (m[i].toNat : Int)) = (l[i] == m[i]) := by
      rw [Bool.eq_iff_iff]
      simp only [beq_iff_eq]
      exact ⟨fun h => UInt8.toNat_inj.1 (by omega), fun h => by rw [h]⟩
    rw [e1]
    cases h4 : l[i] == m[i]
    · simp
    · simpa using ih

/-- two arrays of bytes, held against each other -/
structure EqB (P : Program) (t e : TypeId) (n : Nat) : Prop where
  ty : P.underlying t = some (.array n e)
  el : P.underlying e = some (.int .u8)
  one : P.cellsOf e = 1
theorem run_eql_bytes {P : Program} {t e : TypeId} {n : Nat} (E : EqB P t e n) (w : World) (l m : List UInt8) (hl : l.length = n) (hm : m.length = n) :
    (binOp .eql t (.agg (cells8 l).toArray) (.agg (cells8 m).toArray)).run P w = .ok (.bool (l == m)) w := by
  obtain ⟨i, hi⟩ : ∃ i, P.info? e = some i := info_of_underlying E.el
  rw [run_eql_struct, run_equalIn_array w 9999 _ _ E.ty hi, List.range_eq_range', run_eqItems_bytes E.el E.one w 9998 l m (by omega) n 0 (by omega)]
  simp
theorem run_equalIn_bytes {P : Program} {t e : TypeId} {n : Nat} (E : EqB P t e n) (w : World) (l m : List UInt8) (hl : l.length = n) (hm : m.length = n) :
    (Op.equalIn 10000 t (.agg (cells8 l).toArray) (.agg (cells8 m).toArray)).run P w = .ok (l == m) w := by
  obtain ⟨i, hi⟩ : ∃ i, P.info? e = some i := info_of_underlying E.el
  rw [run_equalIn_array w 9999 _ _ E.ty hi, List.range_eq_range', run_eqItems_bytes E.el E.one w 9998 l m (by omega) n 0 (by omega)]
  simp
theorem run_neq_bytes {P : Program} {t e : TypeId} {n : Nat} (E : EqB P t e n) (w : World) (l m : List UInt8) (hl : l.length = n) (hm : m.length = n) :
    (binOp .neq t (.agg (cells8 l).toArray) (.agg (cells8 m).toArray)).run P w = .ok (.bool (!(l == m))) w := by
  obtain ⟨i, hi⟩ : ∃ i, P.info? e = some i := info_of_underlying E.el
  rw [run_neq_struct, run_equalIn_array w 9999 _ _ E.ty hi, List.range_eq_range', run_eqItems_bytes E.el E.one w 9998 l m (by omega) n 0 (by omega)]
  simp
end Go.Proofs.Ytaedlaeflliibaa
