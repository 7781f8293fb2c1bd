/- The contracts of errors.As at a target of type **fault: no error; a *fault.
   Byte slices and lists of them that lie apart from one block, which is written meanwhile. No program is named here.
   The contracts of block.fill and block.number.
   x[:k] of bytes, in a region. No program is named here.
   Rows of ints that are bytes. No program is named here.
   AES-128 as the document has it, over bytes. No program is named here.
   The contract of sacristanref04's Next. -/
import Derived.Test.YtckmobpjdpjocaaDoorG01
import Derived.Test.YtckmobpjdpjocaaDoorRows
import Derived.WalkKit
import Derived.LaidEql
import Derived.Stop.Asserts
import Derived.RowKitTokens
import Derived.Test.YtckmobpjdpjocaaDoorG02
namespace Go.Proofs.YtckmobpjdpjocaaDoor
open Go.RowKit Go.Extern.Stop Go.Stop Go.Extern

/-- errors.As(nil, target). -/
theorem as_nil (t : Value) (w : World) :
    Calls Tryd.prog 43 #[.nilIface, t] w fun e w' => e = .returned (.bool false) ∧ w' = w := by
  go_enter Tryd.func43, Tryd.ntmps43
  go_wp2
  go_ret
  exact ⟨rfl, rfl⟩

theorem as7_valueOf27 (t : Addr) (w : World) : (ReflectliteValue.unpack (.iface 93 (.pointer (some t)))).run Tryd.prog w
    = .ok (.agg #[.pointer (some ⟨1, 93, none⟩), .pointer (some ⟨w.heap.size, 0, none⟩), .int .u64 150]) (w.alloc (.cells #[.pointer (some t)] 93)) := by kernel_rfl
theorem as7_type27 (a : Addr) (w : World) : (ReflectliteValue.methodAny (ReflectliteValue.valueError "reflectlite.Value.Type" 0) (fun t _ _ _ => ReflectliteType.toType t) #[.agg #[.pointer (some ⟨1, 93, none⟩), .pointer (some a), .int .u64 150]]).run Tryd.prog w
    = .ok (.iface 123 (.agg #[.pointer (some ⟨1, 93, none⟩)])) w := by kernel_rfl
theorem as7_methodKind (h : Value) (w : World) : (Go.method 268 123 (.agg #[h]) "Kind").run Tryd.prog w = .ok (84, h) w := by kernel_rfl
theorem as7_kind27 (w : World) : ((ReflectliteType.abiMethod fun t => (fun a : Nat => Value.int IntKind.u8 (a : Int)) <$> Rtype.kind t) #[.pointer (some ⟨1, 93, none⟩)]).run Tryd.prog w = .ok (.int .u8 22) w := by kernel_rfl
theorem as7_kind25 (w : World) : ((ReflectliteType.abiMethod fun t => (fun a : Nat => Value.int IntKind.u8 (a : Int)) <$> Rtype.kind t) #[.pointer (some ⟨1, 89, none⟩)]).run Tryd.prog w = .ok (.int .u8 22) w := by kernel_rfl

theorem rlm (z : Sem Value) (f : TypeId → Addr → Nat → Nat → Sem Value) (v : Value) :
    ReflectliteValue.method z f #[v] = (do match ← ReflectliteValue.parts v with | none => z | some (t, a, fl) => f t a fl (fl % 32)) := rfl
theorem as7_parts27 (a : Addr) (w : World) : (ReflectliteValue.parts (.agg #[.pointer (some ⟨1, 93, none⟩), .pointer (some a), .int .u64 150])).run Tryd.prog w = .ok (some (93, a, 150)) w := by kernel_rfl
/-- (Value).IsNil at the Value of a **p.E that is not nil. -/
theorem as7_isNil27 (a p : Addr) (W : World) (ha : W.cell? a = some (.pointer (some p))) :
    (ReflectliteValue.method (ReflectliteValue.valueError "reflectlite.Value.IsNil" 0) ReflectliteValue.isNil #[.agg #[.pointer (some ⟨1, 93, none⟩), .pointer (some a), .int .u64 150]]).run Tryd.prog W = .ok (.bool false) W := by
  rw [rlm]
  simp only [Sem.run_bind, as7_parts27, Result.andThen]
  simp [ReflectliteValue.isNil, loadVar, isAgg, underlying, Tryd.underlying93, ha, Result.andThen]

theorem as7_methodElem (h : Value) (w : World) : (Go.method 268 123 (.agg #[h]) "Elem").run Tryd.prog w = .ok (95, .agg #[h]) w := by kernel_rfl
theorem as7_methodImplements (h : Value) (w : World) : (Go.method 268 123 (.agg #[h]) "Implements").run Tryd.prog w = .ok (96, .agg #[h]) w := by kernel_rfl
theorem as7_methodAssignableTo (h : Value) (w : World) : (Go.method 268 123 (.agg #[h]) "AssignableTo").run Tryd.prog w = .ok (93, .agg #[h]) w := by kernel_rfl
theorem as7_elem27 (w : World) : (ReflectliteType.method ReflectliteType.elem #[.agg #[.pointer (some ⟨1, 93, none⟩)]]).run Tryd.prog w = .ok (.iface 123 (.agg #[.pointer (some ⟨1, 89, none⟩)])) w := by kernel_rfl
theorem as7_implements25 (w : World) : (ReflectliteType.relation "Implements" ReflectliteType.implements_ #[.agg #[.pointer (some ⟨1, 89, none⟩)], .iface 123 (.agg #[.pointer (some ⟨1, 59, none⟩)])]).run Tryd.prog w = .ok (.bool true) w := by kernel_rfl
theorem as7_typeOf25 (v : Value) (w : World) : (ReflectliteType.typeOf #[.iface 89 v]).run Tryd.prog w = .ok (.iface 123 (.agg #[.pointer (some ⟨1, 89, none⟩)])) w := by kernel_rfl
theorem as7_assignable25 (w : World) : (ReflectliteType.relation "AssignableTo" ReflectliteType.assignableTo #[.agg #[.pointer (some ⟨1, 89, none⟩)], .iface 123 (.agg #[.pointer (some ⟨1, 89, none⟩)])]).run Tryd.prog w = .ok (.bool true) w := by kernel_rfl
theorem as7_valueOf25 (e : Addr) (w : World) : (ReflectliteValue.unpack (.iface 89 (.pointer (some e)))).run Tryd.prog w
    = .ok (.agg #[.pointer (some ⟨1, 89, none⟩), .pointer (some ⟨w.heap.size, 0, none⟩), .int .u64 150]) (w.alloc (.cells #[.pointer (some e)] 89)) := by kernel_rfl

theorem as7_elemOf27 (w : World) : (Rtype.elem? 93).run Tryd.prog w = .ok (some 89) w := by kernel_rfl
theorem as7_mk25 (p : Addr) (w : World) : (ReflectliteValue.mk 89 p ReflectliteValue.flagAddr).run Tryd.prog w = .ok (.agg #[.pointer (some ⟨1, 89, none⟩), .pointer (some p), .int .u64 406]) w := by kernel_rfl
/-- (Value).Elem at the Value of a **p.E that is not nil: the Value of the *p.E variable that it points to, addressable. -/
theorem as7_elemV27 (a p : Addr) (W : World) (ha : W.cell? a = some (.pointer (some p))) :
    (ReflectliteValue.method (ReflectliteValue.valueError "reflectlite.Value.Elem" 0) ReflectliteValue.elem #[.agg #[.pointer (some ⟨1, 93, none⟩), .pointer (some a), .int .u64 150]]).run Tryd.prog W
      = .ok (.agg #[.pointer (some ⟨1, 89, none⟩), .pointer (some p), .int .u64 406]) W := by
  rw [rlm]
  simp only [Sem.run_bind, as7_parts27, Result.andThen]
  simp [ReflectliteValue.elem, loadVar, isAgg, underlying, Tryd.underlying93, ha, Result.andThen, as7_elemOf27, as7_mk25]
theorem rls (v x : Value) : ReflectliteValue.set #[v, x] = (do
    let (some (dst, a, fl), some (src, b, _)) := (← ReflectliteValue.parts v, ← ReflectliteValue.parts x)
      | unsupported (.noEntry "extern/(internal/reflectlite.Value).Set.zeroValue")
    if fl / ReflectliteValue.flagAddr % 2 == 0 then unsupported (.noEntry "extern/(internal/reflectlite.Value).Set.unaddressable")
    let val ← loadVar src b
    if ← Rtype.directlyAssignable dst src then storeVar dst a val
    else if ← Rtype.implements dst src then
      if (← Rtype.kind src) == 20 then
        match val with
        | .nilIface => unsupported (.noEntry "extern/reflectlite: a nil value of one interface type handed on as a value of another")
        | _ => storeVar dst a val
      else storeVar dst a (.iface src val)
    else panicString ("reflectlite.Set: value of type " ++ (← Rtype.spelt src) ++ " is not assignable to type " ++ (← Rtype.spelt dst))
    pure (.tuple #[])) := rfl
theorem as7_parts25a (a : Addr) (w : World) : (ReflectliteValue.parts (.agg #[.pointer (some ⟨1, 89, none⟩), .pointer (some a), .int .u64 406])).run Tryd.prog w = .ok (some (89, a, 406)) w := by kernel_rfl
theorem as7_parts25 (a : Addr) (w : World) : (ReflectliteValue.parts (.agg #[.pointer (some ⟨1, 89, none⟩), .pointer (some a), .int .u64 150])).run Tryd.prog w = .ok (some (89, a, 150)) w := by kernel_rfl
theorem as7_direct25 (w : World) : (Rtype.directlyAssignable 89 89).run Tryd.prog w = .ok true w := by kernel_rfl
theorem as7_size25 (w : World) : (sizeOf 89).run Tryd.prog w = .ok 1 w := by kernel_rfl
/-- (Value).Set: the *p.E variable at 'ta' gets what the Value's own variable 'b' holds. -/
theorem as7_set25 (ta b e : Addr) (old : Value) (W : World) (hb : W.cell? b = some (.pointer (some e))) (ht : W.cell? ta = some old) (hf : W.frozen? ta = false) :
    (ReflectliteValue.set #[.agg #[.pointer (some ⟨1, 89, none⟩), .pointer (some ta), .int .u64 406], .agg #[.pointer (some ⟨1, 89, none⟩), .pointer (some b), .int .u64 150]]).run Tryd.prog W
      = .ok (.tuple #[]) (W.setCell ta (.pointer (some e))) := by
  rw [rls]
  simp only [Sem.run_bind, as7_parts25a, as7_parts25, Result.andThen]
  simp [ReflectliteValue.flagAddr, loadVar, isAgg, underlying, Tryd.underlying89, hb, Result.andThen, as7_direct25, storeVar, Value.cells, storeCells, Addr.add]
  rw [run_store Tryd.prog W ta _ _ (by rfl)]
  simp [ht, hf]

set_option maxHeartbeats 4000000 in
theorem as_hit (e t : Addr) (old : Value) (w : World) (hg : w.cell? ⟨0, 0, none⟩ = some (.iface 123 (.agg #[.pointer (some ⟨1, 59, none⟩)]))) (ht0 : w.cell? t = some old) (hf0 : w.frozen? t = false) :
    Calls Tryd.prog 43 #[.iface 89 (.pointer (some e)), .iface 93 (.pointer (some t))] w fun ev w' => ev = .returned (.bool true) ∧ w' = ((((w.alloc (.cells #[.pointer (some t)] 93)).alloc (.cells #[.pointer (some ⟨1, 93, none⟩), .pointer (some ⟨w.heap.size, 0, none⟩), .int .u64 150] 109)).alloc (.cells #[.pointer (some ⟨1, 93, none⟩), .pointer (some ⟨w.heap.size, 0, none⟩), .int .u64 150] 109)).alloc (.cells #[.pointer (some e)] 89)).setCell t (.pointer (some e)) := by
  have h6 := @run_callFunc_extern Tryd.prog 54 _ (fun args => ReflectliteValue.unpack (args.getD 0 (.tuple #[]))) Tryd.func54 (by kernel_rfl) (by kernel_rfl) (by kernel_rfl) (by kernel_rfl)
  have h7 := @run_callFunc_extern Tryd.prog 55 _ (ReflectliteValue.methodAny (ReflectliteValue.valueError "reflectlite.Value.Type" 0) (fun t _ _ _ => ReflectliteType.toType t)) Tryd.func55 (by kernel_rfl) (by kernel_rfl) (by kernel_rfl) (by kernel_rfl)
  have h8 := @run_callFunc_extern Tryd.prog 56 _ (ReflectliteValue.method (ReflectliteValue.valueError "reflectlite.Value.IsNil" 0) ReflectliteValue.isNil) Tryd.func56 (by kernel_rfl) (by kernel_rfl) (by kernel_rfl) (by kernel_rfl)
  have h27 := @run_callFunc_extern Tryd.prog 84 _ (ReflectliteType.abiMethod fun t => do pure (.int .u8 (← Rtype.kind t))) Tryd.func84 (by kernel_rfl) (by kernel_rfl) (by kernel_rfl) (by kernel_rfl)
  have h37 := @run_callFunc_extern Tryd.prog 95 _ (ReflectliteType.method ReflectliteType.elem) Tryd.func95 (by kernel_rfl) (by kernel_rfl) (by kernel_rfl) (by kernel_rfl)
  have h38 := @run_callFunc_extern Tryd.prog 96 _ (ReflectliteType.relation "Implements" ReflectliteType.implements_) Tryd.func96 (by kernel_rfl) (by kernel_rfl) (by kernel_rfl) (by kernel_rfl)
  have h10 := @run_callFunc_extern Tryd.prog 64 _ ReflectliteType.typeOf Tryd.func64 (by kernel_rfl) (by kernel_rfl) (by kernel_rfl) (by kernel_rfl)
  have h35 := @run_callFunc_extern Tryd.prog 93 _ (ReflectliteType.relation "AssignableTo" ReflectliteType.assignableTo) Tryd.func93 (by kernel_rfl) (by kernel_rfl) (by kernel_rfl) (by kernel_rfl)
  have h11 := @run_callFunc_extern Tryd.prog 65 _ (ReflectliteValue.method (ReflectliteValue.valueError "reflectlite.Value.Elem" 0) ReflectliteValue.elem) Tryd.func65 (by kernel_rfl) (by kernel_rfl) (by kernel_rfl) (by kernel_rfl)
  have h12 := @run_callFunc_extern Tryd.prog 66 _ ReflectliteValue.set Tryd.func66 (by kernel_rfl) (by kernel_rfl) (by kernel_rfl) (by kernel_rfl)
  have tO := as7_typeOf25
  have mA := as7_methodAssignableTo
  have a25 := as7_assignable25
  have v25 := as7_valueOf25
  have f6 := as7_valueOf27
  have f7 := as7_type27
  have mK := as7_methodKind
  have mE := as7_methodElem
  have mI := as7_methodImplements
  have k27 := as7_kind27
  have k25 := as7_kind25
  have e27 := as7_elem27
  have i25 := as7_implements25
  have n8 := as7_isNil27 ⟨w.heap.size, 0, none⟩ t ((w.alloc (.cells #[.pointer (some t)] 93)).alloc (.cells #[.pointer (some ⟨1, 93, none⟩), .pointer (some ⟨w.heap.size, 0, none⟩), .int .u64 150] 109)) (by simp)
  have hlt : 0 < w.heap.size := by
    rcases Nat.eq_zero_or_pos w.heap.size with h0 | h
    · simp [World.cell?, h0] at hg
    · exact h
  have hg2 : ((w.alloc (.cells #[.pointer (some t)] 93)).alloc (.cells #[.pointer (some ⟨1, 93, none⟩), .pointer (some ⟨w.heap.size, 0, none⟩), .int .u64 150] 109)).cell? ⟨0, 0, none⟩ = some (.iface 123 (.agg #[.pointer (some ⟨1, 59, none⟩)])) := by
    rw [World.cell?_alloc_lt _ _ ⟨0, 0, none⟩ (by simp), World.cell?_alloc_lt _ _ ⟨0, 0, none⟩ hlt]; exact hg
  have htl : t.block < w.heap.size := by
    rcases Nat.lt_or_ge t.block w.heap.size with h | h
    · exact h
    · simp [World.cell?, Array.getElem?_eq_none h] at ht0
  have el := as7_elemV27 ⟨w.heap.size, 0, none⟩ t (((w.alloc (.cells #[.pointer (some t)] 93)).alloc (.cells #[.pointer (some ⟨1, 93, none⟩), .pointer (some ⟨w.heap.size, 0, none⟩), .int .u64 150] 109)).alloc (.cells #[.pointer (some ⟨1, 93, none⟩), .pointer (some ⟨w.heap.size, 0, none⟩), .int .u64 150] 109)) (by rw [World.cell?_alloc_lt _ _ ⟨w.heap.size, 0, none⟩ (by simp; omega)]; simp)
  have st := as7_set25 t ⟨w.heap.size + 1 + 1 + 1, 0, none⟩ e old ((((w.alloc (.cells #[.pointer (some t)] 93)).alloc (.cells #[.pointer (some ⟨1, 93, none⟩), .pointer (some ⟨w.heap.size, 0, none⟩), .int .u64 150] 109)).alloc (.cells #[.pointer (some ⟨1, 93, none⟩), .pointer (some ⟨w.heap.size, 0, none⟩), .int .u64 150] 109)).alloc (.cells #[.pointer (some e)] 89))
    (by rw [World.cell?_alloc_at _ _ _ _ (by simp)]; rfl)
    (by rw [World.cell?_alloc_lt _ _ t (by simp; omega), World.cell?_alloc_lt _ _ t (by simp; omega), World.cell?_alloc_lt _ _ t (by simp; omega), World.cell?_alloc_lt _ _ t htl]; exact ht0)
    (by rw [World.frozen?_alloc_old _ _ t (by simp; omega), World.frozen?_alloc_old _ _ t (by simp; omega), World.frozen?_alloc_old _ _ t (by simp; omega), World.frozen?_alloc_old _ _ t (Nat.ne_of_lt htl)]; exact hf0)
  go_enter Tryd.func43, Tryd.ntmps43
  go_wp2
  refine wp_loop_rounds 1 ?_
  rw [rounds_succ]
  go_wp2
  go_ret
  exact ⟨rfl, rfl⟩
end Go.Proofs.YtckmobpjdpjocaaDoor

namespace Go.Proofs.YtckmobpjdpjocaaDoor
open Go.RowKit

/-- a block of bytes that has just been laid -/
theorem Bs.laid (w : World) (t : TypeId) (l : List UInt8) (hm : l.length ≤ maxLen) : Bs (w.alloc (.cells (cells8 l).toArray t)) (w.heap.size + 1) (some ⟨w.heap.size, 0, none⟩) l.length l.length l := by
  refine ⟨rfl, Nat.le_refl _, hm, (fun h => by cases h), fun _ => ⟨w.heap.size, 0, rfl, by omega, fun j hj => ?_⟩⟩
  rw [World.cell?_alloc_at _ _ _ _ rfl]
  have := cells8_at l j hj
  simpa using this
/-- A slice reads as the bytes l, and none of its cells lies in block g. -/
structure BsA (w : World) (g : Nat) (A : Option Addr) (n c : Nat) (l : List UInt8) : Prop where
  bs : Bs w w.heap.size A n c l
  apart : ∀ ad, A = some ad → 0 < n → ad.block ≠ g
/-- A slice reads as the lists ls of bytes, and none of the cells lies in block g. -/
structure LsA (w : World) (g : Nat) (A : Option Addr) (n c : Nat) (ls : List (List UInt8)) : Prop where
  len : ls.length = n
  cap : n ≤ c
  max : c ≤ maxLen
  cells : 0 < n → ∃ b o, A = some ⟨b, o, none⟩ ∧ b < w.heap.size ∧ b ≠ g ∧ ∀ j (h : j < ls.length), ∃ A' n' c', w.cell? ⟨b, o + j, none⟩ = some (.slice A' n' c') ∧ BsA w g A' n' c' ls[j]
section
variable {w w' : World} {B : Nat} {g : Nat} {A : Option Addr} {n c : Nat} {l : List UInt8} {ls : List (List UInt8)}
theorem BsA.of_bs (h : Bs w B A n c l) (hB : B ≤ g) (hw : B ≤ w.heap.size) : BsA w g A n c l :=
  ⟨h.more hw, fun ad hA h0 => by
    obtain ⟨b, o, hA', hb, _⟩ := h.cells h0
    rw [hA] at hA'
    obtain rfl := Option.some.inj hA'
    simp; omega⟩
theorem BsA.of_own {base : Nat} {e : TypeId} {v : Value} (h : w.ownsRow base e 1 v n (cells8 l)) (hg : g < base) : ∃ A c, v = .slice A n c ∧ BsA w g A n c l := by
  obtain ⟨A, c, rfl, hb⟩ := Bs.of_own h
  obtain ⟨A', c', e1, _, _, _, hs⟩ := own_form h
  injection e1 with e2 _ e3
  subst e2
  subst e3
  exact ⟨A, c, rfl, hb, fun ad hA _ => by
    obtain ⟨k, rfl, hk, _⟩ := hs ad hA
    simp; omega⟩
theorem BsA.grown (h : BsA w g A n c l) (hg : w.grownBy w' (some g)) : BsA w' g A n c l :=
  ⟨(h.bs.grown (w' := w') (g := some g) (fun k hk hlt => hg.block k hlt (fun e => hk (by rw [e]))) (fun ad hA h0 e => h.apart ad hA h0 (Option.some.inj e).symm)).more hg.size, h.apart⟩
theorem LsA.le (h : LsA w g A n c ls) : n ≤ 9223372036854775807 := by have := h.cap; have := h.max; simp only [maxLen] at this; omega
theorem LsA.grown (h : LsA w g A n c ls) (hg : w.grownBy w' (some g)) : LsA w' g A n c ls :=
  ⟨h.len, h.cap, h.max, fun h0 => by
    obtain ⟨b, o, hA, hb, hne, hc⟩ := h.cells h0
    refine ⟨b, o, hA, Nat.lt_of_lt_of_le hb hg.size, hne, fun j hj => ?_⟩
    obtain ⟨A', n', c', h1, h2⟩ := hc j hj
    refine ⟨A', n', c', ?_, h2.grown hg⟩
    rw [← h1]
    exact World.cell?_of_block (w := w) (hg.block b hb (fun e => hne (Option.some.inj e)))⟩
theorem LsA.at (h : LsA w g A n c ls) {i : Nat} (hi : i < n) : ∃ b o A' n' c', A = some ⟨b, o, none⟩ ∧ b < w.heap.size ∧ w.cell? ⟨b, o + i, none⟩ = some (.slice A' n' c') ∧ BsA w g A' n' c' (ls[i]'(by have := h.len; omega)) := by
  obtain ⟨b, o, hA, hb, _, hc⟩ := h.cells (by omega)
  obtain ⟨A', n', c', h1, h2⟩ := hc i (by have := h.len; omega)
  exact ⟨b, o, A', n', c', hA, hb, h1, h2⟩
theorem LsA.of_ls (h : Ls w B A n c ls) (hB : B ≤ g) (hw : B ≤ w.heap.size) : LsA w g A n c ls :=
  ⟨h.len, h.cap, h.max, fun h0 => by
    obtain ⟨b, o, hA, hb, hc⟩ := h.cells h0
    refine ⟨b, o, hA, by omega, by omega, fun j hj => ?_⟩
    obtain ⟨A', n', c', h1, h2⟩ := hc j hj
    exact ⟨A', n', c', h1, BsA.of_bs h2 hB hw⟩⟩
/-- one slice, laid in a block of its own, is a list of one -/
theorem LsA.one (t : TypeId) (h : BsA w g A n c l) (hg : g < w.heap.size) : LsA (w.alloc (.cells #[.slice A n c] t)) g (some ⟨w.heap.size, 0, none⟩) 1 1 [l] := by
  refine ⟨rfl, Nat.le_refl _, by simp [maxLen], fun _ => ⟨w.heap.size, 0, rfl, by simp, by omega, fun j hj => ?_⟩⟩
  obtain rfl : j = 0 := by simp at hj; omega
  refine ⟨A, n, c, ?_, ⟨(h.bs.alloc (Nat.le_refl _) _).more (by simp), h.apart⟩⟩
  rw [World.cell?_alloc_at _ _ _ _ rfl]; rfl
theorem grown_below {w' : World} (hb : Below w.heap.size w w') (row : Option Nat) : w.grownBy w' row := ⟨hb.os, hb.tape, hb.output, hb.size, fun k hk _ => hb.block k hk⟩
theorem grown_only (h : Only g w w') : w.grownBy w' (some g) := ⟨h.os, h.tape, h.output, by rw [h.size]; exact Nat.le_refl _, fun k _ hne => h.block k (fun e => hne (by rw [e]))⟩
theorem grown_trans {w2 : World} {row : Option Nat} (h : w.grownBy w' row) (h2 : w'.grownBy w2 row) : w.grownBy w2 row :=
  ⟨h2.os.trans h.os, h2.tape.trans h.tape, h2.output.trans h.output, Nat.le_trans h.size h2.size, fun k hk hne => (h2.block k (Nat.lt_of_lt_of_le hk h.size) hne).trans (h.block k hk hne)⟩
theorem grown_refl (w : World) (row : Option Nat) : w.grownBy w row := ⟨rfl, rfl, rfl, Nat.le_refl _, fun _ _ _ => rfl⟩
theorem grown_drew (w : World) (row : Option Nat) : w.grownBy w.drew row := ⟨rfl, rfl, rfl, Nat.le_refl _, fun _ _ _ => rfl⟩
theorem grown_set (w : World) (g i : Nat) (v : Value) : w.grownBy (w.setCell ⟨g, i, none⟩ v) (some g) := grown_only (Only.setCell w ⟨g, i, none⟩ v)
theorem below_grown {w' : World} (h : w.grownBy w' (some g)) (hB : B ≤ g) (hw : B ≤ w.heap.size) : Below B w w' := ⟨h.os, h.tape, h.output, h.size, fun k hk => h.block k (by omega) (fun e => by have := Option.some.inj e; omega)⟩
theorem own_grown {base n : Nat} {e : TypeId} {v : Value} {xs : List Value} (h : w.ownsRow base e 1 v n xs) (hg : w.grownBy w' (some g)) (hb : g < base) : w'.ownsRow base e 1 v n xs := by
  refine ⟨h.1, ?_⟩
  rcases h.2 with h1 | ⟨k, cap, cur, h1, hk, hh, hr⟩
  · exact .inl h1
  · exact .inr ⟨k, cap, cur, h1, hk, (hg.block k (Array.getElem?_eq_some_iff.1 hh).1 (fun e => by have := Option.some.inj e; omega)).trans hh, hr⟩
theorem Blk.grown {k : Nat} {t : TypeId} {cs : List Value} (h : Blk w k t cs) (hg : w.grownBy w' (some g)) (hk : k ≠ g) : Blk w' k t cs := ⟨(hg.block k h.lt (fun e => hk (Option.some.inj e))).trans h.heap⟩
end
section
variable {P : Program} {w : World} {ops : Array Oper} {rest : List Oper} {o : Oper} {a : Act} {Q : Exit → Act → World → Prop} {t e : TypeId} {z : Value} {bytes : Nat}
/-- x[i:] of bytes that lie apart -/
theorem wpList_cut_lA (E : El P t e z bytes) (hg : o.guard = none) (x lo : Operand) (hop : o.op = Op.slice t x (some lo) none none)
    {g : Nat} {A : Option Addr} {n c : Nat} {l : List UInt8} (hx : a.eval x = .slice A n c) (hb : BsA w g A n c l) (k : IntKind) (I : Int) (i : Nat) (hlo : a.eval lo = .int k I) (hI : I = i) (hi : i ≤ n)
    (h : ∀ A' d, BsA w g A' (n - i) d (l.drop i) → wpList P ops Q rest (a.put o.dst (.slice A' (n - i) d)) w) : wpList P ops Q (o :: rest) a w := by
  subst hI
  refine wpList_plain hg fun K hK => ?_
  have hrun := run_slice_l (P := P) (w := w) t A n c E.ty' k (i : Int) (by omega) (by omega)
  rw [E.sizeOf] at hrun
  have h2 := hb.bs.cut (i := i) (k := n) hi (Nat.le_refl _)
  rw [List.take_of_length_le (by rw [hb.bs.len]; exact Nat.le_refl _)] at h2
  unfold Oper.wp
  simp [execOp, hop, hx, hlo, run_sliceAt_slice (P := P) (w := w) t _ _ _ _ E.ty', hrun, Result.andThen, sliced]
  refine hK _ _ (h _ _ ⟨h2, fun ad hA h0 => ?_⟩)
  have hc := hb.bs.cap
  rw [if_neg (by omega)] at hA
  cases A with
  | none => simp at hA
  | some ad0 =>
    simp at hA
    have := hb.apart ad0 rfl (by omega)
    rw [← hA]
    unfold Addr.add
    split <;> exact this
end
end Go.Proofs.YtckmobpjdpjocaaDoor

namespace Go.Proofs.YtckmobpjdpjocaaDoor
open Go.RowKit

section
variable {P : Program} {w w' : World} {ops : Array Oper} {rest : List Oper} {o : Oper} {a : Act} {Q : Exit → Act → World → Prop} {t : TypeId}
theorem wpList_build0 (hg : o.guard = none) (hop : o.op = .build t #[]) {cs : List Value} (hb : P.built t [] = some cs.toArray)
    (h : wpList P ops Q rest (a.put o.dst (.agg cs.toArray)) w) : wpList P ops Q (o :: rest) a w := by
  refine wpList_plain hg fun K hK => ?_
  unfold Oper.wp execOp
  have hr := run_build (P := P) w t #[] cs.toArray (by simpa using hb)
  simp only [hop, Sem.run_bind, List.map_toArray, List.map_nil, hr, Result.andThen_ok]
  exact hK _ _ h
theorem wpList_build2 (hg : o.guard = none) (i j : Nat) (x y : Operand) (hop : o.op = .build t #[(i, x), (j, y)]) {v u : Value} (hx : a.eval x = v) (hy : a.eval y = u) {cs : List Value} (hb : P.built t [(i, v), (j, u)] = some cs.toArray)
    (h : wpList P ops Q rest (a.put o.dst (.agg cs.toArray)) w) : wpList P ops Q (o :: rest) a w := by
  refine wpList_plain hg fun K hK => ?_
  unfold Oper.wp execOp
  have hr := run_build (P := P) w t #[(i, v), (j, u)] cs.toArray (by simpa using hb)
  simp only [hop, Sem.run_bind, List.map_toArray, List.map_cons, List.map_nil, hx, hy, hr, Result.andThen_ok]
  exact hK _ _ h
/-- an array or a struct, and one thing more, as results -/
theorem ret_two {fn : Func} {R : Ending → World → Prop} {p q : Tmp} {d : TypeDesc} {n : Nat} (hr : fn.results = #[.cell p t, .tmp q]) (E : Rw P t d n) {g : Nat} {t' : TypeId} {cs : List Value} {v2 : Value} (hx : a.tmps.getD p undef = .pointer (some ⟨g, 0, none⟩)) (hq : a.tmps.getD q undef = v2) (hb : Blk w g t' cs) (hn : cs.length = n) (hd : a.defers = [])
    (h : R (.returned (.tuple #[.agg cs.toArray, v2])) w) : bodyPost P fn R .ret a w := by
  have hl := run_load_rw (w := w) E hb (off := 0) (by omega)
  simp only [Instr.loadAt, Instr.sureAddr, Sem.run_bind, Sem.run_pure, Result.andThen_ok] at hl
  have e : (cs.drop 0).take n = cs := by rw [List.drop_zero, List.take_of_length_le (by omega)]
  rw [e] at hl
  have hx' : a.tmps[p]?.getD undef = .pointer (some ⟨g, 0, none⟩) := by simpa using hx
  have hq' : a.tmps[q]?.getD undef = v2 := by simpa using hq
  exact bodyPost_ret (v := .tuple #[.agg cs.toArray, v2]) (by simp only [results, hr]; simp [hx', hq', asAddr, hl]) hd h
end

def z256 : List UInt8 := List.replicate 256 0
theorem z256_length : z256.length = 256 := List.length_replicate
theorem ty256 : Ty Tryd.prog 57 (cells8 z256) := ⟨by kernel_rfl⟩
theorem rw256 : Rw Tryd.prog 57 (.array 256 5) 256 := ⟨by kernel_rfl, rfl, by kernel_rfl⟩
theorem built256 : Tryd.prog.built 57 [] = some (cells8 z256).toArray := by kernel_rfl

/-- the variable that errors.As reads holds the type 'error' -/
structure Ety (w : World) : Prop where
  cell : w.cell? ⟨0, 0, none⟩ = some (.iface 123 (.agg #[.pointer (some ⟨1, 59, none⟩)]))
theorem Ety.lt {w : World} (h : Ety w) : 0 < w.heap.size := by
  rcases Nat.eq_zero_or_pos w.heap.size with h0 | h1
  · have := h.cell; simp [World.cell?, h0] at this
  · exact h1
theorem Ety.below {w w' : World} {B : Nat} (h : Ety w) (hb : Below B w w') (hB : 0 < B) : Ety w' := ⟨(hb.cell (p := ⟨0, 0, none⟩) hB).trans h.cell⟩
theorem Ety.next {w w' : World} (h : Ety w) (hb : Below w.heap.size w w') : Ety w' := h.below hb h.lt
theorem Ety.drew {w : World} (h : Ety w) : Ety w.drew := ⟨h.cell⟩
/-- an error of package block, number 4 -/
structure Flt (w : World) (v : Value) (g : Nat) : Prop where
  val : v = .iface 89 (.pointer (some ⟨g, 0, none⟩))
  lt : g < w.heap.size
  cell : w.cell? ⟨g, 0, none⟩ = some (.int .i64 4)
theorem Flt.below {w w' : World} {B g : Nat} {v : Value} (h : Flt w v g) (hb : Below B w w') (hg : g < B) : Flt w' v g :=
  ⟨h.val, by have := hb.size; have h2 := h.lt; first | omega | exact (Array.getElem?_eq_some_iff.1 (by
    have h3 := hb.block g hg
    rw [h3]; exact Array.getElem?_eq_getElem h2)).1, (hb.cell (p := ⟨g, 0, none⟩) hg).trans h.cell⟩

set_option maxRecDepth 100000 in
set_option maxHeartbeats 1000000 in
theorem fill_ok (A : Option Addr) (n c : Nat) (b : List UInt8) (w : World) (ha : Bs w w.heap.size A n c b) (hn : n ≤ 256) :
    Calls Tryd.prog 23 #[.slice A n c] w fun e w' => e = .returned (.tuple #[.agg (cells8 (pad256 b)).toArray, .nilIface]) ∧ Below w.heap.size w w' := by
  have HA : Kp _ := ⟨ha⟩
  have HLb : Kp (b.length = n) := ⟨ha.len⟩
  have hn2 := ha.cap
  have hn3 := ha.le
  have hnI : (n : Int) ≤ 256 := by omega
  clear ha
  go_enter Tryd.func23, Tryd.ntmps23
  go_wp2_with (with_reducible refine wpList_alloc (o := ⟨some 2, _, _, _, _, _⟩) ty256 rfl rfl ?_)
  intro w1 hk1 hb1 hs1
  have HK1 : Kp _ := ⟨hk1⟩
  have HA1 : Kp _ := ⟨HA.out.next hb1 (Nat.le_refl _)⟩
  clear hk1 hs1 HA
  go_wp2_with fail
  refine (pad256_any A n c b _ HA1.out hn).mono ?_
  rintro x w2 ⟨A2, c2, rfl, hB2, hb2⟩
  have HK2 : Kp _ := ⟨HK1.out.below hb2 HK1.out.lt⟩
  replace hb2 := hb1.trans (hb2.mono hb1.size)
  obtain ⟨b5, o5, rfl, _, hr5⟩ := hB2.range (by omega)
  have HR5 : Kp _ := ⟨hr5 256⟩
  have hpl : (pad256 b).length = 256 := pad256_length b (by rw [HLb.out]; exact hn)
  rw [List.take_of_length_le (Nat.le_of_eq hpl)] at HR5
  have HZ : Kp ((cells8 z256).length = 256) := ⟨by rw [cells8_length, z256_length]⟩
  have HLn : Kp ((cells8 (pad256 b)).length = 256) := ⟨by rw [cells8_length, hpl]⟩
  clear hr5 hB2 hb1 HK1 HA1 hpl HLb
  obtain ⟨L, hL⟩ : ∃ L, L = cells8 (pad256 b) := ⟨_, rfl⟩
  have HG : Kp (L = cells8 (pad256 b)) := ⟨hL⟩
  have HOne : Kp (∀ v ∈ L, v.oneCell' = true) := ⟨by rw [hL]; exact cells8_one _⟩
  rw [← hL] at HR5 HLn
  clear hL
  go_wp2_with (first
    | (with_reducible refine wpList_toArr Tryd.underlying57 rfl (.tmp 12) rfl rfl (Nat.le_refl _) ?_)
    | (with_reducible refine wpList_loadR (o := ⟨some 14, _, _, _, _, _⟩) rw256 rfl (.tmp 13) rfl rfl HR5.out HLn.out ?_)
    | (with_reducible refine wpList_storeAll (o := ⟨none, _, _, _, _, _⟩) (vs := L) rw256 rfl (.tmp 2) (.tmp 14) rfl rfl HK2.out HZ.out HLn.out HOne.out rfl ?_))
  intro w6 hk6 ho6
  have HK6 : Kp _ := ⟨hk6⟩
  clear hk6
  go_wp2
  exact ret_two (v2 := .nilIface) rfl rw256 rfl rfl HK6.out HLn.out rfl ⟨by rw [HG.out], hb2.trans (ho6.below (Nat.le_refl _))⟩

set_option maxRecDepth 100000 in
set_option maxHeartbeats 1000000 in
theorem fill_bad (A : Option Addr) (n c : Nat) (b : List UInt8) (w : World) (ha : Bs w w.heap.size A n c b) (hn : 256 < n) :
    Calls Tryd.prog 23 #[.slice A n c] w fun e w' => ∃ v g, e = .returned (.tuple #[.agg (cells8 z256).toArray, v]) ∧ Flt w' v g ∧ Below w.heap.size w w' := by
  have hn2 := ha.cap
  have hn3 := ha.le
  have hnI : (256 : Int) < (n : Int) := by omega
  clear ha
  go_enter Tryd.func23, Tryd.ntmps23
  go_wp2_with (with_reducible refine wpList_alloc (o := ⟨some 2, _, _, _, _, _⟩) ty256 rfl rfl ?_)
  intro w1 hk1 hb1 hs1
  have HK1 : Kp _ := ⟨hk1⟩
  clear hk1 hs1
  obtain ⟨L, hL⟩ : ∃ L, L = cells8 z256 := ⟨_, rfl⟩
  have HG : Kp (L = cells8 z256) := ⟨hL⟩
  have HOne : Kp (∀ v ∈ L, v.oneCell' = true) := ⟨by rw [hL]; exact cells8_one _⟩
  have HLn : Kp (L.length = 256) := ⟨by rw [hL, cells8_length, z256_length]⟩
  have HB0 : Kp (Tryd.prog.built 57 [] = some L.toArray) := ⟨by rw [hL]; exact built256⟩
  rw [← hL] at HK1
  clear hL
  go_wp2_with (first
    | (with_reducible refine wpList_build0 (o := ⟨some 7, _, _, _, _, _⟩) rfl rfl HB0.out ?_)
    | (refine wpList_box (o := ⟨some 9, _, _, _, _, _⟩) rfl (.tmp 8) rfl rfl ?_))
  intro w2 hk2 hb2 hs2
  have HK2 : Kp _ := ⟨HK1.out.below hb2 HK1.out.lt⟩
  have HF : Kp _ := ⟨hk2⟩
  have hlt := HK1.out.lt
  replace hb2 := hb1.trans (hb2.mono hb1.size)
  clear hk2 hs2 hb1 HK1
  go_wp2_with (with_reducible refine wpList_storeAll (o := ⟨none, _, _, _, _, _⟩) (vs := L) rw256 rfl (.tmp 2) (.tmp 7) rfl rfl HK2.out HLn.out HLn.out HOne.out rfl ?_)
  intro w6 hk6 ho6
  have HK6 : Kp _ := ⟨hk6⟩
  have HF6 : Kp _ := ⟨HF.out.only ho6 (by omega)⟩
  clear hk6
  go_wp2
  refine ret_two (v2 := .iface 89 (.pointer (some ⟨w1.heap.size, 0, none⟩))) rfl rw256 rfl rfl HK6.out HLn.out rfl ?_
  exact ⟨_, w1.heap.size, by rw [HG.out], ⟨rfl, HF6.out.lt, HF6.out.cell (i := 0) (by simp)⟩, hb2.trans (ho6.below (Nat.le_refl _))⟩

/-- no error -/
theorem number_ok (w : World) : Calls Tryd.prog 24 #[.nilIface] w fun e w' => e = .returned (.int .i64 0) ∧ Below w.heap.size w w' := by
  go_enter Tryd.func24, Tryd.ntmps24
  go_wp2_with (go_at_call 43; refine (as_nil _ _).mono ?_; rintro e w' ⟨rfl, rfl⟩)
  go_ret
  exact ⟨rfl, (Below.refl _ _).alloc (Nat.le_refl _) _⟩

theorem grown_alloc (w : World) (g : Nat) (o : Obj) : w.grownBy (w.alloc o) (some g) := grown_below ((Below.refl _ _).alloc (Nat.le_refl _) o) _
theorem as_hit7 (e : Addr) (g : Nat) (w : World) (hk : Blk w g 89 [.pointer none]) (hg : Ety w) :
    Calls Tryd.prog 43 #[.iface 89 (.pointer (some e)), .iface 93 (.pointer (some ⟨g, 0, none⟩))] w fun ev w' => ev = .returned (.bool true) ∧ Blk w' g 89 [.pointer (some e)] ∧ w.grownBy w' (some g) := by
  refine (as_hit e ⟨g, 0, none⟩ (.pointer none) w hg.cell (hk.cell (i := 0) (by simp)) (hk.frozen 0)).mono ?_
  rintro ev w' ⟨rfl, rfl⟩
  refine ⟨rfl, ?_, ?_⟩
  · exact (((((hk.alloc _).alloc _).alloc _).alloc _).set 0 _)
  · exact grown_trans (grown_trans (grown_trans (grown_trans (grown_alloc _ _ _) (grown_alloc _ _ _)) (grown_alloc _ _ _)) (grown_alloc _ _ _)) (grown_set _ _ _ _)
set_option maxHeartbeats 1000000 in
/-- an error of this package -/
theorem number_bad (v : Value) (g : Nat) (w : World) (hf : Flt w v g) (he : Ety w) : Calls Tryd.prog 24 #[v] w fun e w' => e = .returned (.int .i64 4) ∧ Below w.heap.size w w' := by
  obtain ⟨rfl, hgl, hc⟩ := hf
  have HC : Kp _ := ⟨hc⟩
  have HE : Kp _ := ⟨he⟩
  clear hc he
  go_enter Tryd.func24, Tryd.ntmps24
  have hk1 : Blk (w.alloc (.cells #[.pointer none] 89)) w.heap.size 89 [.pointer none] := Blk.new w _ _
  have hb1 : Below w.heap.size w (w.alloc (.cells #[.pointer none] 89)) := (Below.refl _ _).alloc (Nat.le_refl _) _
  have HK1 : Kp _ := ⟨hk1⟩
  have HE1 : Kp _ := ⟨HE.out.next hb1⟩
  have HC1 : Kp _ := ⟨(hb1.cell (p := ⟨g, 0, none⟩) hgl).trans HC.out⟩
  have hsz := hk1.lt
  clear hk1 HC HE
  go_wp2_with fail
  refine (as_hit7 ⟨g, 0, none⟩ _ _ HK1.out HE1.out).mono ?_
  rintro x w2 ⟨rfl, hk2, hgr⟩
  have hc2 : w2.cell? ⟨w.heap.size, 0, none⟩ = some (.pointer (some ⟨g, 0, none⟩)) := hk2.cell (i := 0) (by simp)
  have hc3 : w2.cell? ⟨g, 0, none⟩ = some (.int .i64 4) := by
    have hb := hgr.block g (by have := hb1.size; omega) (by intro h; have := Option.some.inj h; omega)
    have h4 := HC1.out
    simp only [World.cell?] at h4 ⊢
    rw [hb]
    exact h4
  have hB := hb1.trans (below_grown hgr (Nat.le_refl _) (Nat.le_of_lt hsz))
  clear hk2 hgr
  go_wp2
  go_ret
  exact ⟨rfl, hB⟩
end Go.Proofs.YtckmobpjdpjocaaDoor

namespace Go.Proofs.YtckmobpjdpjocaaDoor
open Go.RowKit

theorem yieldsIf_cut_h {P : Program} {ops : Array Oper} {S : World → Prop} {op : Oper} {a : Act} {t e : TypeId} {z : Value} {bytes : Nat} (hw : Region.wanted op (yielded ops a.tmps) = true) (E : El P t e z bytes) (x hi : Operand) (ho : op.op = .slice t x none (some hi) none)
    {A : Option Addr} {n c : Nat} (hx : a.eval x = .slice A n c) {k : IntKind} {I : Int} (hhi : a.eval hi = .int k I) (j : Nat) (hI : I = j) (hj : j ≤ c) : YieldsIf P ops S op (.slice A j c) a := by
  subst hI
  refine .inl ⟨hw, fun w _ => ?_⟩
  have hrun := run_slice_h (P := P) (w := w) t A n c E.ty' k (j : Int) (by omega) (by omega)
  rw [E.sizeOf] at hrun
  unfold execOp
  simp [ho, hx, hhi, run_sliceAt_slice (P := P) (w := w) t _ _ _ _ E.ty', hrun, Result.andThen, sliced]
  try (cases A <;> simp [Addr.add])
end Go.Proofs.YtckmobpjdpjocaaDoor

namespace Go.Proofs.YtckmobpjdpjocaaDoor
open Go.RowKit

def cellsI (l : List UInt8) : List Value := l.map fun b => Value.int .i64 (b.toNat : Int)
theorem cellsI_length (l : List UInt8) : (cellsI l).length = l.length := by simp [cellsI]
theorem cellsI_append (l m : List UInt8) : cellsI (l ++ m) = cellsI l ++ cellsI m := by simp [cellsI]
theorem cellsI_one (l : List UInt8) : ∀ u ∈ cellsI l, u.oneCell' = true := by
  intro u hu
  obtain ⟨_, _, rfl⟩ := List.mem_map.1 hu
  rfl
theorem cellsI_at (l : List UInt8) (j : Nat) (h : j < l.length) : (cellsI l)[j]? = some (.int .i64 (l[j].toNat : Int)) := by
  simp [cellsI, List.getElem?_eq_getElem h]
theorem cellsI_some {l : List UInt8} {j : Nat} {u : Value} (h : (cellsI l)[j]? = some u) : ∃ hj : j < l.length, u = .int .i64 (l[j].toNat : Int) := by
  have hj : j < l.length := by
    have := (List.getElem?_eq_some_iff.1 h).1
    simpa [cellsI] using this
  refine ⟨hj, ?_⟩
  rw [cellsI_at l j hj] at h
  exact (Option.some.inj h).symm

/-- A slice of n of room c at A reads as the bytes l, each an int; its cells lie below block B. -/
structure Is (w : World) (B : Nat) (A : Option Addr) (n c : Nat) (l : List UInt8) : Prop where
  len : l.length = n
  cap : n ≤ c
  max : c ≤ maxLen
  nil : A = none → c = 0
  cells : 0 < n → ∃ b o, A = some ⟨b, o, none⟩ ∧ b < B ∧ ∀ j (h : j < l.length), w.cell? ⟨b, o + j, none⟩ = some (.int .i64 (l[j].toNat : Int))
section
variable {w w' : World} {B B' : Nat} {A : Option Addr} {n c : Nat} {l : List UInt8}
theorem Is.keep (h : Is w B A n c l) (hk : ∀ p : Addr, p.block < B → w'.cell? p = w.cell? p) : Is w' B A n c l :=
  ⟨h.len, h.cap, h.max, h.nil, fun h0 => by
    obtain ⟨b, o, hA, hb, hc⟩ := h.cells h0
    exact ⟨b, o, hA, hb, fun j hj => (hk _ hb).trans (hc j hj)⟩⟩
theorem Is.more (h : Is w B A n c l) (hB : B ≤ B') : Is w B' A n c l :=
  ⟨h.len, h.cap, h.max, h.nil, fun h0 => by
    obtain ⟨b, o, hA, hb, hc⟩ := h.cells h0
    exact ⟨b, o, hA, by omega, hc⟩⟩
theorem Is.below (h : Is w B A n c l) (hb : Below B w w') : Is w' B A n c l := h.keep fun _ hp => hb.cell hp
theorem Is.next {w0 w1 : World} (h : Is w0 B A n c l) (hb : Below w0.heap.size w0 w1) (hB : B ≤ w0.heap.size) : Is w1 w1.heap.size A n c l :=
  (h.below (hb.mono hB)).more (Nat.le_trans hB hb.size)
theorem Is.cell (h : Is w B A n c l) {i : Nat} (hi : i < n) : ∃ b o, A = some ⟨b, o, none⟩ ∧ b < B ∧ w.cell? ⟨b, o + i, none⟩ = some (.int .i64 ((l[i]'(by have := h.len; omega)).toNat : Int)) := by
  obtain ⟨b, o, hA, hb, hc⟩ := h.cells (by omega)
  exact ⟨b, o, hA, hb, hc i (by have := h.len; omega)⟩
theorem Is.news (h : Is w B A n c l) : ∀ ad, A = some ad → ∀ j u, (cellsI l)[j]? = some u → w.cell? (ad.add j) = some u := by
  intro ad hA j u hu
  obtain ⟨hj, rfl⟩ := cellsI_some hu
  obtain ⟨b, o, hA', _, hc⟩ := h.cells (by have := h.len; omega)
  rw [hA] at hA'
  obtain rfl := Option.some.inj hA'
  rw [Addr.add_lit]
  exact hc j hj
theorem Is.of_own {base : Nat} {e : TypeId} {v : Value} (h : w.ownsRow base e 1 v n (cellsI l)) : ∃ A c, v = .slice A n c ∧ Is w w.heap.size A n c l := by
  have hl : l.length = n := by have := h.1; rw [cellsI_length] at this; omega
  rcases h.2 with ⟨rfl, rfl⟩ | ⟨g, cap, cur, rfl, hg, hh, hn, hm, hs, ht⟩
  · obtain rfl : l = [] := List.eq_nil_of_length_eq_zero hl
    exact ⟨none, 0, rfl, rfl, Nat.le_refl _, Nat.zero_le _, fun _ => rfl, fun h => absurd h (by omega)⟩
  · refine ⟨some ⟨g, 0, none⟩, cap, rfl, hl, hn, hm, (fun h => by cases h), fun h0 => ⟨g, 0, rfl, (Array.getElem?_eq_some_iff.1 hh).1, fun j hj => ?_⟩⟩
    have := h.cells (g := g) rfl j _ (cellsI_at l j hj)
    rwa [Addr.add_lit] at this
/-- a block of ints that has just been laid -/
theorem Is.laid (w : World) (t : TypeId) (l : List UInt8) (hm : l.length ≤ maxLen) : Is (w.alloc (.cells (cellsI l).toArray t)) (w.heap.size + 1) (some ⟨w.heap.size, 0, none⟩) l.length l.length l := by
  refine ⟨rfl, Nat.le_refl _, hm, (fun h => by cases h), fun _ => ⟨w.heap.size, 0, rfl, by omega, fun j hj => ?_⟩⟩
  rw [World.cell?_alloc_at _ _ _ _ rfl]
  have := cellsI_at l j hj
  simpa using this
end
end Go.Proofs.YtckmobpjdpjocaaDoor

namespace Go.Proofs.YtckmobpjdpjocaaDoor

/-- twice, in the field -/
def xt (a : UInt8) : UInt8 := if 128 ≤ a.toNat then UInt8.ofNat (2 * a.toNat - 256) ^^^ 27 else UInt8.ofNat (2 * a.toNat)
def half (b : UInt8) : UInt8 := UInt8.ofNat (b.toNat / 2)
structure MulSt where
  n : UInt8
  a : UInt8
  b : UInt8
def mulStep (s : MulSt) : MulSt := ⟨if s.b.toNat % 2 = 1 then s.n ^^^ s.a else s.n, xt s.a, half s.b⟩
def mulIt (x y : UInt8) : Nat → MulSt
  | 0 => ⟨0, x, y⟩
  | k + 1 => mulStep (mulIt x y k)
/-- the product -/
def mulU (x y : UInt8) : UInt8 := (mulIt x y 8).n
theorem half_val (b : UInt8) : (b.toNat : Int) / 2 = ((half b).toNat : Int) := by
  have h : (half b).toNat = b.toNat / 2 := by
    unfold half
    rw [UInt8.toNat_ofNat']
    have := b.toNat_lt
    omega
  rw [h]; omega
theorem xt_low (a : UInt8) (h : a.toNat < 128) : 2 * (a.toNat : Int) = ((xt a).toNat : Int) := by
  unfold xt
  rw [if_neg (by omega), UInt8.toNat_ofNat']
  omega
theorem xt_high_nat : ∀ n < 256, 128 ≤ n → (2 * n) ^^^ 283 = (xt (UInt8.ofNat n)).toNat := by decide +kernel
theorem xt_high (a : UInt8) (h : 128 ≤ a.toNat) : (2 * a.toNat) ^^^ 283 = (xt a).toNat := by
  have := xt_high_nat a.toNat a.toNat_lt h
  rwa [show UInt8.ofNat a.toNat = a by simp] at this
end Go.Proofs.YtckmobpjdpjocaaDoor

namespace Go.Proofs.YtckmobpjdpjocaaDoor
open Go.RowKit

/-- a place, and so much more -/
def nextL (at' : List UInt8) (n : Nat) : List UInt8 := putN (getN at' + n) 16
theorem nextL_length (a : List UInt8) (n : Nat) : (nextL a n).length = 16 := putN_length _ _
theorem putN_mod (n m : Nat) : putN (n % 256 ^ m) m = putN n m := by
  have h := putN_getN (putN n m)
  rw [getN_putN, putN_length] at h
  exact h
/-- what the bytes from k on, and n more, come to -/
def nextS (a : List UInt8) (n k : Nat) : Nat := getN (a.drop k) + n
def nextC (a : List UInt8) (n k : Nat) : List UInt8 := a.take k ++ putN (nextS a n k) (16 - k)
theorem nextC_length (a : List UInt8) (n k : Nat) (ha : a.length = 16) (hk : k ≤ 16) : (nextC a n k).length = 16 := by
  unfold nextC; rw [List.length_append, putN_length, List.length_take]; omega
theorem nextS_step (a : List UInt8) (n k : Nat) (hk : k < a.length) (ha : a.length = 16) : nextS a n k = a[k].toNat * 256 ^ (15 - k) + nextS a n (k + 1) := by
  unfold nextS
  have e : a.drop k = [a[k]] ++ a.drop (k + 1) := by rw [List.drop_eq_getElem_cons hk]; rfl
  rw [e, getN_append, List.length_drop, ha, show 16 - (k + 1) = 15 - k by omega]
  have e1 : getN [a[k]] = a[k].toNat := by simp [getN]
  rw [e1]; omega
theorem next_div (a : List UInt8) (n k : Nat) (hk : k < a.length) (ha : a.length = 16) : nextS a n k / 256 ^ (15 - k) = a[k].toNat + nextS a n (k + 1) / 256 ^ (15 - k) := by
  rw [nextS_step a n k hk ha, Nat.add_comm, Nat.add_mul_div_right _ _ (Nat.pow_pos (by decide)), Nat.add_comm]
theorem next_carry (a : List UInt8) (n k : Nat) (hk : k < a.length) (ha : a.length = 16) : nextS a n k / 256 ^ (16 - k) = (a[k].toNat + nextS a n (k + 1) / 256 ^ (16 - (k + 1))) / 256 := by
  rw [show 16 - k = (15 - k) + 1 by omega, Nat.pow_succ, ← Nat.div_div_eq_div_mul, next_div a n k hk ha, show 16 - (k + 1) = 15 - k by omega]
theorem next_row (a : List UInt8) (n k : Nat) (hk : k < a.length) (ha : a.length = 16) :
    (cells8 (nextC a n (k + 1))).set k (.int .u8 ((UInt8.ofNat (a[k].toNat + nextS a n (k + 1) / 256 ^ (16 - (k + 1)))).toNat : Int)) = cells8 (nextC a n k) := by
  have h0 : 16 - k = (15 - k) + 1 := by omega
  have h1 : 16 - (k + 1) = 15 - k := by omega
  unfold nextC
  rw [h0, h1, putN_front, next_div a n k hk ha]
  have e2 : putN (nextS a n k) (15 - k) = putN (nextS a n (k + 1)) (15 - k) := by
    rw [← putN_mod (nextS a n k), ← putN_mod (nextS a n (k + 1)), nextS_step a n k hk ha, Nat.add_comm, Nat.add_mul_mod_self_right]
  rw [e2, List.take_succ_eq_append_getElem hk, List.append_assoc, cells8_append, cells8_append, List.set_append_right _ _ (by rw [cells8_length, List.length_take]; omega), cells8_length, List.length_take, Nat.min_eq_left (by omega), Nat.sub_self, cells8_append]
  rfl
theorem next_at (a : List UInt8) (n k : Nat) (hk : k < a.length) (ha : a.length = 16) : (cells8 (nextC a n (k + 1)))[k]? = some (.int .u8 (a[k].toNat : Int)) := by
  have hl := nextC_length a n (k + 1) ha (by omega)
  rw [cells8_at _ k (by omega)]
  have e : (nextC a n (k + 1))[k]'(by omega) = a[k] := by
    unfold nextC
    rw [List.getElem_append_left (by rw [List.length_take]; omega), List.getElem_take]
  rw [e]
theorem nextC_done (a : List UInt8) (n : Nat) : nextC a n 0 = nextL a n := by simp [nextC, nextS, nextL]
theorem nextC_start (a : List UInt8) (n : Nat) (ha : a.length = 16) : nextC a n 16 = a := by
  unfold nextC; rw [List.take_of_length_le (by omega)]; simp [putN]

def zero16 : List Value := cells8 (List.replicate 16 0)
theorem tyNonce : Ty Tryd.prog 39 zero16 := ⟨by kernel_rfl⟩
theorem rwNonce : Rw Tryd.prog 39 (.array 16 5) 16 := ⟨by kernel_rfl, rfl, by kernel_rfl⟩

set_option maxRecDepth 100000 in
set_option maxHeartbeats 4000000 in
theorem refnext_mid (a : List UInt8) (N : Nat) (w : World) (ha : a.length = 16) (hN : N ≤ 9223372036854775807) :
    Calls Tryd.prog 60 #[.agg (cells8 a).toArray, .int .i64 (N : Int)] w fun e w' => e = .returned (.agg (cells8 (nextL a N)).toArray) ∧ Below w.heap.size w w' := by
  have HLa : Kp (a.length = 16) := ⟨ha⟩
  clear ha
  go_enter Tryd.func60, Tryd.ntmps60
  go_wp2_with (with_reducible refine wpList_box (o := ⟨some 2, _, _, _, _, _⟩) rfl (.tmp 0) rfl rfl ?_)
  intro w1 hk1 hb1 hs1
  have HK1 : Kp _ := ⟨hk1⟩
  clear hk1 hs1
  go_wp2_with (with_reducible refine wpList_alloc (o := ⟨some 4, _, _, _, _, _⟩) tyNonce rfl rfl ?_)
  intro w2 hk2 hb2 hs2
  have HR2 : Kp _ := ⟨hk2⟩
  have hl1 := HK1.out.lt
  have HK2 : Kp (Blk w2 w.heap.size 39 (cells8 (nextC a N 16))) := ⟨by rw [nextC_start _ _ HLa.out]; exact HK1.out.below hb2 hl1⟩
  have hB2 : Below w.heap.size w w2 := hb1.trans (hb2.mono hb1.size)
  have hs1 := hb1.size
  obtain ⟨g, hg⟩ : ∃ g, g = w1.heap.size := ⟨_, rfl⟩
  rw [← hg] at HR2 ⊢
  have hgg : w.heap.size < g := by omega
  clear hk2 HK1 hb1 hb2 hs2 hg
  have h0 : (0 : Int) ≤ (N : Int) := by omega
  go_wp2
  go_loopw [1, 5] (fun vn vi wr => ∃ (k q : Nat), k ≤ 16 ∧ vi = .int .i64 ((k : Int) - 1) ∧ vn = .int .i64 q ∧ q ≤ 9223372036854775807 ∧ Kp (q = nextS a N k / 256 ^ (16 - k)) ∧ Kp (Blk wr w.heap.size 39 (cells8 (nextC a N k))) ∧ Only w.heap.size w2 wr) (fun _ vi _ => (intOf vi + 1).toNat)
  case atStart => exact ⟨16, N, by omega, rfl, by first | rfl | simp, by omega, ⟨by unfold nextS; rw [List.drop_of_length_le (by rw [HLa.out]; exact Nat.le_refl _)]; simp [getN]⟩, HK2, Only.refl _ _⟩
  case round =>
    clear HK2
    obtain ⟨k, q, hk, rfl, rfl, hq, HQ, HB, ho⟩ := hrel
    cases k with
    | zero =>
      have HD : Kp (Blk wr w.heap.size 39 (cells8 (nextL a N))) := ⟨by rw [← nextC_done]; exact HB.out⟩
      have HLen : Kp ((cells8 (nextL a N)).length = 16) := ⟨by rw [cells8_length, nextL_length]⟩
      have HZ : Kp (zero16.length = 16) := ⟨rfl⟩
      have HRr : Kp _ := ⟨HR2.out.only ho (by omega)⟩
      generalize hL : nextL a N = L at *
      have HL : Kp _ := ⟨hL⟩
      clear HB HQ hL
      have hneg : ¬ (0 : Int) ≤ ((0 : Nat) : Int) - 1 := by omega
      go_wp2_with (first
        | (with_reducible refine wpList_loadAll (o := ⟨some 30, _, _, _, _, _⟩) rwNonce rfl (.tmp 2) rfl rfl HD.out HLen.out ?_)
        | (with_reducible refine wpList_storeAll (o := ⟨none, _, _, _, _, _⟩) (vs := cells8 L) rwNonce rfl (.tmp 4) (.tmp 30) rfl rfl HRr.out HZ.out HLen.out (cells8_one _) rfl ?_))
      intro w5 hk5 ho5
      have HK5 : Kp _ := ⟨hk5⟩
      clear hk5
      go_wp2
      exact ret_arr rfl rwNonce rfl HK5.out HLen.out rfl ⟨by rw [HL.out], (hB2.trans (ho.below (Nat.le_refl _))).trans (ho5.below (Nat.le_of_lt hgg))⟩
    | succ k =>
      have hkl : k < a.length := by rw [HLa.out]; omega
      have hc : wr.cell? ⟨w.heap.size, k, none⟩ = some (.int .u8 (a[k].toNat : Int)) := by rw [HB.out.cell? k]; exact next_at a N k hkl HLa.out
      have hf := HB.out.frozen k
      have HN : Kp _ := ⟨next_row a N k hkl HLa.out⟩
      have HC : Kp _ := ⟨next_carry a N k hkl HLa.out⟩
      rw [← HQ.out] at HN HC
      have hb8 := a[k].toNat_lt
      generalize a[k] = b at *
      have e1 : ((k + 1 : Nat) : Int) - 1 = (k : Int) := by omega
      rw [e1]
      have hge : (0 : Int) ≤ (k : Int) := by omega
      clear e1 HQ hkl
      go_wp2
      refine ⟨⟨k, (b.toNat + q) / 256, by omega, by go_num, ?_, by omega, ⟨HC.out.symm⟩, ⟨?_⟩, ho.trans (Only.setCell wr ⟨w.heap.size, k, none⟩ _)⟩, by first | (simp [intOf]; done) | (simp [intOf]; omega)⟩
      · first | rfl | (congr 1; omega)
      · have h3 := HB.out.set k (.int .u8 ((UInt8.ofNat (b.toNat + q)).toNat : Int))
        rw [HN.out] at h3
        have e : ((q : Int) + (b.toNat : Int)) % 256 = ((UInt8.ofNat (b.toNat + q)).toNat : Int) := by rw [ofNat_toNat]; omega
        rw [e]
        exact h3

set_option maxRecDepth 100000 in
set_option maxHeartbeats 4000000 in
theorem refnext_neg (a : List UInt8) (n : Int) (w : World) (ha : a.length = 16) (hn : n < 0) :
    Calls Tryd.prog 60 #[.agg (cells8 a).toArray, .int .i64 n] w fun e w' => e = .returned (.agg (cells8 (nextL a 0)).toArray) ∧ Below w.heap.size w w' := by
  have HLa : Kp (a.length = 16) := ⟨ha⟩
  clear ha
  go_enter Tryd.func60, Tryd.ntmps60
  go_wp2_with (with_reducible refine wpList_box (o := ⟨some 2, _, _, _, _, _⟩) rfl (.tmp 0) rfl rfl ?_)
  intro w1 hk1 hb1 hs1
  have HK1 : Kp _ := ⟨hk1⟩
  clear hk1 hs1
  go_wp2_with (with_reducible refine wpList_alloc (o := ⟨some 4, _, _, _, _, _⟩) tyNonce rfl rfl ?_)
  intro w2 hk2 hb2 hs2
  have HR2 : Kp _ := ⟨hk2⟩
  have hl1 := HK1.out.lt
  have HK2 : Kp (Blk w2 w.heap.size 39 (cells8 (nextC a 0 16))) := ⟨by rw [nextC_start _ _ HLa.out]; exact HK1.out.below hb2 hl1⟩
  have hB2 : Below w.heap.size w w2 := hb1.trans (hb2.mono hb1.size)
  have hs1 := hb1.size
  obtain ⟨g, hg⟩ : ∃ g, g = w1.heap.size := ⟨_, rfl⟩
  rw [← hg] at HR2 ⊢
  have hgg : w.heap.size < g := by omega
  clear hk2 HK1 hb1 hb2 hs2 hg
  go_wp2
  go_loopw [1, 5] (fun vn vi wr => ∃ (k q : Nat), k ≤ 16 ∧ vi = .int .i64 ((k : Int) - 1) ∧ vn = .int .i64 q ∧ q ≤ 9223372036854775807 ∧ Kp (q = nextS a 0 k / 256 ^ (16 - k)) ∧ Kp (Blk wr w.heap.size 39 (cells8 (nextC a 0 k))) ∧ Only w.heap.size w2 wr) (fun _ vi _ => (intOf vi + 1).toNat)
  case atStart => exact ⟨16, 0, by omega, rfl, by first | rfl | simp, by omega, ⟨by unfold nextS; rw [List.drop_of_length_le (by rw [HLa.out]; exact Nat.le_refl _)]; simp [getN]⟩, HK2, Only.refl _ _⟩
  case round =>
    clear HK2
    obtain ⟨k, q, hk, rfl, rfl, hq, HQ, HB, ho⟩ := hrel
    cases k with
    | zero =>
      have HD : Kp (Blk wr w.heap.size 39 (cells8 (nextL a 0))) := ⟨by rw [← nextC_done]; exact HB.out⟩
      have HLen : Kp ((cells8 (nextL a 0)).length = 16) := ⟨by rw [cells8_length, nextL_length]⟩
      have HZ : Kp (zero16.length = 16) := ⟨rfl⟩
      have HRr : Kp _ := ⟨HR2.out.only ho (by omega)⟩
      generalize hL : nextL a 0 = L at *
      have HL : Kp _ := ⟨hL⟩
      clear HB HQ hL
      have hneg : ¬ (0 : Int) ≤ ((0 : Nat) : Int) - 1 := by omega
      go_wp2_with (first
        | (with_reducible refine wpList_loadAll (o := ⟨some 30, _, _, _, _, _⟩) rwNonce rfl (.tmp 2) rfl rfl HD.out HLen.out ?_)
        | (with_reducible refine wpList_storeAll (o := ⟨none, _, _, _, _, _⟩) (vs := cells8 L) rwNonce rfl (.tmp 4) (.tmp 30) rfl rfl HRr.out HZ.out HLen.out (cells8_one _) rfl ?_))
      intro w5 hk5 ho5
      have HK5 : Kp _ := ⟨hk5⟩
      clear hk5
      go_wp2
      exact ret_arr rfl rwNonce rfl HK5.out HLen.out rfl ⟨by rw [HL.out], (hB2.trans (ho.below (Nat.le_refl _))).trans (ho5.below (Nat.le_of_lt hgg))⟩
    | succ k =>
      have hkl : k < a.length := by rw [HLa.out]; omega
      have hc : wr.cell? ⟨w.heap.size, k, none⟩ = some (.int .u8 (a[k].toNat : Int)) := by rw [HB.out.cell? k]; exact next_at a 0 k hkl HLa.out
      have hf := HB.out.frozen k
      have HN : Kp _ := ⟨next_row a 0 k hkl HLa.out⟩
      have HC : Kp _ := ⟨next_carry a 0 k hkl HLa.out⟩
      rw [← HQ.out] at HN HC
      have hb8 := a[k].toNat_lt
      generalize a[k] = b at *
      have e1 : ((k + 1 : Nat) : Int) - 1 = (k : Int) := by omega
      rw [e1]
      have hge : (0 : Int) ≤ (k : Int) := by omega
      clear e1 HQ hkl
      go_wp2
      refine ⟨⟨k, (b.toNat + q) / 256, by omega, by go_num, ?_, by omega, ⟨HC.out.symm⟩, ⟨?_⟩, ho.trans (Only.setCell wr ⟨w.heap.size, k, none⟩ _)⟩, by first | (simp [intOf]; done) | (simp [intOf]; omega)⟩
      · first | rfl | (congr 1; omega)
      · have h3 := HB.out.set k (.int .u8 ((UInt8.ofNat (b.toNat + q)).toNat : Int))
        rw [HN.out] at h3
        have e : ((q : Int) + (b.toNat : Int)) % 256 = ((UInt8.ofNat (b.toNat + q)).toNat : Int) := by rw [ofNat_toNat]; omega
        rw [e]
        exact h3

theorem refnext_any (a : List UInt8) (n : Int) (w : World) (ha : a.length = 16) (hn : n ≤ 9223372036854775807) :
    Calls Tryd.prog 60 #[.agg (cells8 a).toArray, .int .i64 n] w fun e w' => e = .returned (.agg (cells8 (nextL a n.toNat)).toArray) ∧ Below w.heap.size w w' := by
  rcases (by omega : n < 0 ∨ 0 ≤ n) with h | h
  · have e1 : n.toNat = 0 := by omega
    rw [e1]; exact refnext_neg a n w ha h
  · obtain ⟨N, rfl⟩ := Int.eq_ofNat_of_zero_le h
    exact refnext_mid a N w ha (by omega)
end Go.Proofs.YtckmobpjdpjocaaDoor
