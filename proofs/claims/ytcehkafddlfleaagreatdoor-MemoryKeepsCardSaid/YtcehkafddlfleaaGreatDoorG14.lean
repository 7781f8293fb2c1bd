/- 
   
   
   
    -/
import Derived.Test.YtcehkafddlfleaaGreatDoorG08
import Derived.Test.YtcehkafddlfleaaGreatDoorG05
import Derived.Deep.Matrix
import Derived.Test.YtcehkafddlfleaaGreatDoorG04
import Derived.Laws.Tables
import Derived.ChangeKeysEq
import Derived.Test.YtcehkafddlfleaaGreatDoorG01
import Derived.Test.YtcehkafddlfleaaGreatDoorG06
namespace Go.Proofs.YtcehkafddlfleaaGreatDoor
open Go.RowKit
theorem padK_row (fl : List UInt8) (c : UInt8) (k : Nat) (hk : k < 64) :
  (cells8 (padK fl c k ++ List.replicate (64 - k) 0)).set k (.int .u8 ((fl.getD k 0 ^^^ c).toNat : Int)) = cells8 (padK fl c (k + 1) ++ List.replicate (64 - (k + 1)) 0) := by
 have h1 : (padK fl c k).length = k := padK_length _ _ _
 rw [padK_succ, List.append_assoc, cells8_append, cells8_append, List.set_append_right _ _ (by rw [cells8_length]; omega), cells8_length, h1, Nat.sub_self]
 rw [show 64 - k = (64 - (k + 1)) + 1 by omega, List.replicate_succ]
 rfl
theorem padK_padL (key : List UInt8) (c : UInt8) (n : Nat) : padK (padL key 64) c n = padK key c n := by
 unfold padK
 refine List.map_congr_left fun i _ => ?_
 congr 1
 unfold padL
 simp only [List.getD_eq_getElem?_getD]
 by_cases h : i < key.length
 ·rw [List.getElem?_append_left h]
 ·rw [List.getElem?_append_right (by omega), List.getElem?_eq_none (show key.length ≤ i by omega), List.getElem?_replicate]
  split <;> rfl
section
attribute [local go_sem] u8_xor
set_option maxHeartbeats 1000000 in
theorem padv_any (g : Nat) (F : Option Addr) (d : Nat) (fl : List UInt8) (c : UInt8) (w : World) (hc : w.cell? ⟨g, 0, none⟩ = some (.slice F 64 d)) (hg : g < w.heap.size) (ha : Bs w w.heap.size F 64 d fl) :
  Calls Tryz.prog 175 #[.int .u8 c.toNat, .pointer (some ⟨g, 0, none⟩)] w fun e w' => ∃ v, e = .returned v ∧ w'.ownsRow w.heap.size 5 1 v 64 (cells8 (padK fl c 64)) ∧ Below w.heap.size w w' := by
 have HA : Kp _ := ⟨ha⟩
 have HN : Kp _ := ⟨ha.len⟩
 have HC : Kp _ := ⟨hc⟩
 clear ha hc
 go_enter Tryz.func175, Tryz.ntmps175
 go_wp2_with (with_reducible refine wpList_mk (o := ⟨some 6, _, _, _, _, _⟩) el8 rfl _ _ rfl w.heap.size _ _ _ _ 64 rfl rfl (by omega) (by omega) (by omega) (by simp only [maxLen]; omega) (Nat.le_refl _) ?_)
 intro w1 hown hg1
 have hb1 : Below w.heap.size w w1 := (Below.refl _ _).grown hg1 (Nat.le_refl _) (by simp)
 have H1 := Lib.hid hown
 clear hg1 hown
 go_wp2
 go_loopw [9] (fun i wr => ∃ k : Nat, k ≤ 64 ∧ i = .int .i64 k ∧ Hid (wr.ownsRow w.heap.size 5 1 (.slice (some ⟨w.heap.size, 0, none⟩) 64 64) 64 (cells8 (padK fl c k ++ List.replicate (64 - k) 0))) ∧ Below w.heap.size w wr) (fun i _ => 64 - (intOf i).toNat)
 case atStart => exact ⟨0, Nat.zero_le _, rfl, by simpa [cells8, padK] using H1, hb1⟩
 case round =>
  obtain ⟨k, hk, rfl, H, hb⟩ := hrel
  by_cases hlt : k < 64
  ·have hkl : k < fl.length := by rw [HN.out]; exact hlt
   have hcv : wr.cell? ⟨g, 0, none⟩ = some (.slice F 64 d) := (hb.cell hg).trans HC.out
   obtain ⟨b, o, rfl, _, hcx⟩ := (HA.out.below hb).cell hlt
   have HX : Kp (fl.getD k 0 = fl[k]) := ⟨by simp [List.getD, List.getElem?_eq_getElem hkl]⟩
   have HR := Lib.hid (padK_row fl c k hlt)
   rw [← HX.out] at hcx
   generalize fl.getD k 0 = x at *
   have hcz : (wr.cell? ⟨w.heap.size, k, none⟩).isSome = true := by
    rw [H.out.cellAt k (by omega)]
    simp [cells8, padK]; omega
   have hf := H.out.frozenAt k
   obtain ⟨z, hz⟩ := Option.isSome_iff_exists.1 hcz
   clear hcz
   go_wp2
   go_roundw
   case rel =>
    have hst := H.out.stored k (.int .u8 ((x ^^^ c).toNat : Int))
    refine ⟨k + 1, by omega, by go_num, ?_, hb.setCell (Nat.le_refl _) _⟩
    show World.ownsRow _ _ _ _ _ _ _
    rw [← HR.out]
    exact hst.1
   case measure => simp [intOf]; omega
  ·obtain rfl : k = 64 := by omega
   have H2 := H.out
   rw [Nat.sub_self] at H2
   simp only [List.replicate_zero, List.append_nil] at H2
   have H3 := Lib.hid H2
   clear H2
   go_wp2
   go_ret
   exact ⟨_, rfl, H3.out, hb⟩
end
end Go.Proofs.YtcehkafddlfleaaGreatDoor

namespace Go.Proofs.YtcehkafddlfleaaGreatDoor
open Go.RowKit Go.Deep
abbrev Hd := Int × Option Addr × Nat × Nat
def hdCells : List Hd → List Value
 | [] => []
 | x :: l => .int .i64 x.1 :: .slice x.2.1 x.2.2.1 x.2.2.2 :: hdCells l
theorem hdCells_length : ∀ L : List Hd, (hdCells L).length = L.length * 2
 | [] => rfl
 | x :: l => by simp [hdCells, hdCells_length l]; omega
theorem hdCells_at : ∀ (L : List Hd) (j : Nat) (h : j < L.length), (hdCells L)[j * 2]? = some (.int .i64 L[j].1) ∧ (hdCells L)[j * 2 + 1]? = some (.slice L[j].2.1 L[j].2.2.1 L[j].2.2.2)
 | x :: l, 0, _ => ⟨rfl, rfl⟩
 | x :: l, j + 1, h => by
  have ih := hdCells_at l j (by simpa using h)
  rw [show (j + 1) * 2 = j * 2 + 1 + 1 by omega]
  simp only [hdCells, List.getElem?_cons_succ, List.getElem_cons_succ]
  exact ih
theorem hdCells_some {L : List Hd} {j : Nat} {u : Value} (h : (hdCells L)[j]? = some u) : ∃ i, ∃ hi : i < L.length, (j = i * 2 ∧ u = .int .i64 L[i].1) ∨ (j = i * 2 + 1 ∧ u = .slice L[i].2.1 L[i].2.2.1 L[i].2.2.2) := by
 have hj : j < L.length * 2 := by
  have := (List.getElem?_eq_some_iff.1 h).1
  rwa [hdCells_length] at this
 have hi : j / 2 < L.length := by omega
 refine ⟨j / 2, hi, ?_⟩
 obtain ⟨h1, h2⟩ := hdCells_at L (j / 2) hi
 rcases Nat.mod_two_eq_zero_or_one j with e | e
 ·have e2 : j = j / 2 * 2 := by omega
  rw [← e2] at h1
  exact .inl ⟨e2, Option.some.inj (h.symm.trans h1)⟩
 ·have e2 : j = j / 2 * 2 + 1 := by omega
  rw [← e2] at h2
  exact .inr ⟨e2, Option.some.inj (h.symm.trans h2)⟩
structure Leads (w : World) (B : Nat) (L : List Hd) (its : List (Int × List UInt8)) : Prop where
 len : L.length = its.length
 wf : ∀ x ∈ its, (Lit.int .i64 x.1).wf = true
 each : ∀ j (h : j < its.length), (L[j]'(by omega)).1 = its[j].1 ∧ Bs w B (L[j]'(by omega)).2.1 (L[j]'(by omega)).2.2.1 (L[j]'(by omega)).2.2.2 its[j].2
section
variable {w w' : World} {B B' : Nat} {A : Option Addr} {n c : Nat} {its its' : List (Int × List UInt8)} {L M : List Hd}
theorem Leads.nil (w : World) (B : Nat) : Leads w B [] [] := ⟨rfl, (fun x h => by cases h), fun j h => by cases h⟩
theorem Leads.below (h : Leads w B L its) (hb : Below B w w') : Leads w' B L its := ⟨h.len, h.wf, fun j hj => ⟨(h.each j hj).1, (h.each j hj).2.below hb⟩⟩
theorem Leads.more (h : Leads w B L its) (hB : B ≤ B') : Leads w B' L its := ⟨h.len, h.wf, fun j hj => ⟨(h.each j hj).1, (h.each j hj).2.more hB⟩⟩
theorem Leads.append (h : Leads w B L its) (k : Leads w B M its') : Leads w B (L ++ M) (its ++ its') := by
 refine ⟨by simp [h.len, k.len], fun x hx => ?_, fun j hj => ?_⟩
 ·rcases List.mem_append.1 hx with hx | hx
  ·exact h.wf x hx
  ·exact k.wf x hx
 ·have hl := h.len
  by_cases hlt : j < its.length
  ·rw [List.getElem_append_left hlt, List.getElem_append_left (by omega)]
   exact h.each j hlt
  ·rw [List.getElem_append_right (by omega), List.getElem_append_right (by omega)]
   have h3 := k.each (j - its.length) (by simp at hj; omega)
   simp only [hl]
   exact h3
theorem Leads.one {z : Int} {l : List UInt8} (hz : (Lit.int .i64 z).wf = true) (hb : Bs w B A n c l) : Leads w B [(z, A, n, c)] [(z, l)] := by
 refine ⟨rfl, fun x hx => ?_, fun j hj => ?_⟩
 ·simp at hx; rw [hx]; exact hz
 ·obtain rfl : j = 0 := by simp at hj; omega
  exact ⟨rfl, hb⟩
theorem Its.heads (h : Its w B A n c its) : ∃ L, Leads w B L its ∧ (∀ ad, A = some ad → ∀ j u, (hdCells L)[j]? = some u → w.cell? (ad.add j) = some u) := by
 have hlen := h.len
 rcases Nat.eq_zero_or_pos n with h0 | h0
 ·obtain rfl : its = [] := List.eq_nil_of_length_eq_zero (by omega)
  exact ⟨[], Leads.nil _ _, fun ad _ j u hu => by simp [hdCells] at hu⟩
 ·obtain ⟨b, o, rfl, hb, hc⟩ := h.cells h0
  have each : ∀ j, j < n → ∃ y : Hd, w.cell? ⟨b, o + j * 2, none⟩ = some (.int .i64 y.1) ∧ w.cell? ⟨b, o + j * 2 + 1, none⟩ = some (.slice y.2.1 y.2.2.1 y.2.2.2) ∧ ∀ hj : j < its.length, y.1 = its[j].1 ∧ Bs w B y.2.1 y.2.2.1 y.2.2.2 its[j].2 := by
   intro j hj
   obtain ⟨A', n', c', h1, h2, h3⟩ := hc j (by omega)
   exact ⟨(its[j].1, A', n', c'), h1, h2, fun _ => ⟨rfl, h3⟩⟩
  obtain ⟨y, hy⟩ := choose_lt each
  refine ⟨(List.range n).map y, ⟨by simp; omega, h.wf, fun j hj => ?_⟩, fun ad had j u hu => ?_⟩
  ·simp only [List.getElem_map, List.getElem_range]
   exact (hy j (by omega)).2.2 hj
  ·obtain rfl := Option.some.inj had
   obtain ⟨i, hi, ⟨rfl, rfl⟩ | ⟨rfl, rfl⟩⟩ := hdCells_some hu
   ·rw [Addr.add_lit]
    simp only [List.getElem_map, List.getElem_range]
    exact (hy i (by simpa using hi)).1
   ·rw [Addr.add_lit]
    simp only [List.getElem_map, List.getElem_range, ← Nat.add_assoc]
    exact (hy i (by simpa using hi)).2.1
end
section
variable {P : Program} {w : World} {ops : Array Oper} {rest : List Oper} {o : Oper} {a : Act} {Q : Exit → Act → World → Prop} {t e : TypeId} {z : Value} {bytes : Nat}
end
end Go.Proofs.YtcehkafddlfleaaGreatDoor

namespace Go.Proofs.YtcehkafddlfleaaGreatDoor
open Go.RowKit
section
variable {P : Program} {w : World} {ops : Array Oper} {rest : List Oper} {o : Oper} {a : Act} {Q : Exit → Act → World → Prop} {t : TypeId}
theorem wpList_build1 (hg : o.guard = none) (i : Nat) (x : Operand) (hop : o.op = .build t #[(i, x)]) {v : Value} (hx : a.eval x = v) {cs : List Value} (hb : P.built t [(i, v)] = some cs.toArray)
  (h : wpList P ops Q rest (a.put o.dst (.agg cs.toArray)) w) : wpList P ops Q (o :: rest) a w := by
 refine wpList_plain hg fun K hK => ?_
 unfold Oper.wp execOp
 have hr := run_build (P := P) w t #[(i, v)] cs.toArray (by simpa using hb)
 simp only [hop, Sem.run_bind, List.map_toArray, List.map_cons, List.map_nil, hx, hr, Result.andThen_ok]
 exact hK _ _ h
theorem step_alloc {K : Act → World → Prop} {C : Prop} {zs : List Value} (E : Ty P t zs) (hgd : o.guard = none) (hop : o.op = .alloc t)
  (h : ∀ w', Blk w' w.heap.size t zs → Below w.heap.size w w' → K (a.put o.dst (.pointer (some ⟨w.heap.size, 0, none⟩))) w') :
  if Region.wanted o (yielded ops a.tmps) = true then Oper.wp P o a w K Q else C := by
 have hw : Region.wanted o (yielded ops a.tmps) = true := by simp [Region.wanted, hgd]
 rw [if_pos hw]
 unfold Oper.wp
 simp only [execOp, hop, Sem.run_bind, run_alloc_ty E, Result.andThen_ok, Sem.run_pure]
 exact h _ (Blk.new w t zs) ((Below.refl _ _).alloc (Nat.le_refl _) _)
theorem wpList_loadv {d : TypeDesc} {n : Nat} (E : Rw P t d n) (hg : o.guard = none) (x : Operand) (hop : o.op = .load t x) {g off : Nat} {t' : TypeId} {cs vs : List Value} (hx : a.eval x = .pointer (some ⟨g, off, none⟩)) (hb : Blk w g t' cs) (hfit : off + n ≤ cs.length) (hv : (cs.drop off).take n = vs)
  (h : wpList P ops Q rest (a.put o.dst (.agg vs.toArray)) w) : wpList P ops Q (o :: rest) a w := by
 subst hv
 exact wpList_load E hg x hop hx hb hfit h
end
end Go.Proofs.YtcehkafddlfleaaGreatDoor

namespace Go.Proofs.YtcehkafddlfleaaGreatDoor
open Go.RowKit
structure Plain1 (P : Program) (e : TypeId) : Prop where
 size : (P.info? e).map (·.size) = some 1
 plain : (match P.underlying e with | some (.int _) => true | some .bool => true | some .string => true | some (.slice _) => true | some (.pointer _) => true | _ => false) = true
theorem run_index_agg {P : Program} {t e : TypeId} {n : Nat} (ht : P.underlying t = some (.array n e)) (E : Plain1 P e) (cs : List Value) (k : IntKind) (i : Nat) (hi : i < n) (v : Value) (hv : cs[i]? = some v) (w : World) :
  (Instr.index t (.agg cs.toArray) (.int k (i : Int))).run P w = .ok v w := by
 have hin : (0 : Int) ≤ (i : Int) ∧ (i : Int) < (n : Int) := by omega
 obtain ⟨inf, hinf, hsz⟩ : ∃ inf, P.info? e = some inf ∧ inf.size = 1 := by
  have h := E.size
  cases hq : P.info? e with
  | none => simp [hq] at h
  | some x => exact ⟨x, rfl, by simpa [hq] using h⟩
 have hs : (Go.sizeOf e).run P w = .ok 1 w := by simp [Go.sizeOf, typeInfo, hinf, hsz]
 have hp : (part e cs.toArray i).run P w = .ok v w := by
  have hpl := E.plain
  unfold part
  cases hu : P.underlying e with
  | none => rw [hu] at hpl; simp at hpl
  | some d =>
   rw [hu] at hpl
   cases d <;> simp at hpl <;> simp [isAgg, run_underlying hu, hv]
 simp only [Instr.index, asIntOf, Sem.run_bind, Sem.run_pure, Result.andThen_ok, run_underlying ht, if_pos hin, hs, Int.toNat_natCast, Nat.mul_one, hp]
section
variable {P : Program} {w : World} {ops : Array Oper} {rest : List Oper} {o : Oper} {a : Act} {Q : Exit → Act → World → Prop} {t e : TypeId}
theorem wpList_index {n : Nat} (ht : P.underlying t = some (.array n e)) (E : Plain1 P e) (hg : o.guard = none) (x j : Operand) (hop : o.op = .index t x j) {cs : List Value} (hx : a.eval x = .agg cs.toArray) {k : IntKind} {I : Int} (hj : a.eval j = .int k I) (i : Nat) (hI : I = (i : Int)) (hi : i < n) {v : Value} (hv : cs[i]? = some v)
  (h : wpList P ops Q rest (a.put o.dst v) w) : wpList P ops Q (o :: rest) a w := by
 subst hI
 refine wpList_plain hg fun K hK => ?_
 unfold Oper.wp
 simp only [execOp, hop, hx, hj, Sem.run_bind, run_index_agg ht E cs k i hi v hv, Result.andThen_ok, Sem.run_pure]
 exact hK _ _ h
end
end Go.Proofs.YtcehkafddlfleaaGreatDoor

namespace Go.Proofs.YtcehkafddlfleaaGreatDoor
open Go.RowKit
def tagsL (key lab : List UInt8) : Nat → List UInt8
 | 0 => []
 | k + 1 => tagsL key lab k ++ hmacL key (lab ++ putN (k + 1) 4)
theorem tagsL_length (key lab : List UInt8) (k : Nat) : (tagsL key lab k).length = 32 * k := by
 induction k with
 | zero => rfl
 | succ k ih => simp only [tagsL, List.length_append, ih]; unfold hmacL; rw [shaL_len]; omega
def clipN (n : Int) : Nat := (max 0 (min n 1024)).toNat
def deriveL (key lab : List UInt8) (n : Int) : List UInt8 := (tagsL key lab ((clipN n + 31) / 32)).take (clipN n)
theorem tagsL_take (key lab : List UInt8) (j k : Nat) (h : j ≤ k) : (tagsL key lab k).take (32 * j) = tagsL key lab j := by
 induction k with
 | zero =>
      obtain rfl : j = 0 := by omega
      rfl
 | succ k ih =>
  by_cases hj : j ≤ k
  ·rw [tagsL, List.take_append_of_le_length (by rw [tagsL_length]; omega), ih hj]
  ·obtain rfl : j = k + 1 := by omega
   rw [List.take_of_length_le (by rw [tagsL_length]; exact Nat.le_refl _)]
theorem tags_any (key lab : List UInt8) (n : Int) (k : Nat) (h : clipN n ≤ 32 * k) : (tagsL key lab k).take (clipN n) = deriveL key lab n := by
 unfold deriveL
 have hjk : (clipN n + 31) / 32 ≤ k := by omega
 rw [← tagsL_take key lab _ k hjk, List.take_take, Nat.min_eq_left (by omega)]
end Go.Proofs.YtcehkafddlfleaaGreatDoor
