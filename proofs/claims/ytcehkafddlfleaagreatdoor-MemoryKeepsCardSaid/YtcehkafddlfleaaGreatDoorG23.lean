/- 
   
   
    -/
import Derived.Test.YtcehkafddlfleaaGreatDoorG06
import Derived.Test.YtcehkafddlfleaaGreatDoorG04
import Derived.Test.YtcehkafddlfleaaGreatDoorG08
import Derived.Test.YtcehkafddlfleaaGreatDoorG01
import Derived.Test.YtcehkafddlfleaaGreatDoorG14
import Derived.Test.YtcehkafddlfleaaGreatDoorG05
import Derived.Test.YtcehkafddlfleaaGreatDoorG10
import Derived.Test.YtcehkafddlfleaaGreatDoorG07
import Derived.Laws.Cover3
import Derived.Test.YtcehkafddlfleaaGreatDoorG02
import Derived.Test.YtcehkafddlfleaaGreatDoorG15
import Derived.Deep.RegionHeld3
namespace Go.Proofs.YtcehkafddlfleaaGreatDoor
open Go.RowKit
section
variable {P : Program} {w w' : World} {ops : Array Oper} {rest : List Oper} {o : Oper} {a : Act} {Q : Exit → Act → World → Prop} {t e : TypeId}
theorem wpList_toArr {N : Nat} (ht : P.underlying t = some (.array N e)) (hg : o.guard = none) (x : Operand) (hop : o.op = .sliceToArrayPointer t x) {A : Option Addr} {n c : Nat} (hx : a.eval x = .slice A n c) (hn : N ≤ n)
  (h : wpList P ops Q rest (a.put o.dst (.pointer A)) w) : wpList P ops Q (o :: rest) a w := by
 refine wpList_plain hg fun K hK => ?_
 unfold Oper.wp
 simp only [execOp, hop, hx, Sem.run_bind, run_arrayAt w t e N A n c ht hn, Result.andThen_ok, Sem.run_pure]
 exact hK _ _ h
theorem wpList_loadR {d : TypeDesc} {n : Nat} (E : Rw P t d n) (hg : o.guard = none) (x : Operand) (hop : o.op = .load t x) {g off : Nat} {vs : List Value} (hx : a.eval x = .pointer (some ⟨g, off, none⟩)) (hr : w.rangeAt g off vs) (hn : vs.length = n)
  (h : wpList P ops Q rest (a.put o.dst (.agg vs.toArray)) w) : wpList P ops Q (o :: rest) a w := by
 refine wpList_plain hg fun K hK => ?_
 unfold Oper.wp
 simp only [execOp, hop, hx, Sem.run_bind, run_loadAt_mid w g off t vs d hr E.ty E.row (by rw [E.size, hn]), Result.andThen_ok, Sem.run_pure]
 exact hK _ _ h
theorem Bs.rangeAt {B : Nat} {A : Option Addr} {n c : Nat} {l : List UInt8} {ad : Addr} (h : Bs w B A n c l) (hA : A = some ad) (hs : ad.spot = none) (k : Nat) : w.rangeAt ad.block ad.off (cells8 (l.take k)) := by
 intro j v hv
 obtain ⟨hj, rfl⟩ := cells8_some hv
 have hj' : j < l.length := by simp at hj; omega
 have h1 := h.news ad hA j _ (cells8_at l j hj')
 have e : ad.add j = ⟨ad.block, ad.off + j, none⟩ := by
  cases ad with
  | mk b o s => simp only at hs; subst hs; exact Addr.add_lit _ _ _
 rw [← e, h1]
 simp
theorem Bs.range {B : Nat} {A : Option Addr} {n c : Nat} {l : List UInt8} (h : Bs w B A n c l) (h0 : 0 < n) : ∃ b o, A = some ⟨b, o, none⟩ ∧ b < B ∧ ∀ k, w.rangeAt b o (cells8 (l.take k)) := by
 obtain ⟨b, o, rfl, hb, _⟩ := h.cells h0
 exact ⟨b, o, rfl, hb, fun k => h.rangeAt rfl rfl k⟩
theorem Ls.three {A A2 A3 : Option Addr} {n c n2 c2 n3 c3 : Nat} {l l2 l3 : List UInt8} (t : TypeId) (h : Bs w w.heap.size A n c l) (h2 : Bs w w.heap.size A2 n2 c2 l2) (h3 : Bs w w.heap.size A3 n3 c3 l3) :
  Ls (w.alloc (.cells #[.slice A n c, .slice A2 n2 c2, .slice A3 n3 c3] t)) (w.heap.size + 1) (some ⟨w.heap.size, 0, none⟩) 3 3 [l, l2, l3] := by
 refine ⟨rfl, Nat.le_refl _, by simp [maxLen], (fun h => by cases h), fun _ => ⟨w.heap.size, 0, rfl, by omega, fun j hj => ?_⟩⟩
 rcases (by simp at hj; omega : j = 0 ∨ j = 1 ∨ j = 2) with rfl | rfl | rfl
 ·refine ⟨A, n, c, ?_, (h.alloc (Nat.le_refl _) _).more (by omega)⟩
  rw [World.cell?_alloc_at _ _ _ _ rfl]; rfl
 ·refine ⟨A2, n2, c2, ?_, (h2.alloc (Nat.le_refl _) _).more (by omega)⟩
  rw [World.cell?_alloc_at _ _ _ _ rfl]; rfl
 ·refine ⟨A3, n3, c3, ?_, (h3.alloc (Nat.le_refl _) _).more (by omega)⟩
  rw [World.cell?_alloc_at _ _ _ _ rfl]; rfl
end
theorem ls_three (W : World) (t : TypeId) {A B C : Option Addr} {n c m d k f : Nat} {la lb lc : List UInt8} (ha : Bs W W.heap.size A n c la) (hb : Bs W W.heap.size B m d lb) (hc : Bs W W.heap.size C k f lc) :
  Ls (W.alloc (.cells #[.slice A n c, .slice B m d, .slice C k f] t)) (W.alloc (.cells #[.slice A n c, .slice B m d, .slice C k f] t)).heap.size (some ⟨W.heap.size, 0, none⟩) 3 3 [la, lb, lc] := (Ls.three t ha hb hc).more (by simp)
def headL (e s : Nat) : List UInt8 := putN e 8 ++ (putN s 4 ++ putN 0 4)
theorem headL_length (e s : Nat) : (headL e s).length = 16 := by simp [headL, putN_length]
theorem putN_zeros : putN 0 4 = [0, 0, 0, 0] := by decide
theorem put87_any (n : Nat) (w : World) (hn : n < 18446744073709551616) :
  Calls Tryz.prog 123 #[.int .u64 n, .int .i64 8] w fun e w' => ∃ A c, e = .returned (.slice A 8 c) ∧ Bs w' w'.heap.size A 8 c (putN n 8) ∧ Below w.heap.size w w' := by
 refine (put_any n 8 w hn).mono ?_
 rintro e w' ⟨v, rfl, ho, hb⟩
 obtain ⟨A, c, rfl, hB⟩ := Bs.of_own ho
 exact ⟨A, c, rfl, hB, hb⟩
theorem put47_any (n : Nat) (w : World) (hn : n < 18446744073709551616) :
  Calls Tryz.prog 123 #[.int .u64 n, .int .i64 4] w fun e w' => ∃ A c, e = .returned (.slice A 4 c) ∧ Bs w' w'.heap.size A 4 c (putN n 4) ∧ Below w.heap.size w w' := by
 refine (put_any n 4 w hn).mono ?_
 rintro e w' ⟨v, rfl, ho, hb⟩
 obtain ⟨A, c, rfl, hB⟩ := Bs.of_own ho
 exact ⟨A, c, rfl, hB, hb⟩
def pad256 (b : List UInt8) : List UInt8 := b ++ List.replicate (256 - b.length) 0
theorem pad256_length (b : List UInt8) (h : b.length ≤ 256) : (pad256 b).length = 256 := by simp [pad256]; omega
theorem pad256_any (A : Option Addr) (n c : Nat) (xs : List UInt8) (w : World) (ha : Bs w w.heap.size A n c xs) (hn : n ≤ 256) :
  Calls Tryz.prog 76 #[.slice A n c, .int .i64 256] w fun e w' => ∃ A' c', e = .returned (.slice A' 256 c') ∧ Bs w' w'.heap.size A' 256 c' (pad256 xs) ∧ Below w.heap.size w w' := by
 refine (pad_any A n c 256 xs w ha (by omega) (by omega)).mono ?_
 rintro e w' ⟨v, rfl, ho, hb⟩
 have hl : (padL xs 256).length = 256 := by have := ha.len; exact pad256_length xs (by omega)
 obtain ⟨A', c', rfl, hB⟩ := Bs.of_own ho
 rw [hl] at hB
 exact ⟨A', c', by rw [hl], hB, hb⟩
theorem joinL_any (A : Option Addr) (n c : Nat) (ls : List (List UInt8)) (k : Nat) (l : List UInt8) (w : World) (ha : Ls w w.heap.size A n c ls) (hl : ls.flatten = l) (hk : l.length = k) (hn : k ≤ 4294967296) :
  Calls Tryz.prog 194 #[.slice A n c] w fun e w' => ∃ A' c', e = .returned (.slice A' k c') ∧ BsN w.heap.size w' A' k c' l ∧ Below w.heap.size w w' := by
 refine (join_any A n c ls w ha (by rw [hl]; omega)).mono ?_
 rintro e w' ⟨v, rfl, ho, hb⟩
 obtain ⟨A', c', rfl, hB⟩ := BsN.of_own ho
 subst hl hk
 exact ⟨A', c', rfl, hB, hb⟩
end Go.Proofs.YtcehkafddlfleaaGreatDoor

namespace Go.Proofs.YtcehkafddlfleaaGreatDoor
open Go.RowKit
section
variable {P : Program} {w w' : World} {ops : Array Oper} {rest : List Oper} {o : Oper} {a : Act} {Q : Exit → Act → World → Prop} {t : TypeId}
theorem wpList_build07 (hg : o.guard = none) (hop : o.op = .build t #[]) {cs : List Value} (hb : P.built t [] = some cs.toArray)
  (h : wpList P ops Q rest (a.put o.dst (.agg cs.toArray)) w) : wpList P ops Q (o :: rest) a w := by
 refine wpList_plain hg fun K hK => ?_
 unfold Oper.wp execOp
 have hr := run_build (P := P) w t #[] cs.toArray (by simpa using hb)
 simp only [hop, Sem.run_bind, List.map_toArray, List.map_nil, hr, Result.andThen_ok]
 exact hK _ _ h
theorem wpList_build2 (hg : o.guard = none) (i j : Nat) (x y : Operand) (hop : o.op = .build t #[(i, x), (j, y)]) {v u : Value} (hx : a.eval x = v) (hy : a.eval y = u) {cs : List Value} (hb : P.built t [(i, v), (j, u)] = some cs.toArray)
  (h : wpList P ops Q rest (a.put o.dst (.agg cs.toArray)) w) : wpList P ops Q (o :: rest) a w := by
 refine wpList_plain hg fun K hK => ?_
 unfold Oper.wp execOp
 have hr := run_build (P := P) w t #[(i, v), (j, u)] cs.toArray (by simpa using hb)
 simp only [hop, Sem.run_bind, List.map_toArray, List.map_cons, List.map_nil, hx, hy, hr, Result.andThen_ok]
 exact hK _ _ h
theorem ret_two7 {fn : Func} {R : Ending → World → Prop} {p q : Tmp} {d : TypeDesc} {n : Nat} (hr : fn.results = #[.cell p t, .tmp q]) (E : Rw P t d n) {g : Nat} {t' : TypeId} {cs : List Value} {v2 : Value} (hx : a.tmps.getD p undef = .pointer (some ⟨g, 0, none⟩)) (hq : a.tmps.getD q undef = v2) (hb : Blk w g t' cs) (hn : cs.length = n) (hd : a.defers = [])
  (h : R (.returned (.tuple #[.agg cs.toArray, v2])) w) : bodyPost P fn R .ret a w := by
 have hl := run_load_rw (w := w) E hb (off := 0) (by omega)
 simp only [Instr.loadAt, Instr.sureAddr, Sem.run_bind, Sem.run_pure, Result.andThen_ok] at hl
 have e : (cs.drop 0).take n = cs := by rw [List.drop_zero, List.take_of_length_le (by omega)]
 rw [e] at hl
 have hx' : a.tmps[p]?.getD undef = .pointer (some ⟨g, 0, none⟩) := by simpa using hx
 have hq' : a.tmps[q]?.getD undef = v2 := by simpa using hq
 exact bodyPost_ret (v := .tuple #[.agg cs.toArray, v2]) (by simp only [results, hr]; simp [hx', hq', asAddr, hl]) hd h
end
def z256 : List UInt8 := List.replicate 256 0
theorem z256_length : z256.length = 256 := List.length_replicate
theorem ty256 : Ty Tryz.prog 286 (cells8 z256) := ⟨by kernel_rfl⟩
theorem rw256 : Rw Tryz.prog 286 (.array 256 5) 256 := ⟨by kernel_rfl, rfl, by kernel_rfl⟩
structure Ety (w : World) : Prop where
 cell : w.cell? ⟨0, 0, none⟩ = some (.iface 273 (.agg #[.pointer (some ⟨1, 117, none⟩)]))
theorem Ety.lt {w : World} (h : Ety w) : 0 < w.heap.size := by
 rcases Nat.eq_zero_or_pos w.heap.size with h0 | h1
 ·have := h.cell; simp [World.cell?, h0] at this
 ·exact h1
theorem Ety.below {w w' : World} {B : Nat} (h : Ety w) (hb : Below B w w') (hB : 0 < B) : Ety w' := ⟨(hb.cell (p := ⟨0, 0, none⟩) hB).trans h.cell⟩
theorem Ety.next {w w' : World} (h : Ety w) (hb : Below w.heap.size w w') : Ety w' := h.below hb h.lt
theorem Ety.drew {w : World} (h : Ety w) : Ety w.drew := ⟨h.cell⟩
structure Flt (w : World) (v : Value) (g : Nat) : Prop where
 val : v = .iface 336 (.pointer (some ⟨g, 0, none⟩))
 lt : g < w.heap.size
 cell : w.cell? ⟨g, 0, none⟩ = some (.int .i64 4)
theorem Flt.below {w w' : World} {B g : Nat} {v : Value} (h : Flt w v g) (hb : Below B w w') (hg : g < B) : Flt w' v g :=
 ⟨h.val, by have := hb.size; have h2 := h.lt; first | omega | exact (Array.getElem?_eq_some_iff.1 (by
  have h3 := hb.block g hg
  rw [h3]; exact Array.getElem?_eq_getElem h2)).1, (hb.cell (p := ⟨g, 0, none⟩) hg).trans h.cell⟩
set_option maxRecDepth 100000 in
set_option maxHeartbeats 1000000 in
theorem fill_ok (A : Option Addr) (n c : Nat) (b : List UInt8) (w : World) (ha : Bs w w.heap.size A n c b) (hn : n ≤ 256) :
  Calls Tryz.prog 191 #[.slice A n c] w fun e w' => e = .returned (.tuple #[.agg (cells8 (pad256 b)).toArray, .nilIface]) ∧ Below w.heap.size w w' := by
 have HA : Kp _ := ⟨ha⟩
 have HLb : Kp (b.length = n) := ⟨ha.len⟩
 have hn2 := ha.cap
 have hn3 := ha.le
 have hnI : (n : Int) ≤ 256 := by omega
 clear ha
 go_enter Tryz.func191, Tryz.ntmps191
 go_wp2_with (with_reducible refine wpList_alloc (o := ⟨some 2, _, _, _, _, _⟩) ty256 rfl rfl ?_)
 intro w1 hk1 hb1 hs1
 have HK1 : Kp _ := ⟨hk1⟩
 have HA1 : Kp _ := ⟨HA.out.next hb1 (Nat.le_refl _)⟩
 clear hk1 hs1 HA
 go_wp2_with fail
 refine (pad256_any A n c b _ HA1.out hn).mono ?_
 rintro x w2 ⟨A2, c2, rfl, hB2, hb2⟩
 have HK2 : Kp _ := ⟨HK1.out.below hb2 HK1.out.lt⟩
 replace hb2 := hb1.trans (hb2.mono hb1.size)
 obtain ⟨b5, o5, rfl, _, hr5⟩ := hB2.range (by omega)
 have HR5 : Kp _ := ⟨hr5 256⟩
 have hpl : (pad256 b).length = 256 := pad256_length b (by rw [HLb.out]; exact hn)
 rw [List.take_of_length_le (Nat.le_of_eq hpl)] at HR5
 have HZ : Kp ((cells8 z256).length = 256) := ⟨by rw [cells8_length, z256_length]⟩
 have HLn : Kp ((cells8 (pad256 b)).length = 256) := ⟨by rw [cells8_length, hpl]⟩
 clear hr5 hB2 hb1 HK1 HA1 hpl HLb
 obtain ⟨L, hL⟩ : ∃ L, L = cells8 (pad256 b) := ⟨_, rfl⟩
 have HG : Kp (L = cells8 (pad256 b)) := ⟨hL⟩
 have HOne : Kp (∀ v ∈ L, v.oneCell' = true) := ⟨by rw [hL]; exact cells8_one _⟩
 rw [← hL] at HR5 HLn
 clear hL
 go_wp2_with (first
  | (with_reducible refine wpList_toArr Tryz.underlying286 rfl (.tmp 12) rfl rfl (Nat.le_refl _) ?_)
  | (with_reducible refine wpList_loadR (o := ⟨some 14, _, _, _, _, _⟩) rw256 rfl (.tmp 13) rfl rfl HR5.out HLn.out ?_)
  | (with_reducible refine wpList_storeAll (o := ⟨none, _, _, _, _, _⟩) (vs := L) rw256 rfl (.tmp 2) (.tmp 14) rfl rfl HK2.out HZ.out HLn.out HOne.out rfl ?_))
 intro w6 hk6 ho6
 have HK6 : Kp _ := ⟨hk6⟩
 clear hk6
 go_wp2
 exact ret_two7 (v2 := .nilIface) rfl rw256 rfl rfl HK6.out HLn.out rfl ⟨by rw [HG.out], hb2.trans (ho6.below (Nat.le_refl _))⟩
end Go.Proofs.YtcehkafddlfleaaGreatDoor

namespace Go.Proofs.YtcehkafddlfleaaGreatDoor
open Go.RowKit
theorem yieldsIf_toArr {P : Program} {ops : Array Oper} {S : World → Prop} {op : Oper} {a : Act} {t e : TypeId} {N : Nat} (hw : Region.wanted op (yielded ops a.tmps) = true) (ht : P.underlying t = some (.array N e)) (x : Operand) (ho : op.op = .sliceToArrayPointer t x)
  {A : Option Addr} {n c : Nat} (hx : a.eval x = .slice A n c) (hn : N ≤ n) : YieldsIf P ops S op (.pointer A) a :=
 .inl ⟨hw, fun w _ => by
  unfold execOp
  simp only [ho, hx, Sem.run_bind, run_arrayAt w t e N A n c ht hn, Result.andThen_ok, Sem.run_pure]⟩
theorem yieldsIf_build2 {P : Program} {ops : Array Oper} {S : World → Prop} {op : Oper} {a : Act} {t : TypeId} (hw : Region.wanted op (yielded ops a.tmps) = true) (i j : Nat) (x y : Operand) (ho : op.op = .build t #[(i, x), (j, y)]) {v u : Value} (hx : a.eval x = v) (hy : a.eval y = u) {cs : List Value} (hb : P.built t [(i, v), (j, u)] = some cs.toArray) : YieldsIf P ops S op (.agg cs.toArray) a :=
 .inl ⟨hw, fun w _ => by
  have hr := run_build (P := P) w t #[(i, v), (j, u)] cs.toArray (by simpa using hb)
  unfold execOp
  simp only [ho, Sem.run_bind, List.map_toArray, List.map_cons, List.map_nil, hx, hy, hr, Result.andThen_ok, Sem.run_pure]⟩
def z272 : List UInt8 := List.replicate 272 0
theorem z272_length : z272.length = 272 := List.length_replicate
noncomputable def keptDesc : TypeDesc := match (Tryz.prog).underlying 305 with | some d => d | none => .bool
theorem tyKept : Ty Tryz.prog 305 (cells8 z272) := ⟨by kernel_rfl⟩
theorem rwKept : Rw Tryz.prog 305 keptDesc 272 := ⟨by kernel_rfl, by kernel_rfl, by kernel_rfl⟩
theorem builtZ : Tryz.prog.built 305 [] = some (cells8 z272).toArray := by kernel_rfl
theorem kept_built (g h : Nat → UInt8) : Tryz.prog.built 305 [(0, .agg (cells8 ((List.range 16).map g)).toArray), (1, .agg (cells8 ((List.range 256).map h)).toArray)] = some (cells8 ((List.range 16).map g ++ (List.range 256).map h)).toArray := by kernel_rfl
theorem as_range (l : List UInt8) (n : Nat) (h : l.length = n) : (List.range n).map (fun i => l.getD i 0) = l := by
 subst h
 refine List.ext_getElem (by simp) fun i h1 h2 => ?_
 simp [List.getD, List.getElem?_eq_getElem h2]
theorem kept_of (l m : List UInt8) (hl : l.length = 16) (hm : m.length = 256) : Tryz.prog.built 305 [(0, .agg (cells8 l).toArray), (1, .agg (cells8 m).toArray)] = some (cells8 (l ++ m)).toArray := by
 have h := kept_built (fun i => l.getD i 0) (fun i => m.getD i 0)
 rwa [as_range l 16 hl, as_range m 256 hm] at h
theorem rwTail : Rw Tryz.prog 355 (.array 4 5) 4 := ⟨by kernel_rfl, rfl, by kernel_rfl⟩
theorem eqTail : EqB Tryz.prog 355 5 4 := ⟨by kernel_rfl, by kernel_rfl, by kernel_rfl⟩
def z4 : List UInt8 := [0, 0, 0, 0]
theorem builtTail : Tryz.prog.built 355 [] = some (cells8 z4).toArray := by kernel_rfl
section
variable {P : Program} {w : World} {ops : Array Oper} {rest : List Oper} {o : Oper} {a : Act} {Q : Exit → Act → World → Prop} {t e t' : TypeId} {n : Nat}
theorem wpList_neqB (E : EqB P t e n) (hG : P.eqGuardType P.depth t = false) (hg : o.guard = none) (x y : Operand) (hop : o.op = .binOp .neq t x y t') (l m : List UInt8)
  (hx : a.eval x = .agg (cells8 l).toArray) (hy : a.eval y = .agg (cells8 m).toArray) (hl : l.length = n) (hm : m.length = n) {b : Bool} (hb : (!(l == m)) = b)
  (h : wpList P ops Q rest (a.put o.dst (.bool b)) w) : wpList P ops Q (o :: rest) a w := by
 refine wpList_plain hg fun K hK => ?_
 unfold Oper.wp
 simp only [execOp, hop, hx, hy, Sem.run_bind, run_eqGuard_agg (w := w) _ _ _ _ _ _ hG, Result.andThen_ok, run_neq_bytes E w l m hl hm, hb, Sem.run_pure]
 exact hK _ _ h
end
structure SC (w0 W : World) (b o : Nat) (xs : List UInt8) : Prop where
 below : Below w0.heap.size w0 W
 lt : b < w0.heap.size
 hd : W.rangeAt b o (cells8 (xs.take 16))
 tl : W.rangeAt b (o + 16) (cells8 (xs.drop 16))
theorem SC.next {w0 W W' : World} {b o : Nat} {xs : List UInt8} (h : SC w0 W b o xs) (hb : Below W.heap.size W W') : SC w0 W' b o xs :=
 ⟨h.below.trans (hb.mono h.below.size), h.lt, range_below h.hd hb (Nat.lt_of_lt_of_le h.lt h.below.size), range_below h.tl hb (Nat.lt_of_lt_of_le h.lt h.below.size)⟩
theorem SC.drew {w0 W : World} {b o : Nat} {xs : List UInt8} (h : SC w0 W b o xs) : SC w0 W.drew b o xs := ⟨h.below.drew, h.lt, h.hd, h.tl⟩
theorem SC.only {w0 W W' : World} {b o g : Nat} {xs : List UInt8} (h : SC w0 W b o xs) (ho : Only g W W') (hg : w0.heap.size ≤ g) : SC w0 W' b o xs :=
 ⟨h.below.trans (ho.below hg), h.lt, range_below h.hd (ho.below (Nat.le_refl _)) (Nat.lt_of_lt_of_le h.lt hg), range_below h.tl (ho.below (Nat.le_refl _)) (Nat.lt_of_lt_of_le h.lt hg)⟩
set_option maxRecDepth 100000 in
set_option maxHeartbeats 2000000 in
theorem cut_any (A : Option Addr) (n c : Nat) (b : List UInt8) (w : World) (ha : Bs w w.heap.size A n c b) (hn : n = 272) :
  Calls Tryz.prog 207 #[.slice A n c] w fun e w' => ((b.drop 12).take 4 = z4 ∧ e = .returned (.tuple #[.agg (cells8 b).toArray, .nilIface]) ∨ (b.drop 12).take 4 ≠ z4 ∧ ∃ v g, e = .returned (.tuple #[.agg (cells8 z272).toArray, v]) ∧ Flt w' v g) ∧ Below w.heap.size w w' := by
 subst hn
 have hn2 := ha.cap
 have hn3 := ha.max
 simp only [maxLen] at hn3
 have HLb : Kp (b.length = 272) := ⟨ha.len⟩
 have HA : Kp _ := ⟨ha⟩
 clear ha
 go_enter Tryz.func207, Tryz.ntmps207
 go_wp2_with (with_reducible refine wpList_alloc (o := ⟨some 2, _, _, _, _, _⟩) tyKept rfl rfl ?_)
 intro w1 hk1 hb1 hs1
 have HK1 : Kp _ := ⟨hk1⟩
 obtain ⟨ba, oa, rfl, hba, hra⟩ := HA.out.range (by omega)
 have HS : Kp (SC w1 w1 ba oa b) := ⟨⟨Below.refl _ _, by have := hb1.size; omega, range_below (hra 16) hb1 hba, by
  have h := range_below (hra 272) hb1 hba
  rw [List.take_of_length_le (by rw [HLb.out]; exact Nat.le_refl _)] at h
  intro j v hv
  obtain ⟨hj, rfl⟩ := cells8_some hv
  have hj' : 16 + j < b.length := by simp at hj; omega
  have h2 := h (16 + j) _ (cells8_at b (16 + j) hj')
  rw [show oa + 16 + j = oa + (16 + j) by omega, h2]
  simp⟩⟩
 clear hk1 hs1 hra HA
 have HL1 : Kp ((cells8 (b.take 16)).length = 16) := ⟨by rw [cells8_length]; simp [HLb.out]⟩
 have HL2 : Kp ((cells8 (b.drop 16)).length = 256) := ⟨by rw [cells8_length]; simp [HLb.out]⟩
 have HBu : Kp (Tryz.prog.built 305 [(0, .agg (cells8 (b.take 16)).toArray), (1, .agg (cells8 (b.drop 16)).toArray)] = some (cells8 b).toArray) := ⟨by
  have h := kept_of (b.take 16) (b.drop 16) (by simp [HLb.out]) (by simp [HLb.out])
  rwa [List.take_append_drop] at h⟩
 have HLB : Kp ((cells8 b).length = 272) := ⟨by rw [cells8_length]; exact HLb.out⟩
 have HLz : Kp ((cells8 z272).length = 272) := ⟨by rw [cells8_length]; exact z272_length⟩
 go_wp2_with fail
 refine wp_region_held_drew (S := fun W => SC w1 W ba oa b) (by kernel_rfl) (HS.out.drew) (fun hHeld => ?_)
 generalize w1.drew = wS at *
 refine wU 0 12 ?_ rfl ?_
 try simp only [Act.put, sA, sB, sC]
 refine wpAnyH_take (i := 1) (oi := ⟨some 13, _, _, _, _, _⟩) (v := _) rfl (by kernel_rfl) (by kernel_rfl) (by kernel_rfl) (fun _ _ _ h => h) (yieldsIf_cut_h (by rfl) el8 (.tmp 12) (.const (.int .i64 16)) rfl rfl rfl 16 rfl (by omega)) (by assumption) ?_
 try simp only [Act.put, sA, sB, sC]
 refine wpAnyH_take (i := 2) (oi := ⟨some 14, _, _, _, _, _⟩) (v := _) rfl (by kernel_rfl) (by kernel_rfl) (by kernel_rfl) (fun _ _ _ h => h) (yieldsIf_toArr (by rfl) Tryz.underlying73 (.tmp 13) rfl rfl (Nat.le_refl _)) (by assumption) ?_
 try simp only [Act.put, sA, sB, sC]
 refine wpAnyH_take (i := 3) (oi := ⟨some 15, _, _, _, _, _⟩) (v := _) rfl (by kernel_rfl) (by kernel_rfl) (by kernel_rfl) (fun _ _ _ h => h) (yieldsIf_load_mid (by rfl) 73 (.tmp 14) rfl ba oa rfl (cells8 (b.take 16)) _ (fun W hW => hW.hd) rwNonce.ty rwNonce.row (by rw [rwNonce.size, HL1.out])) (by assumption) ?_
 try simp only [Act.put, sA, sB, sC]
 refine wU 4 16 ?_ rfl ?_
 try simp only [Act.put, sA, sB, sC]
 refine wpAnyH_take (i := 5) (oi := ⟨some 17, _, _, _, _, _⟩) (v := _) rfl (by kernel_rfl) (by kernel_rfl) (by kernel_rfl) (fun _ _ _ h => h) (yieldsIf_cut_l (by rfl) el8 (.tmp 16) (.const (.int .i64 16)) rfl rfl rfl 16 rfl (by omega) (A' := some ⟨ba, oa + 16, none⟩) (n' := 256) (c' := c - 16) (by rw [if_neg (by omega)]; simp [Addr.add_lit]) rfl rfl) (by assumption) ?_
 try simp only [Act.put, sA, sB, sC]
 refine wpAnyH_take (i := 6) (oi := ⟨some 18, _, _, _, _, _⟩) (v := _) rfl (by kernel_rfl) (by kernel_rfl) (by kernel_rfl) (fun _ _ _ h => h) (yieldsIf_toArr (by rfl) Tryz.underlying286 (.tmp 17) rfl rfl (Nat.le_refl _)) (by assumption) ?_
 try simp only [Act.put, sA, sB, sC]
 refine wpAnyH_take (i := 7) (oi := ⟨some 19, _, _, _, _, _⟩) (v := _) rfl (by kernel_rfl) (by kernel_rfl) (by kernel_rfl) (fun _ _ _ h => h) (yieldsIf_load_mid (by rfl) 286 (.tmp 18) rfl ba (oa + 16) rfl (cells8 (b.drop 16)) _ (fun W hW => hW.tl) rw256.ty rw256.row (by rw [rw256.size, HL2.out])) (by assumption) ?_
 try simp only [Act.put, sA, sB, sC]
 refine wpAnyH_take (i := 8) (oi := ⟨some 20, _, _, _, _, _⟩) (v := _) rfl (by kernel_rfl) (by kernel_rfl) (by kernel_rfl) (fun _ _ _ h => h) (yieldsIf_build2 (by rfl) 0 1 (.tmp 15) (.tmp 19) rfl rfl rfl HBu.out) (by assumption) ?_
 try simp only [Act.put, sA, sB, sC]
 refine rH [9] ?_
 refine aH 4 rfl fun K hK => ?_
 refine step_alloc tyKept rfl rfl ?_
 intro w51 hk4 hb'
 have HKr : Kp (Blk w51 w.heap.size 305 (cells8 z272)) := ⟨(HK1.out.below hHeld.below HK1.out.lt).below hb' (Nat.lt_of_lt_of_le HK1.out.lt hHeld.below.size)⟩
 have HK4 : Kp _ := ⟨hk4⟩
 have hge := hHeld.below.size
 obtain ⟨g4, hg4⟩ : ∃ g, g = wS.heap.size := ⟨_, rfl⟩
 rw [← hg4] at HK4 hge ⊢
 refine hK.out _ _ (hHeld.next hb') (fun hHeld2 => ?_)
 clear hk4 hb' hg4
 clear hK K hHeld
 have hHeld := hHeld2
 clear hHeld2
 try simp only [Act.put, sA, sB, sC]
 refine rH [10] ?_
 refine AllReadyH.cons (o := ⟨none, _, _, _, _, _⟩) rfl (fun K hK => ?_) AllReadyH.nil
 refine step_store rwKept rfl (.tmp 4) (.tmp 20) rfl rfl rfl HK4.out HLB.out (by rw [HLz.out]; decide) (cells8_one _) ?_
 intro w52 hk ho
 have HKf : Kp (Blk w52 g4 305 (cells8 b)) := ⟨by have h := hk; rwa [List.drop_of_length_le (by rw [HLz.out]; decide), List.take_zero, List.nil_append, List.append_nil] at h⟩
 replace HKr : Kp _ := ⟨HKr.out.only ho (by have := HK1.out.lt; omega)⟩
 refine hK.out _ _ (hHeld.only ho hge) (fun hHeld2 => ?_)
 clear hk ho HK4
 clear hK K hHeld
 have hHeld := hHeld2
 clear hHeld2
 try simp only [Act.put]
 refine wpAnyH_done (by kernel_rfl) ?_ _
 have hB := hb1.trans (hHeld.below.mono hb1.size)
 have hsz := HK1.out.lt
 clear hHeld hb1 HS HK1 HBu HL1 HL2
 generalize w52 = w5 at *
 have HLd : Kp ((cells8 ((b.drop 12).take 4)).length = 4) := ⟨by rw [cells8_length]; simp [HLb.out]⟩
 have HV : Kp (((cells8 b).drop 12).take 4 = cells8 ((b.drop 12).take 4)) := ⟨by simp [cells8, List.map_drop, List.map_take]⟩
 have HBt : Kp (Tryz.prog.built 355 [] = some (cells8 z4).toArray) := ⟨builtTail⟩
 obtain ⟨Z, hZ⟩ : ∃ M, M = z4 := ⟨_, rfl⟩
 have HZ4 : Kp _ := ⟨hZ⟩
 have HLZ : Kp (Z.length = 4) := ⟨by rw [hZ]; rfl⟩
 rw [← hZ] at HBt
 clear hZ
 obtain ⟨T4, hT4⟩ : ∃ M, M = (b.drop 12).take 4 := ⟨_, rfl⟩
 have HLT : Kp (T4.length = 4) := ⟨by rw [hT4]; simp [HLb.out]⟩
 have HT4 : Kp _ := ⟨hT4⟩
 rw [← hT4] at HLd HV
 clear hT4
 obtain ⟨bb, hbb⟩ : ∃ bb, bb = !(T4 == Z) := ⟨_, rfl⟩
 have HBB : Kp ((!(T4 == Z)) = bb) := ⟨hbb.symm⟩
 clear hbb
 cases bb
 ·have HOne : Kp (∀ v ∈ cells8 b, v.oneCell' = true) := ⟨cells8_one _⟩
  have HEq : Kp (T4 = z4) := ⟨by have := HBB.out; rw [← HZ4.out]; simpa using this⟩
  obtain ⟨L, hL⟩ : ∃ L, L = cells8 b := ⟨_, rfl⟩
  have HG : Kp (L = cells8 b) := ⟨hL⟩
  rw [← hL] at HOne HKf HLB HV
  clear hL
  go_wp2_with (first
   | (with_reducible refine wpList_toArr Tryz.underlying355 rfl (.tmp 22) rfl rfl (Nat.le_refl 4) ?_)
   | (with_reducible refine wpList_loadv (o := ⟨some 24, _, _, _, _, _⟩) rwTail rfl (.tmp 23) rfl rfl HKf.out (by rw [HLB.out]; decide) HV.out ?_)
   | (with_reducible refine wpList_build07 (o := ⟨some 25, _, _, _, _, _⟩) rfl rfl HBt.out ?_)
   | (with_reducible refine wpList_neqB (o := ⟨some 26, _, _, _, _, _⟩) eqTail Tryz.eqGuardType355 rfl (.tmp 24) (.tmp 25) rfl T4 Z rfl rfl HLT.out HLZ.out HBB.out ?_)
   | (with_reducible refine wpList_loadAll (o := ⟨some 31, _, _, _, _, _⟩) rwKept rfl (.tmp 4) rfl rfl HKf.out HLB.out ?_)
   | (with_reducible refine wpList_storeAll (o := ⟨none, _, _, _, _, _⟩) (vs := L) rwKept rfl (.tmp 2) (.tmp 31) rfl rfl HKr.out HLz.out HLB.out HOne.out rfl ?_))
  intro w6 hk6 ho6
  have HK6 : Kp _ := ⟨hk6⟩
  clear hk6
  go_wp2
  exact ret_two7 (v2 := .nilIface) rfl rwKept rfl rfl HK6.out HLB.out rfl ⟨.inl ⟨HT4.out ▸ HEq.out, by rw [HG.out]⟩, hB.trans (ho6.below (Nat.le_refl _))⟩
 ·have HEq : Kp (T4 ≠ z4) := ⟨by have := HBB.out; rw [← HZ4.out]; simpa using this⟩
  have HK1 := HKr
  clear HKr
  obtain ⟨L, hL⟩ : ∃ L, L = cells8 z272 := ⟨_, rfl⟩
  have HG : Kp (L = cells8 z272) := ⟨hL⟩
  have HOne : Kp (∀ v ∈ L, v.oneCell' = true) := ⟨by rw [hL]; exact cells8_one _⟩
  have HLn : Kp (L.length = 272) := ⟨by rw [hL, cells8_length, z272_length]⟩
  have HB0 : Kp (Tryz.prog.built 305 [] = some L.toArray) := ⟨by rw [hL]; exact builtZ⟩
  rw [← hL] at HK1
  clear hL
  go_wp2_with (first
   | (with_reducible refine wpList_toArr Tryz.underlying355 rfl (.tmp 22) rfl rfl (Nat.le_refl 4) ?_)
   | (with_reducible refine wpList_loadv (o := ⟨some 24, _, _, _, _, _⟩) rwTail rfl (.tmp 23) rfl rfl HKf.out (by rw [HLB.out]; decide) HV.out ?_)
   | (with_reducible refine wpList_build07 (o := ⟨some 25, _, _, _, _, _⟩) rfl rfl HBt.out ?_)
   | (with_reducible refine wpList_neqB (o := ⟨some 26, _, _, _, _, _⟩) eqTail Tryz.eqGuardType355 rfl (.tmp 24) (.tmp 25) rfl T4 Z rfl rfl HLT.out HLZ.out HBB.out ?_)
   | (with_reducible refine wpList_build07 (o := ⟨some 27, _, _, _, _, _⟩) rfl rfl HB0.out ?_)
   | (with_reducible refine wpList_box (o := ⟨some 29, _, _, _, _, _⟩) rfl (.tmp 28) rfl rfl ?_))
  intro w2 hk2 hb2 hs2
  have HK2 : Kp _ := ⟨HK1.out.below hb2 HK1.out.lt⟩
  have HF : Kp _ := ⟨hk2⟩
  have hlt := HK1.out.lt
  replace hb2 := hB.trans (hb2.mono hB.size)
  clear hk2 hs2 HK1
  go_wp2_with (with_reducible refine wpList_storeAll (o := ⟨none, _, _, _, _, _⟩) (vs := L) rwKept rfl (.tmp 2) (.tmp 27) rfl rfl HK2.out HLn.out HLn.out HOne.out rfl ?_)
  intro w6 hk6 ho6
  have HK6 : Kp _ := ⟨hk6⟩
  have HF6 : Kp _ := ⟨HF.out.only ho6 (by omega)⟩
  clear hk6
  go_wp2
  refine ret_two7 (v2 := .iface 336 (.pointer (some ⟨w5.heap.size, 0, none⟩))) rfl rwKept rfl rfl HK6.out HLn.out rfl ?_
  exact ⟨.inr ⟨HT4.out ▸ HEq.out, _, w5.heap.size, by rw [HG.out], ⟨rfl, HF6.out.lt, HF6.out.cell (i := 0) (by simp)⟩⟩, hb2.trans (ho6.below (Nat.le_refl _))⟩
end Go.Proofs.YtcehkafddlfleaaGreatDoor

namespace Go.Proofs.YtcehkafddlfleaaGreatDoor
open Go.RowKit
set_option maxHeartbeats 1000000 in
theorem head_any (e s : Nat) (w : World) (he : e < 18446744073709551616) (hs : s < 4294967296) :
  Calls Tryz.prog 193 #[.int .u64 e, .int .u32 s] w fun x w' => x = .returned (.agg (cells8 (headL e s)).toArray) ∧ Below w.heap.size w w' := by
 go_enter Tryz.func193, Tryz.ntmps193
 go_wp2_with (with_reducible refine wpList_alloc (o := ⟨some 4, _, _, _, _, _⟩) tyNonce rfl rfl ?_)
 intro w1 hk1 hb1 hs1
 have HK1 : Kp _ := ⟨hk1⟩
 clear hk1 hs1
 have hsI : (s : Int) < 4294967296 := by omega
 have h0I : (0 : Int) < 18446744073709551616 := by omega
 go_wp2_with fail
 refine (put87_any e _ he).mono ?_
 rintro x w2 ⟨A1, c1, rfl, hB1, hb2⟩
 have HK2 : Kp _ := ⟨HK1.out.below hb2 HK1.out.lt⟩
 replace hb2 := hb1.trans (hb2.mono hb1.size)
 have HB1 : Kp _ := ⟨hB1⟩
 clear hB1 hb1 HK1
 go_wp2_with fail
 refine (put47_any s _ (by omega)).mono ?_
 rintro x w3 ⟨A2, c2, rfl, hB2, hb3⟩
 have HK3 : Kp _ := ⟨HK2.out.below hb3 HK2.out.lt⟩
 have HB1' : Kp _ := ⟨HB1.out.next hb3 (Nat.le_refl _)⟩
 replace hb3 := hb2.trans (hb3.mono hb2.size)
 have HB2 : Kp _ := ⟨hB2⟩
 clear hB2 hb2 HK2 HB1
 go_wp2_with fail
 refine (put47_any 0 _ (by omega)).mono ?_
 rintro x w4 ⟨A3, c3, rfl, hB3, hb4⟩
 have HK4 : Kp _ := ⟨HK3.out.below hb4 HK3.out.lt⟩
 have HB1 : Kp _ := ⟨HB1'.out.next hb4 (Nat.le_refl _)⟩
 have HB2' : Kp _ := ⟨HB2.out.next hb4 (Nat.le_refl _)⟩
 replace hb4 := hb3.trans (hb4.mono hb3.size)
 have HL : Kp _ := ⟨ls_three w4 29 HB1.out HB2'.out hB3⟩
 clear hB3 hb3 HK3 HB1 HB1' HB2 HB2'
 go_wp2_with fail
 refine (joinL_any _ _ _ _ 16 (headL e s) _ HL.out (by simp [headL]) (headL_length e s) (by omega)).mono ?_
 rintro x w5 ⟨A5, c5, rfl, ⟨hB5, _⟩, hb5⟩
 have hb5' := hb5
 have hb45 := (Below.refl _ w4).alloc (Nat.le_refl _) (.cells #[.slice A1 8 c1, .slice A2 4 c2, .slice A3 4 c3] 29)
 replace hb5 := hb4.trans ((hb45.trans (hb5.mono (by simp))).mono hb4.size)
 have HK5 : Kp _ := ⟨HK4.out.below (hb45.trans (hb5'.mono (by simp))) HK4.out.lt⟩
 obtain ⟨b5, o5, rfl, _, hr5⟩ := hB5.range (by omega)
 have HR5 : Kp _ := ⟨hr5 16⟩
 rw [List.take_of_length_le (Nat.le_of_eq (headL_length e s))] at HR5
 have HZ : Kp (zero16.length = 16) := ⟨rfl⟩
 have HLn : Kp ((cells8 (headL e s)).length = 16) := ⟨by rw [cells8_length, headL_length]⟩
 clear hr5 hB5 hb45 hb5' hb4 HK4 HL
 obtain ⟨L, hL⟩ : ∃ L, L = cells8 (headL e s) := ⟨_, rfl⟩
 have HG : Kp (L = cells8 (headL e s)) := ⟨hL⟩
 have HOne : Kp (∀ v ∈ L, v.oneCell' = true) := ⟨by rw [hL]; exact cells8_one _⟩
 rw [← hL] at HR5 HLn
 clear hL
 go_wp2_with (first
  | (with_reducible refine wpList_toArr Tryz.underlying73 rfl (.tmp 12) rfl rfl (Nat.le_refl _) ?_)
  | (with_reducible refine wpList_loadR (o := ⟨some 14, _, _, _, _, _⟩) rwNonce rfl (.tmp 13) rfl rfl HR5.out HLn.out ?_)
  | (with_reducible refine wpList_storeAll (o := ⟨none, _, _, _, _, _⟩) (vs := L) rwNonce rfl (.tmp 4) (.tmp 14) rfl rfl HK5.out HZ.out HLn.out HOne.out rfl ?_))
 intro w6 hk6 ho6
 have HK6 : Kp _ := ⟨hk6⟩
 clear hk6
 go_wp2
 exact ret_arr rfl rwNonce rfl HK6.out HLn.out rfl ⟨by rw [HG.out], hb5.trans (ho6.below (Nat.le_refl _))⟩
end Go.Proofs.YtcehkafddlfleaaGreatDoor
