/- 
   
   
   
   
   
   
   
   
    -/
import Derived.Test.YtcehkafddlfleaaGreatDoorG01
import Derived.Lib.SlBytesConst
import Derived.BigQuiet
import Derived.Deep.QuietTactic
import Derived.Deep.RegionWith
import Derived.StillTailTactics
import Derived.Deep.Upon
import Derived.Deep.MidRow
import Derived.ProofKit
import Derived.OpenShut
import Derived.ChangeOld
import Derived.Below
import Derived.Deep.Matrix
import Derived.SizedLaws
namespace Go.Proofs.YtcehkafddlfleaaGreatDoor
open Go.RowKit
structure Fs (w : World) (B : Nat) (g : Option Nat) (vals : List Value) (fs : List (List UInt8)) : Prop where
 len : vals.length = fs.length
 at' : ∀ j (h1 : j < vals.length) (h2 : j < fs.length), ∃ A n c, vals[j] = .slice A n c ∧ Bs w B A n c fs[j] ∧ ∀ ad, A = some ad → 0 < n → g ≠ some ad.block
section
variable {w w' : World} {B B' : Nat} {g : Option Nat} {vals : List Value} {fs : List (List UInt8)}
theorem Fs.zero (w : World) (B : Nat) (g : Option Nat) : Fs w B g [] [] := ⟨rfl, fun j h _ => absurd h (by simp)⟩
theorem Fs.below (h : Fs w B g vals fs) (hb : Below B w w') : Fs w' B g vals fs :=
 ⟨h.len, fun j h1 h2 => by
  obtain ⟨A, n, c, e, hbs, hg⟩ := h.at' j h1 h2
  exact ⟨A, n, c, e, hbs.below hb, hg⟩⟩
theorem Fs.more (h : Fs w B g vals fs) (hB : B ≤ B') : Fs w B' g vals fs :=
 ⟨h.len, fun j h1 h2 => by
  obtain ⟨A, n, c, e, hbs, hg⟩ := h.at' j h1 h2
  exact ⟨A, n, c, e, hbs.more hB, hg⟩⟩
theorem Bs.grown {g : Option Nat} {A : Option Addr} {n c : Nat} {l : List UInt8} (h : Bs w B A n c l) (hk : ∀ k, g ≠ some k → k < B → w'.heap[k]? = w.heap[k]?) (hg : ∀ ad, A = some ad → 0 < n → g ≠ some ad.block) : Bs w' B A n c l :=
 ⟨h.len, h.cap, h.max, h.nil, fun h0 => by
  obtain ⟨b, o, hA, hb, hc⟩ := h.cells h0
  refine ⟨b, o, hA, hb, fun j hj => ?_⟩
  rw [← hc j hj]
  exact World.cell?_of_block (w := w) (hk b (hg _ hA h0) hb)⟩
theorem Fs.grown (h : Fs w B g vals fs) (hk : ∀ k, g ≠ some k → k < B → w'.heap[k]? = w.heap[k]?) : Fs w' B g vals fs :=
 ⟨h.len, fun j h1 h2 => by
  obtain ⟨A, n, c, e, hbs, hg⟩ := h.at' j h1 h2
  exact ⟨A, n, c, e, hbs.grown hk hg, hg⟩⟩
theorem Fs.move {g' : Option Nat} (h : Fs w B g vals fs) (hg' : g' = g ∨ ∃ k, g' = some k ∧ B ≤ k) : Fs w B g' vals fs :=
 ⟨h.len, fun j h1 h2 => by
  obtain ⟨A, n, c, e, hbs, hg⟩ := h.at' j h1 h2
  refine ⟨A, n, c, e, hbs, fun ad hA h0 => ?_⟩
  rcases hg' with rfl | ⟨k, rfl, hk⟩
  ·exact hg ad hA h0
  ·obtain ⟨b, o, hA', hb, _⟩ := hbs.cells h0
   rw [hA] at hA'
   obtain rfl := Option.some.inj hA'
   intro e; have := Option.some.inj e; simp at this; omega⟩
theorem Fs.snoc (h : Fs w B g vals fs) {A : Option Addr} {n c : Nat} {l : List UInt8} (hb : Bs w B A n c l) (hg : ∀ ad, A = some ad → 0 < n → g ≠ some ad.block) :
  Fs w B g (vals ++ [.slice A n c]) (fs ++ [l]) := by
 refine ⟨by simp [h.len], fun j h1 h2 => ?_⟩
 by_cases hj : j < vals.length
 ·rw [List.getElem_append_left hj, List.getElem_append_left (by rw [← h.len]; exact hj)]
  exact h.at' j hj _
 ·have hjv : j = vals.length := by simp at h1; omega
  have hjf : j = fs.length := by rw [← h.len]; exact hjv
  refine ⟨A, n, c, ?_, ?_, hg⟩
  ·rw [List.getElem_append_right (by omega)]; simp [hjv]
  ·rw [List.getElem_append_right (by omega)]; simpa [hjf] using hb
theorem Fs.lists {base : Nat} {e : TypeId} {v : Value} {k : Nat} (h : Fs w B g vals fs) (hown : w.ownsRow base e 1 v k vals) (hB : w.heap.size ≤ B) : ∃ A c, v = .slice A k c ∧ Ls w B A k c fs := by
 have hl : vals.length = k := by have := hown.1; omega
 rcases hown.2 with ⟨rfl, rfl⟩ | ⟨g', cap, cur, rfl, hg, hh, hn, hm, hs, ht⟩
 ·obtain rfl : vals = [] := List.eq_nil_of_length_eq_zero hl
  obtain rfl : fs = [] := List.eq_nil_of_length_eq_zero (by rw [← h.len]; rfl)
  exact ⟨none, 0, rfl, Ls.zero w _⟩
 ·refine ⟨some ⟨g', 0, none⟩, cap, rfl, by rw [← h.len]; exact hl, hn, hm, (fun h => by cases h), fun h0 => ⟨g', 0, rfl, ?_, fun j hj => ?_⟩⟩
  ·have := (Array.getElem?_eq_some_iff.1 hh).1; omega
  ·have hjv : j < vals.length := by rw [h.len]; exact hj
   obtain ⟨A, n, c, e', hbs, _⟩ := h.at' j hjv hj
   refine ⟨A, n, c, ?_, hbs⟩
   have := hown.cells (g := g') rfl j (vals[j]) (List.getElem?_eq_getElem hjv)
   rw [Addr.add_lit, e'] at this
   exact this
theorem Ls.one {A : Option Addr} {n c : Nat} {l : List UInt8} (t : TypeId) (h : Bs w w.heap.size A n c l) : Ls (w.alloc (.cells #[.slice A n c] t)) (w.heap.size + 1) (some ⟨w.heap.size, 0, none⟩) 1 1 [l] := by
 refine ⟨rfl, Nat.le_refl _, by simp [maxLen], (fun h => by cases h), fun _ => ⟨w.heap.size, 0, rfl, by omega, fun j hj => ?_⟩⟩
 obtain rfl : j = 0 := by simp at hj; omega
 refine ⟨A, n, c, ?_, (h.alloc (Nat.le_refl _) _).more (by omega)⟩
 rw [World.cell?_alloc_at _ _ _ _ rfl]; rfl
theorem Ls.two {A A2 : Option Addr} {n c n2 c2 : Nat} {l l2 : List UInt8} (t : TypeId) (h : Bs w w.heap.size A n c l) (h2 : Bs w w.heap.size A2 n2 c2 l2) : Ls (w.alloc (.cells #[.slice A n c, .slice A2 n2 c2] t)) (w.heap.size + 1) (some ⟨w.heap.size, 0, none⟩) 2 2 [l, l2] := by
 refine ⟨rfl, Nat.le_refl _, by simp [maxLen], (fun h => by cases h), fun _ => ⟨w.heap.size, 0, rfl, by omega, fun j hj => ?_⟩⟩
 rcases (by simp at hj; omega : j = 0 ∨ j = 1) with rfl | rfl
 ·refine ⟨A, n, c, ?_, (h.alloc (Nat.le_refl _) _).more (by omega)⟩
  rw [World.cell?_alloc_at _ _ _ _ rfl]; rfl
 ·refine ⟨A2, n2, c2, ?_, (h2.alloc (Nat.le_refl _) _).more (by omega)⟩
  rw [World.cell?_alloc_at _ _ _ _ rfl]; rfl
end
def off (ws : List Int) (k : Nat) : Nat := ((ws.take k).map Int.toNat).sum
end Go.Proofs.YtcehkafddlfleaaGreatDoor

namespace Go.Proofs.YtcehkafddlfleaaGreatDoor
open Go.RowKit
def padL (xs : List UInt8) (wide : Int) : List UInt8 := xs ++ List.replicate (wide.toNat - xs.length) 0
theorem padL_length (xs : List UInt8) (wide : Int) : (padL xs wide).length = max xs.length wide.toNat := by simp [padL]; omega
set_option maxHeartbeats 400000 in
theorem pad_any (A : Option Addr) (n c : Nat) (wide : Int) (xs : List UInt8) (w : World) (ha : Bs w w.heap.size A n c xs) (hn : n ≤ 4294967296) (hw : wide ≤ 4294967296) :
  Calls Tryz.prog 76 #[.slice A n c, .int .i64 wide] w fun e w' => ∃ v, e = .returned v ∧ w'.ownsRow w.heap.size 5 1 v (padL xs wide).length (cells8 (padL xs wide)) ∧ Below w.heap.size w w' := by
 obtain ⟨N, hN⟩ : ∃ N : Nat, N = max n wide.toNat := ⟨_, rfl⟩
 have HNN := Lib.hid hN
 have HL := Lib.hid ha.len
 have hN1 : N ≤ 4294967296 := by omega
 clear hN
 go_enter Tryz.func76, Tryz.ntmps76
 rcases (by omega : (n : Int) < wide ∨ wide ≤ (n : Int)) with h | h
 all_goals
  go_wp2_with (with_reducible refine wpList_mk (o := ⟨some 10, _, _, _, _, _⟩) el8 rfl _ _ rfl w.heap.size _ _ _ _ N rfl rfl (by have := HNN.out; omega) (by have := HNN.out; omega) (by omega) (by simp only [maxLen]; omega) (Nat.le_refl _) ?_)
  intro w1 hown hg
  have hb1 : Below w.heap.size w w1 := (Below.refl _ _).grown hg (Nat.le_refl _) (by simp)
  have H1 := Lib.hid hown
  have ha1 := ha.below hb1
  clear hg hown
  go_wp2_with (with_reducible refine wpList_copyBs (o := ⟨some 13, _, _, _, _, _⟩) el8 rfl _ _ rfl w.heap.size _ _ _ rfl H1.out rfl ha1 ?_)
  intro w2 H2 hb2 _
  have H3 : Hid (w2.ownsRow w.heap.size 5 1 (.slice (some ⟨w.heap.size, 0, none⟩) N N) (padL xs wide).length (cells8 (padL xs wide))) := by
   have h2 := H2.out
   have e1 : (padL xs wide).length = N := by rw [padL_length, HL.out, HNN.out]
   have e2 : cells8 (xs.take N) ++ List.replicate (N - n) (Value.int .u8 0) = cells8 (padL xs wide) := by
    rw [List.take_of_length_le (by rw [HL.out, HNN.out]; omega), padL, cells8_append, HL.out]
    simp [cells8]
    have := HNN.out
    omega
   rw [e2] at h2
   rw [e1]
   exact h2
  clear H1 H2
  go_wp2
  go_ret
  exact ⟨_, rfl, H3.out, hb1.trans hb2⟩
end Go.Proofs.YtcehkafddlfleaaGreatDoor

namespace Go.Proofs.YtcehkafddlfleaaGreatDoor
open Go.RowKit
def lens (ls : List (List UInt8)) : List Int := ls.map fun x => (x.length : Int)
end Go.Proofs.YtcehkafddlfleaaGreatDoor

namespace Go.Proofs.YtcehkafddlfleaaGreatDoor
open Go.RowKit
theorem Ls.vals {w : World} {B : Nat} {A : Option Addr} {n c : Nat} {ls : List (List UInt8)} (h : Ls w B A n c ls) (g : Option Nat) (hg : ∀ k, g = some k → B ≤ k) :
  ∃ vals, vals.length = n ∧ Fs w B g vals ls ∧ (∀ ad, A = some ad → ∀ j u, vals[j]? = some u → w.cell? (ad.add j) = some u) ∧ ∀ u ∈ vals, u.oneCell' = true := by
 rcases Nat.eq_zero_or_pos n with h0 | h0
 ·subst h0
  obtain rfl : ls = [] := List.eq_nil_of_length_eq_zero h.len
  exact ⟨[], rfl, Fs.zero _ _ _, (fun _ _ j u hu => by simp at hu), fun u hu => by cases hu⟩
 ·obtain ⟨b, o, rfl, hb, hc⟩ := h.cells h0
  have hl := h.len
  have key : ∀ j, j < n → ∃ A' n' c', w.cell? ⟨b, o + j, none⟩ = some (.slice A' n' c') ∧ ∀ (hj : j < ls.length), Bs w B A' n' c' ls[j] := by
   intro j hj
   obtain ⟨A', n', c', h1, h2⟩ := hc j (by omega)
   exact ⟨A', n', c', h1, fun _ => h2⟩
  refine ⟨(List.range n).map fun j => (w.cell? ⟨b, o + j, none⟩).getD undef, by simp, ⟨by simp [hl], fun j h1 h2 => ?_⟩, fun ad had j u hu => ?_, fun u hu => ?_⟩
  ·have hj : j < n := by simpa using h1
   obtain ⟨A', n', c', h3, h4⟩ := key j hj
   refine ⟨A', n', c', by simp [h3], h4 h2, fun ad hA hn => ?_⟩
   obtain ⟨b', o', hA', hb', _⟩ := (h4 h2).cells hn
   rw [hA] at hA'
   obtain rfl := Option.some.inj hA'
   intro e
   have := hg _ e
   simp at this; omega
  ·obtain rfl := Option.some.inj had
   have hj : j < n := by
    have := (List.getElem?_eq_some_iff.1 hu).1
    simpa using this
   obtain ⟨A', n', c', h3, _⟩ := key j hj
   rw [Addr.add_lit, h3]
   simp [hj, h3] at hu
   rw [hu]
  ·obtain ⟨j, hj, rfl⟩ := List.mem_map.1 hu
   obtain ⟨A', n', c', h3, _⟩ := key j (by simpa using hj)
   rw [h3]; rfl
theorem Fs.append {w : World} {B : Nat} {g : Option Nat} {v1 v2 : List Value} {f1 f2 : List (List UInt8)} (h1 : Fs w B g v1 f1) (h2 : Fs w B g v2 f2) : Fs w B g (v1 ++ v2) (f1 ++ f2) := by
 refine ⟨by simp [h1.len, h2.len], fun j hj1 hj2 => ?_⟩
 by_cases hj : j < v1.length
 ·rw [List.getElem_append_left hj, List.getElem_append_left (by rw [← h1.len]; exact hj)]
  exact h1.at' j hj _
 ·have e := h1.len
  rw [List.getElem_append_right (by omega), List.getElem_append_right (by omega)]
  have h3 := h2.at' (j - v1.length) (by simp at hj1; omega) (by simp at hj2; omega)
  simpa [e] using h3
end Go.Proofs.YtcehkafddlfleaaGreatDoor

namespace Go.Proofs.YtcehkafddlfleaaGreatDoor
open Go.RowKit
theorem lit_bs (w : World) (t : TypeId) (fr : Nat × Nat) (l : List UInt8) (C : Array Value) (hC : C = (cells8 l).toArray) (n : Nat) (hn : l.length = n) (hm : n ≤ maxLen) : Bs (w.alloc (.cells C t fr)) (w.heap.size + 1) (some ⟨w.heap.size, 0, none⟩) n n l := by
 subst hC
 refine ⟨hn, Nat.le_refl _, hm, (fun h => by cases h), fun _ => ⟨w.heap.size, 0, rfl, by omega, fun j hj => ?_⟩⟩
 have hb : (w.alloc (.cells (cells8 l).toArray t fr)).heap[w.heap.size]? = some (.cells (cells8 l).toArray t fr) := by
  show (w.heap.push _)[w.heap.size]? = _
  simp
 rw [cell_of_row _ _ _ _ _ _ hb]
 simpa using cells8_at l j hj
section
variable {P : Program} {w : World} {ops : Array Oper} {rest : List Oper} {o : Oper} {a : Act} {Q : Exit → Act → World → Prop} {t e : TypeId} {z : Value} {bytes : Nat}
theorem wpList_lit (E : El P t e z bytes) (he : P.underlying e = some (.int .u8)) (hg : Region.wanted o (yielded ops a.tmps) = true) (x : Operand) (hop : o.op = .convert t t x) {C : Array Value} (l : List UInt8) (hC : C = (cells8 l).toArray) (n : Nat) (hn : l.length = n) (hm : n ≤ maxLen) (hx : a.eval x = .slice (some ⟨w.heap.size, 0, none⟩) n n)
  (h : ∀ w', Bs w' w'.heap.size (some ⟨w.heap.size, 0, none⟩) n n l → Below w.heap.size w w' → wpList P ops Q rest (a.put o.dst (.slice (some ⟨w.heap.size, 0, none⟩) n n)) w') :
  wpList P ops Q (o :: rest) a (w.alloc (.cells C e)) := by
 refine wpList_step fun K hK => ?_
 rw [if_pos hg]
 have hrun := Lib.run_convert_bytes_const (P := P) w t e C n n E.ty he
 have hty : o.op = .convert t t x := hop
 unfold Oper.wp
 simp only [execOp, hty, hx, Sem.run_bind, hrun, Result.andThen_ok, Sem.run_pure]
 refine hK _ _ (h _ ((lit_bs w e (C.size, C.size + 1) l C hC n hn hm).more (by simp)) ((Below.refl _ _).alloc (Nat.le_refl _) _))
end
end Go.Proofs.YtcehkafddlfleaaGreatDoor

namespace Go.Proofs.YtcehkafddlfleaaGreatDoor
open Go.RowKit
set_option maxHeartbeats 400000 in
theorem put_any (n : Nat) (wide : Int) (w : World) (hn : n < 18446744073709551616) :
  Calls Tryz.prog 123 #[.int .u64 n, .int .i64 wide] w fun e w' => ∃ v, e = .returned v ∧ w'.ownsRow w.heap.size 5 1 v (min (max wide 0) 8).toNat (cells8 (putN n (min (max wide 0) 8).toNat)) ∧ Below w.heap.size w w' := by
 obtain ⟨N, hN⟩ : ∃ N : Nat, N = (min (max wide 0) 8).toNat := ⟨_, rfl⟩
 rw [← hN]
 have hN8 : N ≤ 8 := by omega
 have HN := Lib.hid hn
 have HNN := Lib.hid hN
 clear hn hN
 go_enter Tryz.func123, Tryz.ntmps123
 have hcase : wide < 0 ∨ (0 ≤ wide ∧ wide ≤ 8) ∨ 8 < wide := by omega
 rcases hcase with h | ⟨h0, h⟩ | h
 all_goals
  go_wp2_with (with_reducible refine wpList_mk (o := ⟨some 10, _, _, _, _, _⟩) el8 rfl _ _ rfl w.heap.size _ _ _ _ N rfl rfl (by have := HNN.out; omega) (by have := HNN.out; omega) (by omega) (by simp only [maxLen]; omega) (Nat.le_refl _) ?_)
  intro w1 hown hg
  have hb1 : Below w.heap.size w w1 := (Below.refl _ _).grown hg (Nat.le_refl _) (by simp)
  have H1 := Lib.hid hown
  clear hg hown
  go_wp2
  go_loopw [13] (fun i wr => ∃ k : Nat, k ≤ N ∧ i = .int .i64 k ∧ Hid (wr.ownsRow w.heap.size 5 1 (.slice (some ⟨w.heap.size, 0, none⟩) N N) N (cells8 (List.replicate (N - k) 0 ++ putN n k))) ∧ Below w.heap.size w wr) (fun i _ => N - (intOf i).toNat)
  case atStart => exact ⟨0, Nat.zero_le _, rfl, by simpa [cells8, putN] using H1, hb1⟩
  case round =>
   obtain ⟨k, hk, rfl, H, hb⟩ := hrel
   by_cases hlt : k < N
   ·have hc : wr.cell? ⟨w.heap.size, N - 1 - k, none⟩ = some (.int .u8 0) := by
     have h1 := H.out.cellAt (N - 1 - k) (by omega)
     rw [h1]
     exact put_spot (by omega)
    have hf := H.out.frozenAt (N - 1 - k)
    have HR := Lib.hid (put_row (n := n) hlt)
    go_wp2
    go_roundw
    case rel =>
     have hst := H.out.stored (N - 1 - k) (.int .u8 ((n : Int) / 2 ^ (8 * k) % 256))
     refine ⟨k + 1, by omega, by go_num, ?_, hb.setCell (Nat.le_refl _) _⟩
     show World.ownsRow _ _ _ _ _ _ _
     rw [← HR.out]
     exact hst.1
    case measure => simp [intOf]; omega
   ·obtain rfl : k = N := by omega
    have H2 := H.out
    rw [Nat.sub_self] at H2
    simp only [List.replicate_zero, List.nil_append] at H2
    have H3 := Lib.hid H2
    clear H2
    go_wp2
    go_ret
    exact ⟨_, rfl, H3.out, hb⟩
end Go.Proofs.YtcehkafddlfleaaGreatDoor

namespace Go.Proofs.YtcehkafddlfleaaGreatDoor
open Go.RowKit
def cellsI (l : List UInt8) : List Value := l.map fun b => Value.int .i64 (b.toNat : Int)
theorem cellsI_at (l : List UInt8) (j : Nat) (h : j < l.length) : (cellsI l)[j]? = some (.int .i64 (l[j].toNat : Int)) := by
 simp [cellsI, List.getElem?_eq_getElem h]
theorem cellsI_some {l : List UInt8} {j : Nat} {u : Value} (h : (cellsI l)[j]? = some u) : ∃ hj : j < l.length, u = .int .i64 (l[j].toNat : Int) := by
 have hj : j < l.length := by
  have := (List.getElem?_eq_some_iff.1 h).1
  simpa [cellsI] using this
 refine ⟨hj, ?_⟩
 rw [cellsI_at l j hj] at h
 exact (Option.some.inj h).symm
structure Is (w : World) (B : Nat) (A : Option Addr) (n c : Nat) (l : List UInt8) : Prop where
 len : l.length = n
 cap : n ≤ c
 max : c ≤ maxLen
 nil : A = none → c = 0
 cells : 0 < n → ∃ b o, A = some ⟨b, o, none⟩ ∧ b < B ∧ ∀ j (h : j < l.length), w.cell? ⟨b, o + j, none⟩ = some (.int .i64 (l[j].toNat : Int))
section
variable {w w' : World} {B B' : Nat} {A : Option Addr} {n c : Nat} {l : List UInt8}
theorem Is.keep (h : Is w B A n c l) (hk : ∀ p : Addr, p.block < B → w'.cell? p = w.cell? p) : Is w' B A n c l :=
 ⟨h.len, h.cap, h.max, h.nil, fun h0 => by
  obtain ⟨b, o, hA, hb, hc⟩ := h.cells h0
  exact ⟨b, o, hA, hb, fun j hj => (hk _ hb).trans (hc j hj)⟩⟩
theorem Is.more (h : Is w B A n c l) (hB : B ≤ B') : Is w B' A n c l :=
 ⟨h.len, h.cap, h.max, h.nil, fun h0 => by
  obtain ⟨b, o, hA, hb, hc⟩ := h.cells h0
  exact ⟨b, o, hA, by omega, hc⟩⟩
theorem Is.below (h : Is w B A n c l) (hb : Below B w w') : Is w' B A n c l := h.keep fun _ hp => hb.cell hp
theorem Is.next {w0 w1 : World} (h : Is w0 B A n c l) (hb : Below w0.heap.size w0 w1) (hB : B ≤ w0.heap.size) : Is w1 w1.heap.size A n c l :=
 (h.below (hb.mono hB)).more (Nat.le_trans hB hb.size)
theorem Is.cell (h : Is w B A n c l) {i : Nat} (hi : i < n) : ∃ b o, A = some ⟨b, o, none⟩ ∧ b < B ∧ w.cell? ⟨b, o + i, none⟩ = some (.int .i64 ((l[i]'(by have := h.len; omega)).toNat : Int)) := by
 obtain ⟨b, o, hA, hb, hc⟩ := h.cells (by omega)
 exact ⟨b, o, hA, hb, hc i (by have := h.len; omega)⟩
theorem Is.news (h : Is w B A n c l) : ∀ ad, A = some ad → ∀ j u, (cellsI l)[j]? = some u → w.cell? (ad.add j) = some u := by
 intro ad hA j u hu
 obtain ⟨hj, rfl⟩ := cellsI_some hu
 obtain ⟨b, o, hA', _, hc⟩ := h.cells (by have := h.len; omega)
 rw [hA] at hA'
 obtain rfl := Option.some.inj hA'
 rw [Addr.add_lit]
 exact hc j hj
theorem Is.laid (w : World) (t : TypeId) (l : List UInt8) (hm : l.length ≤ maxLen) : Is (w.alloc (.cells (cellsI l).toArray t)) (w.heap.size + 1) (some ⟨w.heap.size, 0, none⟩) l.length l.length l := by
 refine ⟨rfl, Nat.le_refl _, hm, (fun h => by cases h), fun _ => ⟨w.heap.size, 0, rfl, by omega, fun j hj => ?_⟩⟩
 rw [World.cell?_alloc_at _ _ _ _ rfl]
 have := cellsI_at l j hj
 simpa using this
end
end Go.Proofs.YtcehkafddlfleaaGreatDoor

namespace Go.Proofs.YtcehkafddlfleaaGreatDoor
open Go.RowKit
def Diff (d : Int) (p : Prop) : Prop := -9223372036854775808 ≤ d ∧ d < 9223372036854775808 ∧ (d = 0 ↔ p)
theorem wrap_i64_zero (n : Nat) (h : n < 18446744073709551616) : IntKind.i64.wrap (n : Int) = 0 ↔ n = 0 := by
 rw [IntKind.wrap_i64]; omega
theorem wrap_i64_range (z : Int) : -9223372036854775808 ≤ IntKind.i64.wrap z ∧ IntKind.i64.wrap z < 9223372036854775808 := by
 rw [IntKind.wrap_i64]; omega
theorem ofInt_zero (d : Int) (h1 : -9223372036854775808 ≤ d) (h2 : d < 9223372036854775808) : BitVec.ofInt 64 d = 0 ↔ d = 0 := by
 constructor
 ·intro h
  have := congrArg BitVec.toInt h
  rw [BitVec.toInt_ofInt] at this
  simp [Int.bmod] at this
  omega
 ·rintro rfl; rfl
theorem diff_len (n m : Nat) (hn : n ≤ 9223372036854775807) (hm : m ≤ 9223372036854775807) : Diff (bits .xor .i64 n m) (n = m) := by
 have hr := wrap_i64_range ((BitVec.ofInt 64 (n : Int) ^^^ BitVec.ofInt 64 (m : Int)).toNat : Int)
 refine ⟨hr.1, hr.2, ?_⟩
 show IntKind.i64.wrap ((BitVec.ofInt 64 (n : Int) ^^^ BitVec.ofInt 64 (m : Int)).toNat : Int) = 0 ↔ _
 rw [wrap_i64_zero _ (BitVec.isLt _)]
 constructor
 ·intro h
  have h1 : BitVec.ofInt 64 (n : Int) ^^^ BitVec.ofInt 64 (m : Int) = 0#64 := BitVec.eq_of_toNat_eq (by simpa using h)
  have h2 := BitVec.xor_eq_zero_iff.1 h1
  have h3 := congrArg BitVec.toNat h2
  simp only [BitVec.ofInt_natCast, BitVec.toNat_ofNat] at h3
  omega
 ·rintro rfl; simp
theorem diff_or (d : Int) (x y : UInt8) (p : Prop) (h : Diff d p) : Diff (bits .or .i64 d (wrap64 (bits .xor .u8 (x.toNat : Int) (y.toNat : Int)))) (p ∧ x = y) := by
 rw [show wrap64 (bits .xor .u8 (x.toNat : Int) (y.toNat : Int)) = IntKind.i64.wrap (bits .xor .u8 (x.toNat : Int) (y.toNat : Int)) from by simp only [wrap64, IntKind.wrap_i64]]
 obtain ⟨h1, h2, h3⟩ := h
 have ex : IntKind.i64.wrap (bits .xor .u8 (x.toNat : Int) (y.toNat : Int)) = ((x.toNat ^^^ y.toNat : Nat) : Int) := by
  rw [u8_xor_nat _ _ (UInt8.toNat_lt _) (UInt8.toNat_lt _)]
  have : x.toNat ^^^ y.toNat < 2 ^ 8 := Nat.xor_lt_two_pow (UInt8.toNat_lt _) (UInt8.toNat_lt _)
  rw [IntKind.wrap_i64]; omega
 have hlt : x.toNat ^^^ y.toNat < 2 ^ 8 := Nat.xor_lt_two_pow (UInt8.toNat_lt _) (UInt8.toNat_lt _)
 rw [ex]
 generalize hq : x.toNat ^^^ y.toNat = q at *
 have hq0 : q = 0 ↔ x = y := by
  rw [← hq]
  constructor
  ·intro h
   exact UInt8.xor_eq_zero_iff.1 (UInt8.toNat_inj.1 (by rw [UInt8.toNat_xor, h]; rfl))
  ·rintro rfl; simp
 have hr := wrap_i64_range ((BitVec.ofInt 64 d ||| BitVec.ofInt 64 (q : Int)).toNat : Int)
 refine ⟨hr.1, hr.2, ?_⟩
 show IntKind.i64.wrap ((BitVec.ofInt 64 d ||| BitVec.ofInt 64 (q : Int)).toNat : Int) = 0 ↔ _
 rw [wrap_i64_zero _ (BitVec.isLt _), ← h3, ← hq0, ← ofInt_zero d h1 h2]
 have hqq : BitVec.ofInt 64 (q : Int) = 0 ↔ q = 0 := by rw [ofInt_zero _ (by omega) (by omega)]; omega
 rw [← hqq]
 constructor
 ·intro h
  have h1 : BitVec.ofInt 64 d ||| BitVec.ofInt 64 (q : Int) = 0#64 := BitVec.eq_of_toNat_eq (by simpa using h)
  exact BitVec.or_eq_zero_iff.1 h1
 ·rintro ⟨h1, h2⟩; rw [h1, h2]; rfl
set_option maxHeartbeats 400000 in
theorem equal1_any (x y : UInt8) (g : Nat) (d : Int) (w : World) (hc : w.cell? ⟨g, 0, none⟩ = some (.int .i64 d)) (hf : w.frozen? ⟨g, 0, none⟩ = false) :
  Calls Tryz.prog 240 #[.int .u8 x.toNat, .int .u8 y.toNat, .pointer (some ⟨g, 0, none⟩)] w fun e w' =>
   e = .returned (.tuple #[]) ∧ w.setCell ⟨g, 0, none⟩ (.int .i64 (bits .or .i64 d (wrap64 (bits .xor .u8 (x.toNat : Int) (y.toNat : Int))))) = w' := by
 go_enter Tryz.func240, Tryz.ntmps240
 go_wp2
 go_end0
 exact ⟨rfl, rfl⟩
theorem take_eq_step (xs ys : List UInt8) (k : Nat) (hx : k < xs.length) (hy : k < ys.length) : (xs.take k = ys.take k ∧ xs[k] = ys[k]) ↔ xs.take (k + 1) = ys.take (k + 1) := by
 rw [List.take_succ_eq_append_getElem hx, List.take_succ_eq_append_getElem hy]
 constructor
 ·rintro ⟨h1, h2⟩; rw [h1, h2]
 ·intro h
  have := List.append_inj' h rfl
  exact ⟨this.1, by simpa using this.2⟩
theorem Diff.iff {d : Int} {p q : Prop} (h : Diff d p) (hpq : p ↔ q) : Diff d q := ⟨h.1, h.2.1, h.2.2.trans hpq⟩
theorem Diff.bool {d : Int} {xs ys : List UInt8} (h : Diff d (xs = ys)) : (d == 0) = (xs == ys) := by
 rw [Bool.eq_iff_iff, beq_iff_eq, beq_iff_eq]; exact h.2.2
theorem Diff.step {d : Int} {xs ys : List UInt8} {p : Prop} {k : Nat} (h : Diff d (p ∧ xs.take k = ys.take k)) (hx : k < xs.length) (hy : k < ys.length) :
  Diff (bits .or .i64 d (wrap64 (bits .xor .u8 (xs[k].toNat : Int) (ys[k].toNat : Int)))) (p ∧ xs.take (k + 1) = ys.take (k + 1)) :=
 (diff_or d _ _ _ h).iff (and_assoc.trans (and_congr_right fun _ => take_eq_step xs ys k hx hy))
theorem Diff.done {d : Int} {xs ys : List UInt8} {n m k : Nat} (h : Diff d (n = m ∧ xs.take k = ys.take k)) (hx : xs.length = n) (hy : ys.length = m) (hk : k = min n m) : (d == 0) = (xs == ys) :=
 Diff.bool (h.iff (by
  constructor
  ·rintro ⟨h1, h2⟩
   rwa [List.take_of_length_le (by omega), List.take_of_length_le (by omega)] at h2
  ·rintro rfl
   exact ⟨by omega, rfl⟩))
set_option maxRecDepth 100000 in
set_option maxHeartbeats 800000 in
theorem equal_any (A B : Option Addr) (n c m d : Nat) (xs ys : List UInt8) (w : World) (ha : Bs w w.heap.size A n c xs) (hb : Bs w w.heap.size B m d ys) :
  Calls Tryz.prog 206 #[.slice A n c, .slice B m d] w fun e w' => e = .returned (.bool (xs == ys)) ∧ Below w.heap.size w w' := by
 have hn := ha.le
 have hm := hb.le
 have HD := diff_len n m hn hm
 obtain ⟨K, hK⟩ : ∃ K, K = min n m := ⟨_, rfl⟩
 have hKn : K ≤ n := by omega
 have hKm : K ≤ m := by omega
 have HK := Lib.hid hK
 have HX := Lib.hid ha.len
 have HY := Lib.hid hb.len
 clear hK
 have hb1 : Below w.heap.size w (w.alloc (.cells #[.int .i64 (bits .xor .i64 n m)] 3)) := (Below.refl _ _).alloc (Nat.le_refl _) _
 have hc1 : (w.alloc (.cells #[.int .i64 (bits .xor .i64 n m)] 3)).cell? ⟨w.heap.size, 0, none⟩ = some (.int .i64 (bits .xor .i64 n m)) := by
  rw [World.cell?_alloc_at _ _ _ _ rfl]; rfl
 have hf1 : (w.alloc (.cells #[.int .i64 (bits .xor .i64 n m)] 3)).frozen? ⟨w.heap.size, 0, none⟩ = false := World.frozen?_alloc_at _ _ _ _ rfl
 have HC1 := Lib.hid hc1
 have HF1 := Lib.hid hf1
 clear hc1 hf1
 go_enter Tryz.func206, Tryz.ntmps206
 have h3 : n ≤ m ∨ m < n := by omega
 rcases h3 with h | h
 all_goals
  go_wp2
  go_loopw [19] (fun i wr => ∃ (k : Nat) (dk : Int), k ≤ K ∧ i = .int .i64 k ∧ Hid (wr.cell? ⟨w.heap.size, 0, none⟩ = some (.int .i64 dk)) ∧ Hid (wr.frozen? ⟨w.heap.size, 0, none⟩ = false) ∧ Diff dk (n = m ∧ xs.take k = ys.take k) ∧ Below w.heap.size w wr) (fun i _ => K - (intOf i).toNat)
  case atStart => exact ⟨0, _, Nat.zero_le _, rfl, HC1, HF1, HD.iff (by simp), hb1⟩
  case round =>
   obtain ⟨k, dk, hk, rfl, HC, HF, hD, hB⟩ := hrel
   by_cases hlt : k < K
   ·obtain ⟨b1, o1, rfl, hl1, hc1⟩ := (ha.below hB).cell (i := k) (by omega)
    obtain ⟨b2, o2, rfl, hl2, hc2⟩ := (hb.below hB).cell (i := k) (by omega)
    go_wp2
    have HD2 := Lib.hid (hD.step (by rw [HX.out]; omega) (by rw [HY.out]; omega))
    have hki : (k : Int) < (n : Int) := by omega
    have hkm : (k : Int) < (m : Int) := by omega
    go_still_tail 9, (by kernel_rfl)
    change wpList _ _ _ _ _ wr.drew
    go_wp2_with (go_at_call 240; refine (equal1_any _ _ w.heap.size dk _ (by exact HC.out) (by exact HF.out)).mono ?_; rintro e w' ⟨rfl, rfl⟩)
    go_roundw
    case rel =>
     refine ⟨k + 1, _, by omega, by go_num, ?_, ?_, HD2.out, hB.drew.setCell (Nat.le_refl _) _⟩
     ·show World.cell? _ _ = _
      exact World.cell?_setCell_same _ _ _ HC.out
     ·show World.frozen? (World.setCell _ _ _) _ = _
      rw [World.frozen?_setCell]; exact HF.out
    case measure => simp [intOf]; omega
   ·have HB := Lib.hid (hD.done HX.out HY.out (by have := HK.out; omega))
    have hc := HC.out
    clear hD
    first
     | (have hge : n ≤ K := by have := HK.out; omega)
     | (have hge : m ≤ K := by have := HK.out; omega)
    go_wp2
    go_ret
    exact ⟨by rw [← HB.out]; rfl, hB⟩
end Go.Proofs.YtcehkafddlfleaaGreatDoor

namespace Go.Proofs.YtcehkafddlfleaaGreatDoor
open Go.RowKit
variable {P : Program} {t e : TypeId} {z : Value} {bytes : Nat}
theorem Came.below {w w' : World} {g n c B : Nat} {xs : List Value} (h : Came w 1 (some ⟨g, 0, none⟩) g 0 n c xs) (hb : Below B w w') (hg : g < B) : Came w' 1 (some ⟨g, 0, none⟩) g 0 n c xs :=
 ⟨h.le, h.addr, fun h0 => Nat.lt_of_lt_of_le (h.lt h0) hb.size, h.oldsLen, fun j u hu => (hb.cell (p := ⟨g, _, none⟩) hg).trans (h.olds j u hu),
  fun j hj => ⟨by rw [hb.cell (p := ⟨g, _, none⟩) hg]; exact (h.spare j hj).1, (World.frozen?_of_block (a := ⟨g, _, none⟩) (hb.block g hg)).trans (h.spare j hj).2⟩⟩
theorem Came.bs {w : World} {g n c : Nat} {l : List UInt8} (h : Came w 1 (some ⟨g, 0, none⟩) g 0 n c (cells8 l)) (hg : g < w.heap.size) (hc : c ≤ maxLen) : Bs w w.heap.size (some ⟨g, 0, none⟩) n c l := by
 have hl : l.length = n := by have := h.oldsLen; rw [cells8_length] at this; omega
 exact ⟨hl, h.le, hc, (fun h => by cases h), fun _ => ⟨g, 0, rfl, hg, fun j hj => h.olds j _ (cells8_at l j hj)⟩⟩
theorem str_came (w : World) (l : List UInt8) (e : TypeId) (cap : Nat) (hcap : l.length ≤ cap) (hi : Nat) :
  Came (w.alloc (.cells (bytesRow ⟨l.toArray⟩ cap) e ((bytesRow ⟨l.toArray⟩ cap).size, hi))) 1 (some ⟨w.heap.size, 0, none⟩) w.heap.size 0 l.length cap (cells8 l) := by
 have hs : (bytesRow ⟨l.toArray⟩ cap).size = cap := by
  simp [bytesRow, ByteArray.size]; omega
 refine ⟨hcap, fun _ => rfl, fun _ => by simp, by rw [cells8_length]; omega, fun j u hu => ?_, fun j hj => ⟨?_, ?_⟩⟩
 ·obtain ⟨hj, rfl⟩ := cells8_some hu
  rw [World.cell?_alloc_mark, Nat.zero_add, bytesRow_at _ _ _ (by simpa using hj)]
  simp
 ·rw [World.cell?_alloc_mark, Array.getElem?_eq_getElem (by rw [hs]; omega)]; rfl
 ·rw [World.frozen?_alloc_mark, hs]
  have : decide (cap ≤ 0 + l.length * 1 + j) = false := by rw [decide_eq_false_iff_not]; omega
  rw [this]; rfl
section
variable {ops : Array Oper} {rest : List Oper} {o : Oper} {a : Act} {Q : Exit → Act → World → Prop} {w : World}
theorem wpList_bytesOf {src : TypeId} (hs : P.underlying src = some .string) (ht : P.underlying t = some (.slice e)) (he : P.underlying e = some (.int .u8)) (hgd : o.guard = none) (x : Operand) (hop : o.op = .convert src t x)
  {l : List UInt8} (hx : a.eval x = .string ⟨l.toArray⟩) (hm : l.length ≤ maxLen)
  (h : ∀ c w', Came w' 1 (some ⟨w.heap.size, 0, none⟩) w.heap.size 0 l.length c (cells8 l) → c ≤ maxLen → Below w.heap.size w w' → w'.heap.size = w.heap.size + 1 → wpList P ops Q rest (a.put o.dst (.slice (some ⟨w.heap.size, 0, none⟩) l.length c)) w') : wpList P ops Q (o :: rest) a w := by
 refine wpList_plain hgd fun K hK => ?_
 have hrun := run_bytes_of_string (P := P) w src t e ⟨l.toArray⟩ hs ht he
 have hsz : (⟨l.toArray⟩ : ByteArray).size = l.length := by simp [ByteArray.size]
 rw [hsz] at hrun
 unfold Oper.wp
 simp [execOp, hop, hx, hrun, Result.andThen]
 exact hK _ _ (h _ _ (str_came w.drew l e _ (grownCap_ge w l.length 0 e) _) (grownCap_le_maxLen w l.length 0 e hm) (((Below.refl _ w).drew).alloc (Nat.le_refl _) _) (by simp))
end
end Go.Proofs.YtcehkafddlfleaaGreatDoor

namespace Go.Proofs.YtcehkafddlfleaaGreatDoor
open Go.ChangeShapes Go.WideShapes Go.ChangeAt Go.RowKit Go.Deep
theorem spot_of_cell {w : World} {a : Addr} {v : Value} (h : w.cell? a = some v) : a.spot = none := by
 unfold World.cell? at h
 split at h
 ·split at h
  ·cases h
  ·rename_i hs
   cases hsp : a.spot with
   | none => rfl
   | some x => simp [hsp] at hs
 ·cases h
theorem add_none (a : Addr) : a.add 0 = a := by simp [Addr.add]
theorem addr_lit {a : Addr} (h : a.spot = none) : a = ⟨a.block, a.off, none⟩ := by
 obtain ⟨b, o, s⟩ := a
 simp at h; subst h; rfl
def bytesOfInts (zs : List Int) : List UInt8 := zs.map fun z => UInt8.ofNat z.toNat
theorem byte_back {z : Int} (h : (Lit.int .u8 z).wf = true) : (((UInt8.ofNat z.toNat).toNat : Nat) : Int) = z := by
 have hb : 0 ≤ z ∧ z ≤ 255 := by simpa [Lit.wf, IntKind.min, IntKind.max, IntKind.signed, IntKind.bits] using h
 have : (UInt8.ofNat z.toNat).toNat = z.toNat % 256 := rfl
 omega
theorem bs_of_cells {w : World} {a : Addr} {len cap : Nat} {zs : List Int} (hl : len ≤ cap) (hm : cap ≤ maxLen) (hz : zs.length = cap) (hcell : ∀ i, i < zs.length → w.cell? (a.add i) = some (.int .u8 (zs.getD i 0)))
  (hw : ∀ n ∈ zs, (Lit.int .u8 n).wf = true) : Bs w w.heap.size (some a) len cap (bytesOfInts (zs.take len)) := by
 refine ⟨by simp [bytesOfInts]; omega, hl, hm, (fun h => by cases h), fun h0 => ?_⟩
 have h1 := hcell 0 (by omega)
 rw [add_none] at h1
 have hs := spot_of_cell h1
 refine ⟨a.block, a.off, by rw [← addr_lit hs], World.block_lt_of_cell? w a h1, fun j hj => ?_⟩
 have hj' : j < zs.length := by simp [bytesOfInts] at hj; omega
 have h2 := hcell j hj'
 rw [addr_lit hs, Addr.add_lit] at h2
 rw [h2]
 simp only [bytesOfInts, List.getElem_map, List.getElem_take]
 rw [byte_back (hw _ (List.getElem_mem hj'))]
 simp [List.getD, List.getElem?_eq_getElem hj']
section
variable {H : Type} {P : Program} {enc : TypeId × Value → H} {W : World} {t e : TypeId} {a : Option Addr} {len cap : Nat} {d : DataW H} {p : List MemPlace}
theorem mem_weightsAll {n : Nat} {x : DataW H} : ∀ {l : List (DataW H)}, x ∈ l → n ∈ x.weights P e → n ∈ DataW.weightsAll P e l
 | [], h, _ => by cases h
 | y :: r, h, hn => by
  simp only [DataW.weightsAll, List.mem_append]
  rcases List.mem_cons.1 h with rfl | h
  ·exact .inl hn
  ·exact .inr (mem_weightsAll h hn)
theorem reach_of {ts : List TypeId} {ds : List (DataW H)} (h : (DataW.weightsEach P ts ds).all (· ≤ reachBytes) = true) {j : Nat} (ht : ts[j]? = some t) (hd : ds[j]? = some d) : ∀ n ∈ d.weights P t, n ≤ reachBytes := by
 intro n hn
 have := List.all_eq_true.1 h _ (DataW.weights_mem_each ht hd n hn)
 simpa using this
theorem slice_reach {elems spare : List (DataW H)} (ht : P.underlying t = some (.slice e)) (h : ∀ n ∈ (DataW.slice elems spare).weights P t, n ≤ reachBytes) : (elems.length + spare.length) * P.bytesOf e ≤ reachBytes :=
 h _ (by simp [DataW.weights, ht])
theorem slice_reach_in {elems spare : List (DataW H)} (ht : P.underlying t = some (.slice e)) (h : ∀ n ∈ (DataW.slice elems spare).weights P t, n ≤ reachBytes) : ∀ x ∈ elems, ∀ n ∈ x.weights P e, n ≤ reachBytes :=
 fun x hx n hn => h n (by simp only [DataW.weights, ht]; exact List.mem_cons_of_mem _ (List.mem_append_left _ (mem_weightsAll hx hn)))
end
end Go.Proofs.YtcehkafddlfleaaGreatDoor
