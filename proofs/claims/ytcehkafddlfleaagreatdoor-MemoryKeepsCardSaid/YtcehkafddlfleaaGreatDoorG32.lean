/- 
    -/
import Derived.Test.YtcehkafddlfleaaGreatDoorG28
import Derived.Test.YtcehkafddlfleaaGreatDoorG07
import Derived.Great.BuildSlice
namespace Go.Proofs.YtcehkafddlfleaaGreatDoor
open Go.RowKit
theorem tk_min {l : List UInt8} {n : Nat} (h : l.length = n) (k : Nat) : l.take (min k n) = l.take k := by
 rcases Nat.le_total k n with h2 | h2
 ·rw [Nat.min_eq_left h2]
 ·rw [Nat.min_eq_right h2, List.take_of_length_le (by omega), List.take_of_length_le (by omega)]
theorem dr_min {l : List UInt8} {n : Nat} (h : l.length = n) (k : Nat) : l.drop (min k n) = l.drop k := by
 rcases Nat.le_total k n with h2 | h2
 ·rw [Nat.min_eq_left h2]
 ·rw [Nat.min_eq_right h2, List.drop_of_length_le (by omega), List.drop_of_length_le (by omega)]
theorem ls_one' {A : Option Addr} {n c : Nat} {l : List UInt8} {w : World} (t : TypeId) (h : Bs w w.heap.size A n c l) : Ls (w.alloc (.cells #[.slice A n c] t)) (w.alloc (.cells #[.slice A n c] t)).heap.size (some ⟨w.heap.size, 0, none⟩) 1 1 [l] := (Ls.one t h).more (by simp)
set_option maxRecDepth 100000 in
set_option maxHeartbeats 2000000 in
theorem cut1_any (g s : Nat) (A : Option Addr) (n c : Nat) (l : List UInt8) (wide : Nat) (w : World) (hv : Blk w g 29 [.slice A n c]) (hb : Bs w s A n c l) (hs : s ≤ g) (hn : n ≤ 4294967296) (hw : wide ≤ 4294967296) :
  Calls Tryz.prog 239 #[.int .i64 wide, .pointer (some ⟨g, 0, none⟩)] w fun e w' => ∃ F fc A' c', e = .returned (.slice F (min wide n) fc) ∧ BsN w.heap.size w' F (min wide n) fc (l.take wide) ∧
   Blk w' g 29 [.slice A' (n - min wide n) c'] ∧ Bs w' s A' (n - min wide n) c' (l.drop wide) ∧ w.grownBy w' (some g) := by
 have HV : Kp _ := ⟨hv⟩
 have HB : Kp _ := ⟨hb⟩
 have HL : Kp (l.length = n) := ⟨hb.len⟩
 have HS : Kp (s ≤ g ∧ g < w.heap.size) := ⟨hs, hv.lt⟩
 have c0 : w.cell? ⟨g, 0, none⟩ = some (.slice A n c) := hv.cell? 0
 obtain ⟨N, hN⟩ : ∃ N, N = min wide n := ⟨_, rfl⟩
 have HT : Kp (l.take wide = l.take N ∧ l.drop wide = l.drop N) := ⟨by rw [hN, tk_min HL.out, dr_min HL.out]; exact ⟨rfl, rfl⟩⟩
 have HN : Kp (N ≤ n) := ⟨by omega⟩
 rw [← hN, HT.out.1, HT.out.2]
 clear hv hb hs HT
 go_enter Tryz.func239, Tryz.ntmps239
 rcases (by omega : wide ≤ n ∨ n < wide) with h | h
 ·obtain rfl : N = wide := by omega
  clear hN
  go_wp2_with (with_reducible refine wpList_cut_h (o := ⟨some 12, _, _, _, _, _⟩) el8 rfl _ _ rfl rfl HB.out _ _ N rfl rfl HN.out ?_)
  intro A1 hbs1
  have HB1 : Kp _ := ⟨hbs1.more (Nat.le_trans HS.out.1 (Nat.le_of_lt HS.out.2))⟩
  clear hbs1
  go_wp2_with fail
  refine (join_any _ _ _ [l.take N] _ (ls_one' 29 HB1.out) (by simp; have := HN.out; omega)).mono ?_
  rintro e w1 ⟨v1, rfl, hown1, hb1⟩
  obtain ⟨F, fc, rfl, ⟨hbsF, hfrF⟩⟩ := BsN.of_own hown1
  have HFr : Kp _ := ⟨hfrF.low (by simp : w.heap.size ≤ _)⟩
  have hfl : ([l.take N] : List (List UInt8)).flatten.length = N := by simp; have := HL.out; have := HN.out; omega
  have hff : ([l.take N] : List (List UInt8)).flatten = l.take N := by simp
  rw [hfl] at hbsF ⊢
  rw [hff] at hbsF
  have HF : Kp _ := ⟨hbsF⟩
  have hbw : Below w.heap.size w w1 := ((Below.refl _ _).alloc (Nat.le_refl _) _).trans (hb1.mono (by simp))
  have HBw : Kp _ := ⟨hbw⟩
  have HV1 : Kp _ := ⟨HV.out.below hbw HS.out.2⟩
  have HBs1 : Kp (Bs w1 s A n c l) := ⟨HB.out.below' hbw (by have := HS.out; omega)⟩
  have c1 : w1.cell? ⟨g, 0, none⟩ = some (.slice A n c) := HV1.out.cell? 0
  have f1 : w1.frozen? ⟨g, 0, none⟩ = false := HV1.out.frozen 0
  clear hown1 hb1 hbsF hfrF hfl hff hbw c0
  go_wp2_with (with_reducible refine wpList_cut_l (o := ⟨some 17, _, _, _, _, _⟩) el8 rfl _ _ rfl rfl HBs1.out _ _ N rfl rfl HN.out ?_)
  intro A2 m2 d2 hbs2
  have hm2 : m2 = n - N := by have h1 := hbs2.len; have h2 := HL.out; simp at h1; omega
  subst hm2
  have HB2 : Kp _ := ⟨hbs2⟩
  clear hbs2
  go_wp2
  go_ret
  refine ⟨F, fc, A2, d2, rfl, ?_, HV1.out.set 0 _, ?_, ?_⟩
  ·exact ⟨by simpa using HF.out.setvar HV1.out (.slice A2 (n - N) d2), HFr.out⟩
  ·simpa using HB2.out.setvar HV1.out (.slice A2 (n - N) d2)
  ·have ho := Only.setCell w1 ⟨g, 0, none⟩ (.slice A2 (n - N) d2)
   have hb := HBw.out
   exact ⟨ho.os.trans hb.os, ho.tape.trans hb.tape, ho.output.trans hb.output, by rw [ho.size]; exact hb.size, fun k hk hne => (ho.block k (fun e => hne (by rw [e]))).trans (hb.block k hk)⟩
 ·obtain rfl : N = n := by omega
  clear hN
  go_wp2_with (with_reducible refine wpList_cut_h (o := ⟨some 12, _, _, _, _, _⟩) el8 rfl _ _ rfl rfl HB.out _ _ N rfl rfl HN.out ?_)
  intro A1 hbs1
  have HB1 : Kp _ := ⟨hbs1.more (Nat.le_trans HS.out.1 (Nat.le_of_lt HS.out.2))⟩
  clear hbs1
  go_wp2_with fail
  refine (join_any _ _ _ [l.take N] _ (ls_one' 29 HB1.out) (by simp; have := HN.out; omega)).mono ?_
  rintro e w1 ⟨v1, rfl, hown1, hb1⟩
  obtain ⟨F, fc, rfl, ⟨hbsF, hfrF⟩⟩ := BsN.of_own hown1
  have HFr : Kp _ := ⟨hfrF.low (by simp : w.heap.size ≤ _)⟩
  have hfl : ([l.take N] : List (List UInt8)).flatten.length = N := by simp; have := HL.out; have := HN.out; omega
  have hff : ([l.take N] : List (List UInt8)).flatten = l.take N := by simp
  rw [hfl] at hbsF ⊢
  rw [hff] at hbsF
  have HF : Kp _ := ⟨hbsF⟩
  have hbw : Below w.heap.size w w1 := ((Below.refl _ _).alloc (Nat.le_refl _) _).trans (hb1.mono (by simp))
  have HBw : Kp _ := ⟨hbw⟩
  have HV1 : Kp _ := ⟨HV.out.below hbw HS.out.2⟩
  have HBs1 : Kp (Bs w1 s A N c l) := ⟨HB.out.below' hbw (by have := HS.out; omega)⟩
  have c1 : w1.cell? ⟨g, 0, none⟩ = some (.slice A N c) := HV1.out.cell? 0
  have f1 : w1.frozen? ⟨g, 0, none⟩ = false := HV1.out.frozen 0
  clear hown1 hb1 hbsF hfrF hfl hff hbw c0
  go_wp2_with (with_reducible refine wpList_cut_l (o := ⟨some 17, _, _, _, _, _⟩) el8 rfl _ _ rfl rfl HBs1.out _ _ N rfl rfl HN.out ?_)
  intro A2 m2 d2 hbs2
  have hm2 : m2 = N - N := by have h1 := hbs2.len; have h2 := HL.out; simp at h1; omega
  subst hm2
  have HB2 : Kp _ := ⟨hbs2⟩
  clear hbs2
  go_wp2
  go_ret
  refine ⟨F, fc, A2, d2, rfl, ?_, by have h := HV1.out.set 0 (.slice A2 0 d2); simpa using h, ?_, ?_⟩
  ·exact ⟨by simpa using HF.out.setvar HV1.out (.slice A2 0 d2), HFr.out⟩
  ·simpa using HB2.out.setvar HV1.out (.slice A2 0 d2)
  ·have ho := Only.setCell w1 ⟨g, 0, none⟩ (.slice A2 0 d2)
   have hb := HBw.out
   exact ⟨ho.os.trans hb.os, ho.tape.trans hb.tape, ho.output.trans hb.output, by rw [ho.size]; exact hb.size, fun k hk hne => (ho.block k (fun e => hne (by rw [e]))).trans (hb.block k hk)⟩
end Go.Proofs.YtcehkafddlfleaaGreatDoor

namespace Go.Proofs.YtcehkafddlfleaaGreatDoor
open Go.RowKit
theorem as_rangeD (l : List UInt8) (n : Nat) (h : l.length = n) : (List.range n).map (fun i => l.getD i 0) = l := by
 subst h
 refine List.ext_getElem (by simp) fun i h1 h2 => ?_
 simp [List.getD, List.getElem?_eq_getElem h2]
theorem fill_dig (h : Nat → UInt8) : Instr.fill (fun i => some (i * 32, 32)) ((Array.range (1 * 32)).map (zDig.cells[· % zDig.cells.size]!)) [(0, .agg (cells8 ((List.range 32).map h)).toArray)] = some (cells8 ((List.range 32).map h)).toArray := by kernel_rfl
section
variable {w : World} {ops : Array Oper} {rest : List Oper} {o : Oper} {a : Act} {Q : Exit → Act → World → Prop}
theorem run_buildD (w : World) (l : List UInt8) (hl : l.length = 32) : (Instr.buildSlice 61 1 #[(0, .agg (cells8 l).toArray)]).run Tryz.prog w = .ok (.slice (some ⟨w.heap.size, 0, none⟩) 1 1) (w.alloc (.cells (cells8 l).toArray 173)) := by
 obtain ⟨i, hi, hz, hsize, hby⟩ := info_parts infDig
 refine run_buildSlice w 61 173 1 _ (cells8 l).toArray i _ Tryz.underlying61 hi hz (by rw [hsize]; decide) (by rw [hsize]; decide) ?_
 have h1 := fill_dig (fun i => l.getD i 0)
 rw [as_rangeD l 32 hl] at h1
 rw [hsize]
 exact h1
theorem step_buildD {K : Act → World → Prop} {C : Prop} (hgd : o.guard = none) (x : Operand) (hop : o.op = .buildSlice 61 1 #[(0, x)]) (l : List UInt8) (hx : a.eval x = .agg (cells8 l).toArray) (hl : l.length = 32)
  (h : K (a.put o.dst (.slice (some ⟨w.heap.size, 0, none⟩) 1 1)) (w.alloc (.cells (cells8 l).toArray 173))) : if Region.wanted o (yielded ops a.tmps) = true then Oper.wp Tryz.prog o a w K Q else C := by
 have hw : Region.wanted o (yielded ops a.tmps) = true := by simp [Region.wanted, hgd]
 rw [if_pos hw]
 unfold Oper.wp execOp
 simp only [hop, Sem.run_bind, List.map_toArray, List.map_cons, List.map_nil, hx, run_buildD w l hl, Result.andThen_ok, Sem.run_pure]
 exact h
end
section
variable {P : Program} {w : World} {ops : Array Oper} {rest : List Oper} {o : Oper} {a : Act} {Q : Exit → Act → World → Prop} {t e : TypeId} {z : Value} {bytes size : Nat}
theorem step_toArr {K : Act → World → Prop} {C : Prop} {N : Nat} (ht : P.underlying t = some (.array N e)) (hgd : o.guard = none) (x : Operand) (hop : o.op = .sliceToArrayPointer t x) {A : Option Addr} {n c : Nat} (hx : a.eval x = .slice A n c) (hn : N ≤ n)
  (h : K (a.put o.dst (.pointer A)) w) : if Region.wanted o (yielded ops a.tmps) = true then Oper.wp P o a w K Q else C := by
 have hw : Region.wanted o (yielded ops a.tmps) = true := by simp [Region.wanted, hgd]
 rw [if_pos hw]
 unfold Oper.wp
 simp only [execOp, hop, hx, Sem.run_bind, run_arrayAt w t e N A n c ht hn, Result.andThen_ok, Sem.run_pure]
 exact h
theorem step_loadR {K : Act → World → Prop} {C : Prop} {d : TypeDesc} {n : Nat} (E : Rw P t d n) (hgd : o.guard = none) (x : Operand) (hop : o.op = .load t x) {g off : Nat} {vs : List Value} (hx : a.eval x = .pointer (some ⟨g, off, none⟩)) (hr : w.rangeAt g off vs) (hn : vs.length = n)
  (h : K (a.put o.dst (.agg vs.toArray)) w) : if Region.wanted o (yielded ops a.tmps) = true then Oper.wp P o a w K Q else C := by
 have hw : Region.wanted o (yielded ops a.tmps) = true := by simp [Region.wanted, hgd]
 rw [if_pos hw]
 unfold Oper.wp
 simp only [execOp, hop, hx, Sem.run_bind, run_loadAt_mid w g off t vs d hr E.ty E.row (by rw [E.size, hn]), Result.andThen_ok, Sem.run_pure]
 exact h
theorem step_appK {K : Act → World → Prop} {C : Prop} (ht : P.underlying t = some (.slice e)) (hinf : (P.info? e).map (fun i => (i.zero, i.size, i.bytes)) = some (some z, size, bytes)) (hzs : z.cells.size = size) (hpos : 0 < size) (hgd : o.guard = none) (s x : Operand)
  (ho : o.op = .call { callee := .builtin .append, args := #[s, x], argTypes := #[t, t] })
  (base : Nat) (v : Value) (n : Nat) (xs : List Value) (hs : a.eval s = v) (hown : w.ownsRow base e size v n xs)
  (ad : Addr) (m c : Nat) (ys : List Value) (hx : a.eval x = .slice (some ad) m c) (hl : ys.length = m * size) (hsrc : ∀ j u, ys[j]? = some u → w.cell? (ad.add j) = some u) (h1 : ∀ u ∈ ys, u.oneCell' = true)
  (h63 : n + m ≤ maxLen) (hbytes : (n + m) * bytes ≤ 140737488355328) (hbase : base ≤ w.heap.size)
  (h : ∀ v' w', w'.ownsRow base e size v' (n + m) (xs ++ ys) → Below base w w' → K (a.put o.dst v') w') :
  if Region.wanted o (yielded ops a.tmps) = true then Oper.wp P o a w K Q else C := by
 have hw : Region.wanted o (yielded ops a.tmps) = true := by simp [Region.wanted, hgd]
 rw [if_pos hw]
 obtain ⟨i, hi, hz0, hz1, hz2⟩ := info_parts hinf
 obtain ⟨v', w', hrun, h2, h3, _, h5⟩ := run_append_own_at (P := P) w base t o.type e i z size bytes ht hi hz0 hz1 hz2 hzs hpos v n xs hown ad m c ys hl hsrc h1 h63 hbytes hbase
 unfold Oper.wp execOp
 simp only [ho, resolve, invoke, builtin, Sem.run_bind, Sem.run_pure, Result.andThen_ok, List.map_toArray, List.map_cons, List.map_nil, hs, hx, hrun]
 exact h v' w' h2 (grown_belowK hown hbase h3)
end
section
variable {w w' : World} {B g : Nat} {t : TypeId}
theorem grown_lo (h : w.grownBy w' (some g)) (hg : g ≤ w.heap.size) : Below g w w' := ⟨h.os, h.tape, h.output, h.size, fun k hk => h.block k (by omega) (fun e => by have := Option.some.inj e; omega)⟩
theorem Blk.over {g2 : Nat} {cs : List Value} (hk : Blk w g2 t cs) (h : w.grownBy w' (some g)) (hne : g2 ≠ g) : Blk w' g2 t cs := ⟨(h.block g2 hk.lt (fun e => hne (Option.some.inj e))).trans hk.heap⟩
theorem Bs.over {A A2 : Option Addr} {n c n2 c2 : Nat} {l : List UInt8} (hb : Bs w B A n c l) (hB : B ≤ w.heap.size) (hv : Blk w g t [.slice A2 n2 c2]) (h : w.grownBy w' (some g)) : Bs w' B A n c l :=
 hb.grown (g := some g) (fun k hk hlt => h.block k (Nat.lt_of_lt_of_le hlt hB) (fun e => hk e.symm)) (hb.notvar hv)
theorem own_over {b e size n : Nat} {v : Value} {xs : List Value} (ho : w.ownsRow b e size v n xs) (h : w.grownBy w' (some g)) (hg : g < b) : w'.ownsRow b e size v n xs := by
 refine ⟨ho.1, ?_⟩
 rcases ho.2 with ⟨rfl, rfl⟩ | ⟨g', cap, cur, rfl, hg', hh, hr⟩
 ·exact .inl ⟨rfl, rfl⟩
 ·exact .inr ⟨g', cap, cur, rfl, hg', (h.block g' (Array.getElem?_eq_some_iff.1 hh).1 (fun e => by have := Option.some.inj e; omega)).trans hh, hr⟩
theorem Bs.notrc {A A2 D : Option Addr} {n c num n2 c2 m e : Nat} {blk : Int} {l : List UInt8} (h : Bs w B A n c l) (hk : Blk w g t (rcL num blk A2 n2 c2 D m e)) : ∀ ad, A = some ad → 0 < n → some g ≠ some ad.block := by
 intro ad hA h0 e
 obtain ⟨b, o, hA', _, hc⟩ := h.cells h0
 rw [hA] at hA'
 obtain rfl := Option.some.inj hA'
 obtain rfl := Option.some.inj e
 have h1 := hc 0 (by have := h.len; omega)
 rw [hk.cell?] at h1
 match o, h1 with
 | 0, h1 => simp at h1
 | 1, h1 => simp at h1
 | 2, h1 => simp at h1
 | 3, h1 => simp at h1
 | o + 4, h1 => simp at h1
theorem Bs.setrc {A A2 D : Option Addr} {n c num n2 c2 m e i : Nat} {blk : Int} {l : List UInt8} (h : Bs w B A n c l) (hk : Blk w g t (rcL num blk A2 n2 c2 D m e)) (u : Value) : Bs (w.setCell ⟨g, i, none⟩ u) B A n c l :=
 h.grown (g := some g) (fun k hk2 _ => (Only.setCell w ⟨g, i, none⟩ u).block k (fun e => hk2 (by rw [e]))) (h.notrc hk)
end
structure Rd (W : World) (g s : Nat) (A : Option Addr) (n c : Nat) (l : List UInt8) : Prop where
 var : Blk W g 29 [.slice A n c]
 bs : Bs W s A n c l
 le : s ≤ g
section
variable {W W' : World} {g s n c : Nat} {A : Option Addr} {l : List UInt8}
theorem Rd.below (h : Rd W g s A n c l) (hb : Below W.heap.size W W') : Rd W' g s A n c l := ⟨h.var.below hb h.var.lt, h.bs.below' hb (Nat.le_trans h.le (Nat.le_of_lt h.var.lt)), h.le⟩
theorem Rd.below' {B : Nat} (h : Rd W g s A n c l) (hb : Below B W W') (hB : g < B) : Rd W' g s A n c l := ⟨h.var.below hb hB, h.bs.below' hb (Nat.le_trans h.le (Nat.le_of_lt hB)), h.le⟩
theorem Rd.setCell (h : Rd W g s A n c l) {p : Addr} (hp : g < p.block) (u : Value) : Rd (W.setCell p u) g s A n c l := ⟨h.var.other (by omega) u, h.bs.setCell (by have := h.le; omega) u, h.le⟩
end
theorem cutR_any (g s : Nat) (A : Option Addr) (n c : Nat) (l : List UInt8) (wide : Nat) (w : World) (h : Rd w g s A n c l) (hn : n ≤ 1000000) (hw : wide ≤ 4294967296) :
  Calls Tryz.prog 239 #[.int .i64 wide, .pointer (some ⟨g, 0, none⟩)] w fun e w' => ∃ F m fc A' n' c', e = .returned (.slice F m fc) ∧ BsN w.heap.size w' F m fc (l.take wide) ∧ m = min wide n ∧
   Rd w' g s A' n' c' (l.drop wide) ∧ n' = n - min wide n ∧ w.grownBy w' (some g) :=
 (cut1_any g s A n c l wide w h.var h.bs h.le (by omega) hw).mono fun _ _ ⟨F, fc, A', c', h1, h2, h3, h4, h5⟩ => ⟨F, _, fc, A', _, c', h1, h2, rfl, ⟨h3, h4, h.le⟩, rfl, h5⟩
theorem cutsL_succ (b : List UInt8) (k : Nat) : cutsL b (k + 1) = cutsL b k ++ [(b.drop (k * 32)).take 32] := by
 unfold cutsL; rw [List.range_succ, List.map_append]; rfl
theorem cutsL_wide (b : List UInt8) (k : Nat) (h : k * 32 ≤ b.length) : ∀ d ∈ cutsL b k, d.length = 32 := by
 intro d hd
 obtain ⟨i, hi, rfl⟩ := List.mem_map.1 hd
 have := List.mem_range.1 hi
 simp; omega
end Go.Proofs.YtcehkafddlfleaaGreatDoor
