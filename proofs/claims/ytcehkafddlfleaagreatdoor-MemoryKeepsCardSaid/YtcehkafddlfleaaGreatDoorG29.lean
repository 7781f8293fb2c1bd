/- 
    -/
import Derived.Test.YtcehkafddlfleaaGreatDoorG02
import Derived.Test.YtcehkafddlfleaaGreatDoorG25
import Derived.Test.YtcehkafddlfleaaGreatDoorG27
import Derived.Test.YtcehkafddlfleaaGreatDoorG01
namespace Go.Proofs.YtcehkafddlfleaaGreatDoor
open Go.RowKit
theorem layW_same (t : Wd) (n : Nat) : (layW t n).n = t.n ∧ (layW t n).sl = t.sl ∧ (layW t n).s0 = t.s0 ∧ (layW t n).s1 = t.s1 ∧ (layW t n).lies = t.lies ∧ (layW t n).nl = t.nl ∧ (layW t n).tr = t.tr ∧ (layW t n).ctr = t.ctr ∧ (layW t n).reads = t.reads ∧ (t.left ≤ 1000000 → (layW t n).left ≤ 1000000) := by
 unfold layW
 split
 ·split
  ·refine ⟨rfl, rfl, rfl, rfl, rfl, rfl, rfl, rfl, rfl, fun h => ?_⟩
   simp only
   omega
  ·exact ⟨rfl, rfl, rfl, rfl, rfl, rfl, rfl, rfl, rfl, fun _ => by simp⟩
 ·exact ⟨rfl, rfl, rfl, rfl, rfl, rfl, rfl, rfl, rfl, fun h => h⟩
def sealNew (t : Wd) (l old : List UInt8) : List UInt8 :=
 if layK t l.length = l.length then (laid l (padL old (l.length : Int)) (layK t l.length)).take (layK t l.length) else (laid l (padL old (l.length : Int)) (layK t l.length)).take (max (layK t l.length) old.length)
def sealedW (t : Wd) (i : Int) (l : List UInt8) : Wd :=
 if sealW t i = true then
  (if i = 0 then { layW { t with tr := t.tr ++ [⟨4, i, 0, l⟩] } l.length with s0 := sealNew t l t.s0 } else { layW { t with tr := t.tr ++ [⟨4, i, 0, l⟩] } l.length with s1 := sealNew t l t.s1 })
 else t
def sealB (t : Wd) (i : Int) (l : List UInt8) : Bool := sealW t i && decide (layK t l.length = l.length)
theorem yields_cut_h0 {P : Program} {ops : Array Oper} {op : Oper} {a : Act} {t e : TypeId} {z : Value} {bytes : Nat} (hw : Region.wanted op (yielded ops a.tmps) = true) (E : El P t e z bytes) (x hi : Operand) (ho : op.op = .slice t x none (some hi) none)
  {g n c : Nat} (hx : a.eval x = .slice (some ⟨g, 0, none⟩) n c) {k2 : IntKind} {J : Int} (hhi : a.eval hi = .int k2 J) (k : Nat) (hJ : J = k) (hk : k ≤ c) : Yields P ops op (.slice (some ⟨g, 0, none⟩) k c) a := by
 subst hJ
 refine .inl ⟨hw, fun w => ?_⟩
 have hrun := run_slice_h (P := P) (w := w) t (some ⟨g, 0, none⟩) n c E.ty' k2 (k : Int) (by omega) (by omega)
 rw [E.sizeOf] at hrun
 unfold execOp
 simp [ho, hx, hhi, run_sliceAt_slice (P := P) (w := w) t _ _ _ _ E.ty', hrun, Result.andThen, sliced, Addr.add]
section
variable {O M : Nat → Prop} {b : Nat} {ad : Ad} {t : Wd} {p : Int × Int → Option Nat} {L : List Hd4} {w w3 w' : World}
theorem sealed_parts0 (h : Parts w O M b ad t p L) (hb3 : Below w.heap.size w w3) (h2 : Two6 b w.heap.size w3 w') {n N K : Nat} {cs : List UInt8} (hb : Blk w' b 108 (wdCells ad (layW t n))) (hk : Blk w' w.heap.size 5 (cells8 cs)) (hN : cs.length = N) (hK : K ≤ N) (hN2 : N ≤ 4294967296) :
  Parts (w'.setCell ⟨b, 1, none⟩ (.slice (some ⟨w.heap.size, 0, none⟩) K N)) O M b { ad with v0 := .slice (some ⟨w.heap.size, 0, none⟩) K N } { layW t n with s0 := cs.take K } p L ∧ Nx w O (w'.setCell ⟨b, 1, none⟩ (.slice (some ⟨w.heap.size, 0, none⟩) K N)) O := by
 have hlt := fun k hk => h.lt k (h.sub k hk)
 have hbl := h.blk.lt
 have ho := Only.setCell w' ⟨b, 1, none⟩ (.slice (some ⟨w.heap.size, 0, none⟩) K N)
 have keep : ∀ k, k < w.heap.size → k ≠ b → (w'.setCell ⟨b, 1, none⟩ (.slice (some ⟨w.heap.size, 0, none⟩) K N)).heap[k]? = w.heap[k]? := fun k hk hkb =>
  (ho.block k hkb).trans ((h2.block k hkb (by omega)).trans (hb3.block k hk))
 have C : Chg O w (w'.setCell ⟨b, 1, none⟩ (.slice (some ⟨w.heap.size, 0, none⟩) K N)) :=
  ⟨ho.os.trans (h2.os.trans hb3.os), ho.tape.trans (h2.tape.trans hb3.tape), ho.output.trans (h2.output.trans hb3.output), by rw [ho.size, h2.size]; exact hb3.size, fun k hk hn => keep k hk (fun e => hn (e ▸ h.ob))⟩
 obtain ⟨q1, q2, q3, q4, q5, q6, q7, q8, q9, q10⟩ := layW_same t n
 have hg : ¬ M w.heap.size := fun hm => by have := h.lt _ hm; omega
 have hnew : BsV (w'.setCell ⟨b, 1, none⟩ (.slice (some ⟨w.heap.size, 0, none⟩) K N)) M (.slice (some ⟨w.heap.size, 0, none⟩) K N) (cs.take K) := by
  have hk2 := hk.other (p := ⟨b, 1, none⟩) (by simp; omega) (.slice (some ⟨w.heap.size, 0, none⟩) K N)
  refine ⟨_, _, _, rfl, hk2.bytes (o := 0) hk2.lt ?_ (by simp; omega) N hK (by simp only [maxLen]; omega), fun ad hA _ hm => ?_, by omega⟩
  ·rw [List.drop_zero]; simp [cells8]
  ·obtain rfl := Option.some.inj hA
   exact hg hm
 refine ⟨⟨h.sub, fun k hk => Nat.lt_of_lt_of_le (h.lt k hk) C.size, h.ob, hb.set 1 _, ?_, ?_, ?_, ?_, ?_, by show (layW t n).n ≤ _; rw [q1]; exact h.big, q10 h.pow, by show (layW t n).ctr < _; rw [q8]; exact h.num, by show (layW t n).reads ≤ _; rw [q9]; exact h.read, h.two⟩, Nx.same C hlt⟩
 ·show Sl _ O ad.ms (layW t n).n (layW t n).sl p
  rw [q1, q2]
  refine h.slots.stay (fun _ h => h) (fun k hk hkk => keep k (hlt k hk) ?_)
  rcases hkk with h1 | h1
  ·exact h1.ne h.blk.row
  ·exact h1.ne h.blk.row (by decide)
 ·show Li _ O M ad.ml (layW t n).lies (layW t n).nl
  rw [q5, q6]
  exact h.lies.stay (fun _ h => h) (fun k hk hkk => keep k (hlt k hk) (hkk.ne h.blk.row)) C h.sub (fun _ h => .inl h)
 ·exact hnew
 ·show BsV _ M ad.v1 (layW t n).s1
  rw [q4]
  exact h.seal1.chg C h.sub (fun _ h => .inl h)
 ·show Tc _ O M ad.vt (layW t n).tr L
  rw [q7]
  exact h.trace.stay (fun _ h => h) (fun k hk hkk => keep k (hlt k hk) (hkk.ne h.blk.row (by decide))) C h.sub (fun _ h => .inl h)
theorem sealed_parts1 (h : Parts w O M b ad t p L) (hb3 : Below w.heap.size w w3) (h2 : Two6 b w.heap.size w3 w') {n N K : Nat} {cs : List UInt8} (hb : Blk w' b 108 (wdCells ad (layW t n))) (hk : Blk w' w.heap.size 5 (cells8 cs)) (hN : cs.length = N) (hK : K ≤ N) (hN2 : N ≤ 4294967296) :
  Parts (w'.setCell ⟨b, 2, none⟩ (.slice (some ⟨w.heap.size, 0, none⟩) K N)) O M b { ad with v1 := .slice (some ⟨w.heap.size, 0, none⟩) K N } { layW t n with s1 := cs.take K } p L ∧ Nx w O (w'.setCell ⟨b, 2, none⟩ (.slice (some ⟨w.heap.size, 0, none⟩) K N)) O := by
 have hlt := fun k hk => h.lt k (h.sub k hk)
 have hbl := h.blk.lt
 have ho := Only.setCell w' ⟨b, 2, none⟩ (.slice (some ⟨w.heap.size, 0, none⟩) K N)
 have keep : ∀ k, k < w.heap.size → k ≠ b → (w'.setCell ⟨b, 2, none⟩ (.slice (some ⟨w.heap.size, 0, none⟩) K N)).heap[k]? = w.heap[k]? := fun k hk hkb =>
  (ho.block k hkb).trans ((h2.block k hkb (by omega)).trans (hb3.block k hk))
 have C : Chg O w (w'.setCell ⟨b, 2, none⟩ (.slice (some ⟨w.heap.size, 0, none⟩) K N)) :=
  ⟨ho.os.trans (h2.os.trans hb3.os), ho.tape.trans (h2.tape.trans hb3.tape), ho.output.trans (h2.output.trans hb3.output), by rw [ho.size, h2.size]; exact hb3.size, fun k hk hn => keep k hk (fun e => hn (e ▸ h.ob))⟩
 obtain ⟨q1, q2, q3, q4, q5, q6, q7, q8, q9, q10⟩ := layW_same t n
 have hg : ¬ M w.heap.size := fun hm => by have := h.lt _ hm; omega
 have hnew : BsV (w'.setCell ⟨b, 2, none⟩ (.slice (some ⟨w.heap.size, 0, none⟩) K N)) M (.slice (some ⟨w.heap.size, 0, none⟩) K N) (cs.take K) := by
  have hk2 := hk.other (p := ⟨b, 2, none⟩) (by simp; omega) (.slice (some ⟨w.heap.size, 0, none⟩) K N)
  refine ⟨_, _, _, rfl, hk2.bytes (o := 0) hk2.lt ?_ (by simp; omega) N hK (by simp only [maxLen]; omega), fun ad hA _ hm => ?_, by omega⟩
  ·rw [List.drop_zero]; simp [cells8]
  ·obtain rfl := Option.some.inj hA
   exact hg hm
 refine ⟨⟨h.sub, fun k hk => Nat.lt_of_lt_of_le (h.lt k hk) C.size, h.ob, hb.set 2 _, ?_, ?_, ?_, ?_, ?_, by show (layW t n).n ≤ _; rw [q1]; exact h.big, q10 h.pow, by show (layW t n).ctr < _; rw [q8]; exact h.num, by show (layW t n).reads ≤ _; rw [q9]; exact h.read, h.two⟩, Nx.same C hlt⟩
 ·show Sl _ O ad.ms (layW t n).n (layW t n).sl p
  rw [q1, q2]
  refine h.slots.stay (fun _ h => h) (fun k hk hkk => keep k (hlt k hk) ?_)
  rcases hkk with h1 | h1
  ·exact h1.ne h.blk.row
  ·exact h1.ne h.blk.row (by decide)
 ·show Li _ O M ad.ml (layW t n).lies (layW t n).nl
  rw [q5, q6]
  exact h.lies.stay (fun _ h => h) (fun k hk hkk => keep k (hlt k hk) (hkk.ne h.blk.row)) C h.sub (fun _ h => .inl h)
 ·show BsV _ M ad.v0 (layW t n).s0
  rw [q3]
  exact h.seal0.chg C h.sub (fun _ h => .inl h)
 ·exact hnew
 ·show Tc _ O M ad.vt (layW t n).tr L
  rw [q7]
  exact h.trace.stay (fun _ h => h) (fun k hk hkk => keep k (hlt k hk) (hkk.ne h.blk.row (by decide))) C h.sub (fun _ h => .inl h)
set_option maxRecDepth 100000 in
set_option maxHeartbeats 2000000 in
theorem seal0_any (h : Parts w O M b ad t p L) (hth : sealW t 0 = true) (A : Option Addr) (n c : Nat) (l : List UInt8) (ha : BsM w M A n c l) (hlen : t.tr.length ≤ 1000000) :
  Calls Tryz.prog 146 #[.pointer (some ⟨b, 0, none⟩), .int .i64 0, .slice A n c] w fun e w' => e = .returned (.bool (sealB t 0 l)) ∧ ∃ ad' L' O', Parts w' O' (Or2 M O') b ad' (sealedW t 0 l) p L' ∧ Nx w O w' O' := by
 have HP : Kp _ := ⟨h⟩
 have HA : Kp _ := ⟨ha⟩
 have hn := ha.fit
 have HLn : Kp (l.length = n) := ⟨ha.bs.len⟩
 have hs : (!t.lost && (decide (0 ≤ (0 : Int)) && decide ((0 : Int) < 2))) = true := hth
 have HT : Kp (sealedW t 0 l = { layW { t with tr := t.tr ++ [⟨4, 0, 0, l⟩] } n with s0 := sealNew t l t.s0 } ∧ sealB t 0 l = decide (layK t n = n)) := ⟨by unfold sealedW sealB; rw [if_pos hth, hth, ha.bs.len]; exact ⟨rfl, rfl⟩⟩
 clear h ha hth
 go_enter Tryz.func146, Tryz.ntmps146
 go_wp2_with fail
 refine (hasSeal_any b ad t w HP.out.blk 0).mono ?_
 rintro e w1 ⟨rfl, rfl⟩
 rw [hs]
 go_wp2_with fail
 refine (note_any HP.out ⟨4, 0, 0, l⟩ ⟨.inr (.inr (.inr (.inl ⟨rfl, rfl⟩))), rfl, rfl⟩ A n c HA.out.bs hn hlen).mono ?_
 rintro e w2 ⟨rfl, ad2, L2, O2, P2, N2⟩
 have HP2 : Kp _ := ⟨P2⟩
 have HA2 : Kp _ := ⟨HA.out.nx HP.out.sub N2⟩
 have HN2 : Kp _ := ⟨N2⟩
 obtain ⟨A0, n0, c0, hv0, hb0⟩ := P2.seal0
 have d1 : w2.cell? ⟨b, 1, none⟩ = some (.slice A0 n0 c0) := by rw [P2.blk.cell? 1, ← hv0]; rfl
 have HB0 : Kp _ := ⟨hb0⟩
 have hn0 := hb0.fit
 clear P2 N2 hv0 hb0
 go_wp2_with fail
 refine (pad6_any A0 n0 c0 (n : Int) t.s0 w2 HB0.out.bs hn0 (by omega)).mono ?_
 obtain ⟨N, hN⟩ : ∃ N, N = (padL t.s0 (n : Int)).length := ⟨_, rfl⟩
 have hN2 : N = max n0 n := by rw [hN, padL_length, HB0.out.bs.len]; simp
 rw [← hN]
 rintro e w3 ⟨rfl, hk3, hb3⟩
 have P3 := HP2.out.below hb3
 have hbl : b < w2.heap.size := HP2.out.blk.lt
 have HTs : Kp (BsT w3 b w2.heap.size A n c l) := ⟨⟨(HA2.out.below hb3).bs, fun ad' hA h0 => by
  obtain ⟨b9, o9, hA9, hb9, _⟩ := HA2.out.bs.cells h0
  have h9 := HA2.out.apart _ hA9 h0
  rw [hA9] at hA
  obtain rfl := Option.some.inj hA
  exact ⟨fun e => h9 (by show Or2 M O2 b9; rw [show b9 = b from e]; exact HP2.out.sub b HP2.out.ob), by simp; omega⟩⟩⟩
 have HK3 : Kp _ := ⟨hk3⟩
 have HB3 : Kp _ := ⟨hb3⟩
 have HBk : Kp _ := ⟨P3.blk⟩
 have HPow : Kp _ := ⟨P3.pow⟩
 have HN : Kp ((padL t.s0 (n : Int)).length = N ∧ N = max n0 n) := ⟨hN.symm, hN2⟩
 have hnN : n ≤ N := by omega
 have hn0N : n0 ≤ N := by omega
 have hNb : N ≤ 4294967296 := by omega
 clear P3 hb3 hk3 hN hN2
 go_wp2_with fail
 refine (lay_any b w2.heap.size (by omega) ad2 { t with tr := t.tr ++ [⟨4, 0, 0, l⟩] } 5 A n c N N l (padL t.s0 (n : Int)) w3 HBk.out HPow.out HK3.out HN.out.1 HTs.out hnN hNb).mono ?_
 rintro e w4 ⟨rfl, hb4, hk4, h24⟩
 obtain ⟨k, hk⟩ : ∃ k, k = layK t n := ⟨_, rfl⟩
 have hkn : k ≤ n := by rw [hk]; exact layK_le _ _
 have hlk : layK { t with tr := t.tr ++ [⟨4, 0, 0, l⟩] } n = k := hk.symm
 rw [hlk] at hk4 ⊢
 have d4 : ∃ v, w4.cell? ⟨b, 1, none⟩ = some v := ⟨_, by rw [hb4.cell? 1]; rfl⟩
 obtain ⟨v4, d4⟩ := d4
 have f4 := hb4.frozen 1
 have HS : Kp (∀ K, K ≤ N → Parts (w4.drew.setCell ⟨b, 1, none⟩ (.slice (some ⟨w2.heap.size, 0, none⟩) K N)) O2 (Or2 M O2) b { ad2 with v0 := .slice (some ⟨w2.heap.size, 0, none⟩) K N } { layW { t with tr := t.tr ++ [⟨4, 0, 0, l⟩] } n with s0 := (laid l (padL t.s0 (n : Int)) k).take K } p L2 ∧ Nx w2 O2 (w4.drew.setCell ⟨b, 1, none⟩ (.slice (some ⟨w2.heap.size, 0, none⟩) K N)) O2) :=
  ⟨fun K hK => sealed_parts0 HP2.out HB3.out (w' := w4.drew) ⟨h24.os, h24.tape, h24.output, h24.size, h24.block⟩ hb4.drew hk4.drew (by rw [laid_length _ _ _ (by rw [HLn.out]; exact hkn) (by rw [HN.out.1]; omega)]; exact HN.out.1) hK hNb⟩
 have HK : Kp _ := ⟨hk⟩
 have hkN : k ≤ N := by omega
 have HSn : Kp (sealNew t l t.s0 = if k = n then (laid l (padL t.s0 (n : Int)) k).take k else (laid l (padL t.s0 (n : Int)) k).take (max k n0)) := ⟨by unfold sealNew; rw [HLn.out, ← hk, HB0.out.bs.len]⟩
 clear hk hlk hb4 hk4 h24 d1 HK3 HTs HBk
 by_cases hfull : k = n
 ·have hq : ((k : Int) == (n : Int)) = true := by rw [beq_iff_eq]; omega
  have HF : Kp _ := ⟨hfull⟩
  clear hfull
  go_wp2_with fail
  refine wp_region_any (by kernel_rfl) ?_
  change wpAny _ _ _ _ _ _ _ w4.drew
  have d5 : w4.drew.cell? ⟨b, 1, none⟩ = some v4 := d4
  have f5 : w4.drew.frozen? ⟨b, 1, none⟩ = false := f4
  clear d4 f4
  generalize w4.drew = wS at *
  refine wT 0 44 ?_ rfl ?_
  try simp only [Act.put, sA, sB, sC]
  refine wT 1 45 ?_ rfl ?_
  try simp only [Act.put, sA, sB, sC]
  refine wT 2 46 ?_ rfl ?_
  try simp only [Act.put, sA, sB, sC]
  refine wT 3 47 ?_ rfl ?_
  try simp only [Act.put, sA, sB, sC]
  refine wpAny_take (i := 4) (oi := ⟨some 48, _, _, _, _, _⟩) (v := _) rfl (by kernel_rfl) (by kernel_rfl) (by kernel_rfl) (fun _ _ _ h => h) (yields_cut_h0 (by rfl) el8 (.tmp 46) (.tmp 47) rfl rfl rfl k rfl (by omega)) ?_
  try simp only [Act.put, sA, sB, sC]
  refine wT 5 49 ?_ rfl ?_
  try simp only [Act.put, sA, sB, sC]
  refine wT 6 50 ?_ rfl ?_
  try simp only [Act.put, sA, sB, sC]
  refine wT 7 51 ?_ rfl ?_
  try simp only [Act.put, sA, sB, sC]
  refine rK [8] ?_
  refine AllReady.cons (o := ⟨none, _, _, _, _, _⟩) rfl (fun K hK => ?_) AllReady.nil
  have HR : Kp _ := ⟨HS.out k (by omega)⟩
  go_simp
  refine hK _ _ ?_
  clear hK K
  try simp only [Act.put]
  refine wpAny_done (by kernel_rfl) ?_ _
  go_wp2
  go_ret
  rw [HT.out.1, HT.out.2, HSn.out, if_pos HF.out]
  refine ⟨?_, _, _, O2, HR.out.1, HN2.out.trans HR.out.2⟩
  rw [← HK.out, decide_eq_true HF.out]; rfl
 ·have hq : ((k : Int) == (n : Int)) = false := by rw [beq_eq_false_iff_ne]; omega
  have HF : Kp _ := ⟨hfull⟩
  clear hfull
  rcases (by omega : (n0 : Int) ≤ (k : Int) ∨ (k : Int) < (n0 : Int)) with hmx | hmx
  ·have hmx2 : ¬ (k < n0) := by omega
   have hmx3 : ¬ ((k : Int) < (n0 : Int)) := by omega
   go_wp2_with fail
   refine wp_region_any (by kernel_rfl) ?_
   change wpAny _ _ _ _ _ _ _ w4.drew
   have d5 : w4.drew.cell? ⟨b, 1, none⟩ = some v4 := d4
   have f5 : w4.drew.frozen? ⟨b, 1, none⟩ = false := f4
   clear d4 f4
   generalize w4.drew = wS at *
   refine wT 0 52 ?_ rfl ?_
   try simp only [Act.put, sA, sB, sC]
   refine wT 1 53 ?_ rfl ?_
   try simp only [Act.put, sA, sB, sC]
   refine wT 2 54 ?_ rfl ?_
   try simp only [Act.put, sA, sB, sC]
   refine wT 3 55 ?_ rfl ?_
   try simp only [Act.put, sA, sB, sC]
   refine wT 4 56 ?_ rfl ?_
   try simp only [Act.put, sA, sB, sC]
   refine wT 5 57 ?_ rfl ?_
   try simp only [Act.put, sA, sB, sC]
   refine wpAny_take (i := 6) (oi := ⟨some 58, _, _, _, _, _⟩) (v := _) rfl (by kernel_rfl) (by kernel_rfl) (by kernel_rfl) (fun _ _ _ h => h) (yields_cut_h0 (by rfl) el8 (.tmp 54) (.tmp 57) rfl rfl rfl k rfl (by omega)) ?_
   try simp only [Act.put, sA, sB, sC]
   refine wT 7 59 ?_ rfl ?_
   try simp only [Act.put, sA, sB, sC]
   refine wT 8 60 ?_ rfl ?_
   try simp only [Act.put, sA, sB, sC]
   refine wT 9 61 ?_ rfl ?_
   try simp only [Act.put, sA, sB, sC]
   refine rK [10] ?_
   refine AllReady.cons (o := ⟨none, _, _, _, _, _⟩) rfl (fun K hK => ?_) AllReady.nil
   have HR : Kp _ := ⟨HS.out k (by omega)⟩
   go_simp
   refine hK _ _ ?_
   clear hK K
   try simp only [Act.put]
   refine wpAny_done (by kernel_rfl) ?_ _
   go_wp2
   go_ret
   rw [HT.out.1, HT.out.2, HSn.out, if_neg HF.out, Nat.max_eq_left (by omega)]
   refine ⟨?_, _, _, O2, HR.out.1, HN2.out.trans HR.out.2⟩
   rw [← HK.out, decide_eq_false HF.out]; rfl
  ·go_wp2_with fail
   refine wp_region_any (by kernel_rfl) ?_
   change wpAny _ _ _ _ _ _ _ w4.drew
   have d5 : w4.drew.cell? ⟨b, 1, none⟩ = some v4 := d4
   have f5 : w4.drew.frozen? ⟨b, 1, none⟩ = false := f4
   clear d4 f4
   generalize w4.drew = wS at *
   refine wT 0 52 ?_ rfl ?_
   try simp only [Act.put, sA, sB, sC]
   refine wT 1 53 ?_ rfl ?_
   try simp only [Act.put, sA, sB, sC]
   refine wT 2 54 ?_ rfl ?_
   try simp only [Act.put, sA, sB, sC]
   refine wT 3 55 ?_ rfl ?_
   try simp only [Act.put, sA, sB, sC]
   refine wT 4 56 ?_ rfl ?_
   try simp only [Act.put, sA, sB, sC]
   refine wT 5 57 ?_ rfl ?_
   try simp only [Act.put, sA, sB, sC]
   refine wpAny_take (i := 6) (oi := ⟨some 58, _, _, _, _, _⟩) (v := _) rfl (by kernel_rfl) (by kernel_rfl) (by kernel_rfl) (fun _ _ _ h => h) (yields_cut_h0 (by rfl) el8 (.tmp 54) (.tmp 57) rfl rfl rfl n0 rfl (by omega)) ?_
   try simp only [Act.put, sA, sB, sC]
   refine wT 7 59 ?_ rfl ?_
   try simp only [Act.put, sA, sB, sC]
   refine wT 8 60 ?_ rfl ?_
   try simp only [Act.put, sA, sB, sC]
   refine wT 9 61 ?_ rfl ?_
   try simp only [Act.put, sA, sB, sC]
   refine rK [10] ?_
   refine AllReady.cons (o := ⟨none, _, _, _, _, _⟩) rfl (fun K hK => ?_) AllReady.nil
   have HR : Kp _ := ⟨HS.out n0 (by omega)⟩
   go_simp
   refine hK _ _ ?_
   clear hK K
   try simp only [Act.put]
   refine wpAny_done (by kernel_rfl) ?_ _
   go_wp2
   go_ret
   rw [HT.out.1, HT.out.2, HSn.out, if_neg HF.out, Nat.max_eq_right (by omega)]
   refine ⟨?_, _, _, O2, HR.out.1, HN2.out.trans HR.out.2⟩
   rw [← HK.out, decide_eq_false HF.out]; rfl
set_option maxRecDepth 100000 in
set_option maxHeartbeats 2000000 in
theorem seal1_any (h : Parts w O M b ad t p L) (hth : sealW t 1 = true) (A : Option Addr) (n c : Nat) (l : List UInt8) (ha : BsM w M A n c l) (hlen : t.tr.length ≤ 1000000) :
  Calls Tryz.prog 146 #[.pointer (some ⟨b, 0, none⟩), .int .i64 1, .slice A n c] w fun e w' => e = .returned (.bool (sealB t 1 l)) ∧ ∃ ad' L' O', Parts w' O' (Or2 M O') b ad' (sealedW t 1 l) p L' ∧ Nx w O w' O' := by
 have HP : Kp _ := ⟨h⟩
 have HA : Kp _ := ⟨ha⟩
 have hn := ha.fit
 have HLn : Kp (l.length = n) := ⟨ha.bs.len⟩
 have hs : (!t.lost && (decide (0 ≤ (1 : Int)) && decide ((1 : Int) < 2))) = true := hth
 have HT : Kp (sealedW t 1 l = { layW { t with tr := t.tr ++ [⟨4, 1, 0, l⟩] } n with s1 := sealNew t l t.s1 } ∧ sealB t 1 l = decide (layK t n = n)) := ⟨by unfold sealedW sealB; rw [if_pos hth, hth, ha.bs.len]; exact ⟨rfl, rfl⟩⟩
 clear h ha hth
 go_enter Tryz.func146, Tryz.ntmps146
 go_wp2_with fail
 refine (hasSeal_any b ad t w HP.out.blk 1).mono ?_
 rintro e w1 ⟨rfl, rfl⟩
 rw [hs]
 go_wp2_with fail
 refine (note_any HP.out ⟨4, 1, 0, l⟩ ⟨.inr (.inr (.inr (.inl ⟨rfl, rfl⟩))), rfl, rfl⟩ A n c HA.out.bs hn hlen).mono ?_
 rintro e w2 ⟨rfl, ad2, L2, O2, P2, N2⟩
 have HP2 : Kp _ := ⟨P2⟩
 have HA2 : Kp _ := ⟨HA.out.nx HP.out.sub N2⟩
 have HN2 : Kp _ := ⟨N2⟩
 obtain ⟨A0, n0, c0, hv0, hb0⟩ := P2.seal1
 have d1 : w2.cell? ⟨b, 2, none⟩ = some (.slice A0 n0 c0) := by rw [P2.blk.cell? 2, ← hv0]; rfl
 have HB0 : Kp _ := ⟨hb0⟩
 have hn0 := hb0.fit
 clear P2 N2 hv0 hb0
 go_wp2_with fail
 refine (pad6_any A0 n0 c0 (n : Int) t.s1 w2 HB0.out.bs hn0 (by omega)).mono ?_
 obtain ⟨N, hN⟩ : ∃ N, N = (padL t.s1 (n : Int)).length := ⟨_, rfl⟩
 have hN2 : N = max n0 n := by rw [hN, padL_length, HB0.out.bs.len]; simp
 rw [← hN]
 rintro e w3 ⟨rfl, hk3, hb3⟩
 have P3 := HP2.out.below hb3
 have hbl : b < w2.heap.size := HP2.out.blk.lt
 have HTs : Kp (BsT w3 b w2.heap.size A n c l) := ⟨⟨(HA2.out.below hb3).bs, fun ad' hA h0 => by
  obtain ⟨b9, o9, hA9, hb9, _⟩ := HA2.out.bs.cells h0
  have h9 := HA2.out.apart _ hA9 h0
  rw [hA9] at hA
  obtain rfl := Option.some.inj hA
  exact ⟨fun e => h9 (by show Or2 M O2 b9; rw [show b9 = b from e]; exact HP2.out.sub b HP2.out.ob), by simp; omega⟩⟩⟩
 have HK3 : Kp _ := ⟨hk3⟩
 have HB3 : Kp _ := ⟨hb3⟩
 have HBk : Kp _ := ⟨P3.blk⟩
 have HPow : Kp _ := ⟨P3.pow⟩
 have HN : Kp ((padL t.s1 (n : Int)).length = N ∧ N = max n0 n) := ⟨hN.symm, hN2⟩
 have hnN : n ≤ N := by omega
 have hn0N : n0 ≤ N := by omega
 have hNb : N ≤ 4294967296 := by omega
 clear P3 hb3 hk3 hN hN2
 go_wp2_with fail
 refine (lay_any b w2.heap.size (by omega) ad2 { t with tr := t.tr ++ [⟨4, 1, 0, l⟩] } 5 A n c N N l (padL t.s1 (n : Int)) w3 HBk.out HPow.out HK3.out HN.out.1 HTs.out hnN hNb).mono ?_
 rintro e w4 ⟨rfl, hb4, hk4, h24⟩
 obtain ⟨k, hk⟩ : ∃ k, k = layK t n := ⟨_, rfl⟩
 have hkn : k ≤ n := by rw [hk]; exact layK_le _ _
 have hlk : layK { t with tr := t.tr ++ [⟨4, 1, 0, l⟩] } n = k := hk.symm
 rw [hlk] at hk4 ⊢
 have d4 : ∃ v, w4.cell? ⟨b, 2, none⟩ = some v := ⟨_, by rw [hb4.cell? 2]; rfl⟩
 obtain ⟨v4, d4⟩ := d4
 have f4 := hb4.frozen 2
 have HS : Kp (∀ K, K ≤ N → Parts (w4.drew.setCell ⟨b, 2, none⟩ (.slice (some ⟨w2.heap.size, 0, none⟩) K N)) O2 (Or2 M O2) b { ad2 with v1 := .slice (some ⟨w2.heap.size, 0, none⟩) K N } { layW { t with tr := t.tr ++ [⟨4, 1, 0, l⟩] } n with s1 := (laid l (padL t.s1 (n : Int)) k).take K } p L2 ∧ Nx w2 O2 (w4.drew.setCell ⟨b, 2, none⟩ (.slice (some ⟨w2.heap.size, 0, none⟩) K N)) O2) :=
  ⟨fun K hK => sealed_parts1 HP2.out HB3.out (w' := w4.drew) ⟨h24.os, h24.tape, h24.output, h24.size, h24.block⟩ hb4.drew hk4.drew (by rw [laid_length _ _ _ (by rw [HLn.out]; exact hkn) (by rw [HN.out.1]; omega)]; exact HN.out.1) hK hNb⟩
 have HK : Kp _ := ⟨hk⟩
 have hkN : k ≤ N := by omega
 have HSn : Kp (sealNew t l t.s1 = if k = n then (laid l (padL t.s1 (n : Int)) k).take k else (laid l (padL t.s1 (n : Int)) k).take (max k n0)) := ⟨by unfold sealNew; rw [HLn.out, ← hk, HB0.out.bs.len]⟩
 clear hk hlk hb4 hk4 h24 d1 HK3 HTs HBk
 by_cases hfull : k = n
 ·have hq : ((k : Int) == (n : Int)) = true := by rw [beq_iff_eq]; omega
  have HF : Kp _ := ⟨hfull⟩
  clear hfull
  go_wp2_with fail
  refine wp_region_any (by kernel_rfl) ?_
  change wpAny _ _ _ _ _ _ _ w4.drew
  have d5 : w4.drew.cell? ⟨b, 2, none⟩ = some v4 := d4
  have f5 : w4.drew.frozen? ⟨b, 2, none⟩ = false := f4
  clear d4 f4
  generalize w4.drew = wS at *
  refine wT 0 44 ?_ rfl ?_
  try simp only [Act.put, sA, sB, sC]
  refine wT 1 45 ?_ rfl ?_
  try simp only [Act.put, sA, sB, sC]
  refine wT 2 46 ?_ rfl ?_
  try simp only [Act.put, sA, sB, sC]
  refine wT 3 47 ?_ rfl ?_
  try simp only [Act.put, sA, sB, sC]
  refine wpAny_take (i := 4) (oi := ⟨some 48, _, _, _, _, _⟩) (v := _) rfl (by kernel_rfl) (by kernel_rfl) (by kernel_rfl) (fun _ _ _ h => h) (yields_cut_h0 (by rfl) el8 (.tmp 46) (.tmp 47) rfl rfl rfl k rfl (by omega)) ?_
  try simp only [Act.put, sA, sB, sC]
  refine wT 5 49 ?_ rfl ?_
  try simp only [Act.put, sA, sB, sC]
  refine wT 6 50 ?_ rfl ?_
  try simp only [Act.put, sA, sB, sC]
  refine wT 7 51 ?_ rfl ?_
  try simp only [Act.put, sA, sB, sC]
  refine rK [8] ?_
  refine AllReady.cons (o := ⟨none, _, _, _, _, _⟩) rfl (fun K hK => ?_) AllReady.nil
  have HR : Kp _ := ⟨HS.out k (by omega)⟩
  go_simp
  refine hK _ _ ?_
  clear hK K
  try simp only [Act.put]
  refine wpAny_done (by kernel_rfl) ?_ _
  go_wp2
  go_ret
  rw [HT.out.1, HT.out.2, HSn.out, if_pos HF.out]
  refine ⟨?_, _, _, O2, HR.out.1, HN2.out.trans HR.out.2⟩
  rw [← HK.out, decide_eq_true HF.out]; rfl
 ·have hq : ((k : Int) == (n : Int)) = false := by rw [beq_eq_false_iff_ne]; omega
  have HF : Kp _ := ⟨hfull⟩
  clear hfull
  rcases (by omega : (n0 : Int) ≤ (k : Int) ∨ (k : Int) < (n0 : Int)) with hmx | hmx
  ·have hmx2 : ¬ (k < n0) := by omega
   have hmx3 : ¬ ((k : Int) < (n0 : Int)) := by omega
   go_wp2_with fail
   refine wp_region_any (by kernel_rfl) ?_
   change wpAny _ _ _ _ _ _ _ w4.drew
   have d5 : w4.drew.cell? ⟨b, 2, none⟩ = some v4 := d4
   have f5 : w4.drew.frozen? ⟨b, 2, none⟩ = false := f4
   clear d4 f4
   generalize w4.drew = wS at *
   refine wT 0 52 ?_ rfl ?_
   try simp only [Act.put, sA, sB, sC]
   refine wT 1 53 ?_ rfl ?_
   try simp only [Act.put, sA, sB, sC]
   refine wT 2 54 ?_ rfl ?_
   try simp only [Act.put, sA, sB, sC]
   refine wT 3 55 ?_ rfl ?_
   try simp only [Act.put, sA, sB, sC]
   refine wT 4 56 ?_ rfl ?_
   try simp only [Act.put, sA, sB, sC]
   refine wT 5 57 ?_ rfl ?_
   try simp only [Act.put, sA, sB, sC]
   refine wpAny_take (i := 6) (oi := ⟨some 58, _, _, _, _, _⟩) (v := _) rfl (by kernel_rfl) (by kernel_rfl) (by kernel_rfl) (fun _ _ _ h => h) (yields_cut_h0 (by rfl) el8 (.tmp 54) (.tmp 57) rfl rfl rfl k rfl (by omega)) ?_
   try simp only [Act.put, sA, sB, sC]
   refine wT 7 59 ?_ rfl ?_
   try simp only [Act.put, sA, sB, sC]
   refine wT 8 60 ?_ rfl ?_
   try simp only [Act.put, sA, sB, sC]
   refine wT 9 61 ?_ rfl ?_
   try simp only [Act.put, sA, sB, sC]
   refine rK [10] ?_
   refine AllReady.cons (o := ⟨none, _, _, _, _, _⟩) rfl (fun K hK => ?_) AllReady.nil
   have HR : Kp _ := ⟨HS.out k (by omega)⟩
   go_simp
   refine hK _ _ ?_
   clear hK K
   try simp only [Act.put]
   refine wpAny_done (by kernel_rfl) ?_ _
   go_wp2
   go_ret
   rw [HT.out.1, HT.out.2, HSn.out, if_neg HF.out, Nat.max_eq_left (by omega)]
   refine ⟨?_, _, _, O2, HR.out.1, HN2.out.trans HR.out.2⟩
   rw [← HK.out, decide_eq_false HF.out]; rfl
  ·go_wp2_with fail
   refine wp_region_any (by kernel_rfl) ?_
   change wpAny _ _ _ _ _ _ _ w4.drew
   have d5 : w4.drew.cell? ⟨b, 2, none⟩ = some v4 := d4
   have f5 : w4.drew.frozen? ⟨b, 2, none⟩ = false := f4
   clear d4 f4
   generalize w4.drew = wS at *
   refine wT 0 52 ?_ rfl ?_
   try simp only [Act.put, sA, sB, sC]
   refine wT 1 53 ?_ rfl ?_
   try simp only [Act.put, sA, sB, sC]
   refine wT 2 54 ?_ rfl ?_
   try simp only [Act.put, sA, sB, sC]
   refine wT 3 55 ?_ rfl ?_
   try simp only [Act.put, sA, sB, sC]
   refine wT 4 56 ?_ rfl ?_
   try simp only [Act.put, sA, sB, sC]
   refine wT 5 57 ?_ rfl ?_
   try simp only [Act.put, sA, sB, sC]
   refine wpAny_take (i := 6) (oi := ⟨some 58, _, _, _, _, _⟩) (v := _) rfl (by kernel_rfl) (by kernel_rfl) (by kernel_rfl) (fun _ _ _ h => h) (yields_cut_h0 (by rfl) el8 (.tmp 54) (.tmp 57) rfl rfl rfl n0 rfl (by omega)) ?_
   try simp only [Act.put, sA, sB, sC]
   refine wT 7 59 ?_ rfl ?_
   try simp only [Act.put, sA, sB, sC]
   refine wT 8 60 ?_ rfl ?_
   try simp only [Act.put, sA, sB, sC]
   refine wT 9 61 ?_ rfl ?_
   try simp only [Act.put, sA, sB, sC]
   refine rK [10] ?_
   refine AllReady.cons (o := ⟨none, _, _, _, _, _⟩) rfl (fun K hK => ?_) AllReady.nil
   have HR : Kp _ := ⟨HS.out n0 (by omega)⟩
   go_simp
   refine hK _ _ ?_
   clear hK K
   try simp only [Act.put]
   refine wpAny_done (by kernel_rfl) ?_ _
   go_wp2
   go_ret
   rw [HT.out.1, HT.out.2, HSn.out, if_neg HF.out, Nat.max_eq_right (by omega)]
   refine ⟨?_, _, _, O2, HR.out.1, HN2.out.trans HR.out.2⟩
   rw [← HK.out, decide_eq_false HF.out]; rfl
set_option maxRecDepth 100000 in
set_option maxHeartbeats 1000000 in
theorem seal_any (h : Parts w O M b ad t p L) (i : Int) (A : Option Addr) (n c : Nat) (l : List UInt8) (ha : BsM w M A n c l) (hlen : t.tr.length ≤ 1000000) :
  Calls Tryz.prog 146 #[.pointer (some ⟨b, 0, none⟩), .int .i64 i, .slice A n c] w fun e w' => e = .returned (.bool (sealB t i l)) ∧ ∃ ad' L' O', Parts w' O' (Or2 M O') b ad' (sealedW t i l) p L' ∧ Nx w O w' O' := by
 by_cases hth : sealW t i = true
 ·have hth2 : (!t.lost && (decide (0 ≤ i) && decide (i < 2))) = true := hth
  have hi : i = 0 ∨ i = 1 := by
   simp only [Bool.and_eq_true, decide_eq_true_eq] at hth2
   omega
  clear hth2
  rcases hi with rfl | rfl
  ·exact seal0_any h hth A n c l ha hlen
  ·exact seal1_any h hth A n c l ha hlen
 ·have hs : (!t.lost && (decide (0 ≤ i) && decide (i < 2))) = false := by
   have h1 := hth
   unfold sealW at h1
   simpa using h1
  have HP : Kp _ := ⟨h⟩
  have HT : Kp (sealedW t i l = t ∧ sealB t i l = false) := ⟨by unfold sealedW sealB; rw [if_neg hth, show sealW t i = false by simpa using hth]; exact ⟨rfl, rfl⟩⟩
  clear h hth
  go_enter Tryz.func146, Tryz.ntmps146
  go_wp2_with fail
  refine (hasSeal_any b ad t w HP.out.blk i).mono ?_
  rintro e w1 ⟨rfl, rfl⟩
  rw [hs]
  go_wp2
  go_ret
  rw [HT.out.1, HT.out.2]
  exact ⟨rfl, ad, L, O, HP.out.stayO, HP.out.nx⟩
end
end Go.Proofs.YtcehkafddlfleaaGreatDoor

namespace Go.Proofs.YtcehkafddlfleaaGreatDoor
open Go.RowKit
abbrev Held := Option Addr × Nat × Nat × List UInt8
structure Sm (k : Nat) (t : Wd) : Prop where
 tr : t.tr.length ≤ k
 reads : t.reads ≤ k
 nl : t.nl ≤ k
def Each (w : World) (M : Nat → Prop) : List (Nat → Prop) → List (Nat × Wd) → Prop
 | [], [] => True
 | O :: Os, x :: xs => WIs w O M x.1 x.2 ∧ (∀ Q ∈ Os, ∀ k, O k → ¬ Q k) ∧ Each w M Os xs
 | _, _ => False
structure Snap (s : World × (Nat → Prop)) (w : World) (M : Nat → Prop) : Prop where
 chg : Chg s.2 s.1 w
 new : ∀ k, M k → s.2 k ∨ s.1.heap.size ≤ k
theorem Snap.next {s : World × (Nat → Prop)} {w w' : World} {M M' S : Nat → Prop} (h : Snap s w M) (hc : Chg S w w') (hS : ∀ k, S k → M k) (hM : ∀ k, M' k → M k ∨ w.heap.size ≤ k) : Snap s w' M' :=
 ⟨h.chg.trans hc (fun k hk hs => (h.new k (hS k hs)).elim id (fun h9 => absurd hk (by omega))), fun k hk => (hM k hk).elim (h.new k) (fun h9 => .inr (Nat.le_trans h.chg.size h9))⟩
structure StS (w0 w : World) (k : Nat) (ws : List (Nat × Wd)) (hs : List Held) (sn : List (World × (Nat → Prop))) : Prop where
 is : ∃ M Os, Each w M Os ws ∧ (∀ k, M k → k < w.heap.size) ∧ (∀ k, M k → w0.heap.size ≤ k) ∧ (∀ h ∈ hs, BsM w M h.1 h.2.1 h.2.2.1 h.2.2.2) ∧ ∀ s ∈ sn, Snap s w M
 below : Below w0.heap.size w0 w
 small : ∀ x ∈ ws, Sm k x.2
section
variable {w0 w w' : World} {k b : Nat} {t : Wd} {ws : List (Nat × Wd)} {hs : List Held} {M : Nat → Prop} {sn : List (World × (Nat → Prop))}
theorem Each.chg {S : Nat → Prop} {M' : Nat → Prop} (hc : Chg S w w') (hSM : ∀ k, S k → M k) (hM : ∀ k, M' k → M k ∨ w.heap.size ≤ k) (hMM : ∀ k, M k → M' k) (hlt : ∀ k, M' k → k < w'.heap.size) :
  ∀ {Os : List (Nat → Prop)} {ws : List (Nat × Wd)}, (∀ Q ∈ Os, ∀ k, S k → ¬ Q k) → Each w M Os ws → Each w' M' Os ws
 | [], [], _, _ => trivial
 | O :: Os, x :: xs, hd, h => by
  obtain ⟨⟨ad, p, L, hP⟩, h2, h3⟩ := h
  exact ⟨⟨ad, p, L, hP.chg hc (fun k hk => hd O (by simp) k hk) hSM hM hMM hlt⟩, h2, Each.chg hc hSM hM hMM hlt (fun Q hQ => hd Q (by simp [hQ])) h3⟩
 | [], _ :: _, _, h => h.elim
 | _ :: _, [], _, h => h.elim
theorem Each.lt : ∀ {Os : List (Nat → Prop)} {ws : List (Nat × Wd)}, Each w M Os ws → ∀ Q ∈ Os, ∀ k, Q k → k < w.heap.size
 | [], [], _, Q, hQ => by cases hQ
 | O :: Os, x :: xs, h, Q, hQ => by
  obtain ⟨⟨ad, p, L, hP⟩, h2, h3⟩ := h
  rcases List.mem_cons.1 hQ with rfl | hQ
  ·exact fun k hk => hP.lt k (hP.sub k hk)
  ·exact Each.lt h3 Q hQ
 | [], _ :: _, h, _, _ => h.elim
 | _ :: _, [], h, _, _ => h.elim
theorem StS.more (h : StS w0 w k ws hs sn) {k' : Nat} (hk : k ≤ k') : StS w0 w k' ws hs sn := ⟨h.is, h.below, fun x hx => ⟨Nat.le_trans (h.small x hx).tr hk, Nat.le_trans (h.small x hx).reads hk, Nat.le_trans (h.small x hx).nl hk⟩⟩
theorem StS.grow (h : StS w0 w k ws hs sn) (hb : Below w.heap.size w w') : StS w0 w' k ws hs sn := by
 obtain ⟨M, Os, h1, h2, h3, h4, h5⟩ := h.is
 have hlt : ∀ k, M k → k < w'.heap.size := fun k hk => Nat.lt_of_lt_of_le (h2 k hk) hb.size
 refine ⟨⟨M, Os, h1.chg (S := fun _ => False) (Chg.of_below _ hb) (fun _ h => h.elim) (fun _ h => .inl h) (fun _ h => h) hlt (fun _ _ _ h => h.elim), hlt, h3, (fun x hx => (h4 x hx).below hb), fun s hs => (h5 s hs).next (Chg.of_below (fun _ => False) hb) (fun _ h => h.elim) (fun _ h => .inl h)⟩, h.below.trans (hb.mono h.below.size), h.small⟩
theorem StS.drew (h : StS w0 w k ws hs sn) : StS w0 w.drew k ws hs sn := h.grow (Below.refl _ _).drew
theorem StS.forget (h : StS w0 w k ws hs sn) {hs' : List Held} (hsub : ∀ x ∈ hs', x ∈ hs) : StS w0 w k ws hs' sn := by
 obtain ⟨M, Os, h1, h2, h3, h4, h5⟩ := h.is
 exact ⟨⟨M, Os, h1, h2, h3, (fun x hx => h4 x (hsub x hx)), h5⟩, h.below, h.small⟩
theorem StS.use (h : StS w0 w k ((b, t) :: ws) hs sn) : ∃ O M ad p L, Parts w O M b ad t p L ∧ (∀ x ∈ hs, BsM w M x.1 x.2.1 x.2.2.1 x.2.2.2) ∧
  ∀ w' O' ad' t' p' L', Parts w' O' (Or2 M O') b ad' t' p' L' → Nx w O w' O' → Sm (k + 1) t' → StS w0 w' (k + 1) ((b, t') :: ws) hs sn ∧ ∀ A n c l, BsM w' (Or2 M O') A n c l → StS w0 w' (k + 1) ((b, t') :: ws) ((A, n, c, l) :: hs) sn := by
 obtain ⟨M, Os, h1, h2, h3, h4, h5⟩ := h.is
 match Os, h1 with
 | O :: Os, h1 =>
  obtain ⟨⟨ad, p, L, hP⟩, hd, hE⟩ := h1
  refine ⟨O, M, ad, p, L, hP, h4, fun w' O' ad' t' p' L' hP' hN hS => ?_⟩
  have hM := or2_new hP.sub hN
  have hlt := or2_lt hP.lt hN
  have hE' : Each w' (Or2 M O') Os ws := hE.chg hN.chg hP.sub hM (fun _ h => .inl h) hlt hd
  have h0 : ∀ k, Or2 M O' k → w0.heap.size ≤ k := fun k hk => (hM k hk).elim (h3 k) (fun h9 => Nat.le_trans h.below.size h9)
  have hB : Below w0.heap.size w0 w' := h.below.trans (hN.chg.below (fun k hk => h3 k (hP.sub k hk)) h.below.size)
  have hdis : ∀ Q ∈ Os, ∀ k, O' k → ¬ Q k := fun Q hQ k hk hq => by
   rcases hN.new k hk with h9 | h9
   ·exact hd Q hQ k h9 hq
   ·have := hE.lt Q hQ k hq
    omega
  have hsm : ∀ x ∈ (b, t') :: ws, Sm (k + 1) x.2 := fun x hx => by
   rcases List.mem_cons.1 hx with rfl | hx
   ·exact hS
   ·have := h.small x (by simp [hx])
    exact ⟨by have := this.tr; omega, by have := this.reads; omega, by have := this.nl; omega⟩
  have hsn : ∀ s ∈ sn, Snap s w' (Or2 M O') := fun s hs => (h5 s hs).next hN.chg hP.sub hM
  have hh : ∀ x ∈ hs, BsM w' (Or2 M O') x.1 x.2.1 x.2.2.1 x.2.2.2 := fun x hx => (h4 x hx).nx hP.sub hN
  refine ⟨⟨⟨Or2 M O', O' :: Os, ⟨⟨ad', p', L', hP'⟩, hdis, hE'⟩, hlt, h0, hh, hsn⟩, hB, hsm⟩, fun A n c l hb => ⟨⟨Or2 M O', O' :: Os, ⟨⟨ad', p', L', hP'⟩, hdis, hE'⟩, hlt, h0, fun x hx => ?_, hsn⟩, hB, hsm⟩⟩
  rcases List.mem_cons.1 hx with rfl | hx
  ·exact hb
  ·exact hh x hx
theorem StS.left (h : StS w0 w k ((b, t) :: ws) hs sn) : t.left ≤ 1000000 ∧ t.ctr < 18446744073709551616 := by
 obtain ⟨O, M, ad, p, L, hP, _⟩ := h.use
 exact ⟨hP.pow, hP.num⟩
theorem StS.seen (h : StS w0 w k ws hs sn) {s : World × (Nat → Prop)} (hs : s ∈ sn) : Chg s.2 s.1 w := by
 obtain ⟨M, Os, _, _, _, _, h5⟩ := h.is
 exact (h5 s hs).chg
theorem sm_up (h : Sm k t) : Sm (k + 1) t := ⟨by have := h.tr; omega, by have := h.reads; omega, by have := h.nl; omega⟩
theorem sm_tell (h : Sm k t) (a b c : Int) (l : List UInt8) : Sm (k + 1) (tellW t a b c l) := ⟨by have := h.tr; simp [tellW]; omega, by have := h.reads; simp [tellW]; omega, by have := h.nl; simp [tellW]; omega⟩
theorem sm_read (h : Sm k t) (x : Int × Int) : Sm (k + 1) (readW t x) := by
 unfold readW; split
 ·exact sm_tell h _ _ _ _
 ·exact sm_up h
theorem sm_look (h : Sm k t) (i : Int) : Sm (k + 1) (lookW t i) := by
 unfold lookW; split
 ·exact sm_tell h _ _ _ _
 ·exact sm_up h
theorem sm_lay (h : Sm k t) (n : Nat) : Sm k (layW t n) := by
 obtain ⟨_, _, _, _, _, q6, q7, _, q9, _⟩ := layW_same t n
 exact ⟨by rw [q7]; exact h.tr, by rw [q9]; exact h.reads, by rw [q6]; exact h.nl⟩
theorem sm_note (h : Sm k t) (x : Tr) : Sm (k + 1) { t with tr := t.tr ++ [x] } := ⟨by have := h.tr; simp; omega, by have := h.reads; simp; omega, by have := h.nl; simp; omega⟩
theorem sm_write (h : Sm k t) (x : Int × Int) (l : List UInt8) : Sm (k + 1) (writeW t x l) := by
 unfold writeW; split
 ·have := sm_lay (sm_note h ⟨2, x.1, x.2, l⟩) 272
  exact ⟨this.tr, this.reads, this.nl⟩
 ·exact sm_up h
theorem sm_seal (h : Sm k t) (i : Int) (l : List UInt8) : Sm (k + 1) (sealedW t i l) := by
 unfold sealedW; split
 ·have := sm_lay (sm_note h ⟨4, i, 0, l⟩) l.length
  split
  ·exact ⟨this.tr, this.reads, this.nl⟩
  ·exact ⟨this.tr, this.reads, this.nl⟩
 ·exact sm_up h
theorem sm_bump (h : Sm k t) : Sm (k + 1) (bumpW t) := by
 obtain ⟨_, _, _, _, _, q6, q7, _, q9⟩ := takeW_same t
 have h1 := sm_up h
 unfold bumpW
 split
 ·exact h1
 ·split
  ·exact h1
  ·split
   ·exact ⟨by have := h.tr; simp; omega, by rw [show ({ takeW t with ctr := t.ctr + 1, tr := t.tr ++ [⟨5, 0, 0, []⟩] } : Wd).reads = (takeW t).reads from rfl, q9]; exact h1.reads, by rw [show ({ takeW t with ctr := t.ctr + 1, tr := t.tr ++ [⟨5, 0, 0, []⟩] } : Wd).nl = (takeW t).nl from rfl, q6]; exact h1.nl⟩
   ·exact ⟨by rw [q7]; exact h1.tr, by rw [q9]; exact h1.reads, by rw [q6]; exact h1.nl⟩
theorem StS.first (h : StS w0 w k ((b, t) :: ws) hs sn) : Sm k t := h.small (b, t) (by simp)
end
end Go.Proofs.YtcehkafddlfleaaGreatDoor
