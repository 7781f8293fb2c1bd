/- The contract of World's Seal.
   The contracts of world's armed, runs, slot, hasSeal.
   The contracts of World's Counter, Bump, Arm, Restart, Set, and of Blocks of none.
   The contract of World's Bump. -/
import Derived.Test.YtpbpegoobgfjcaaG05
import Derived.Test.YtpbpegoobgfjcaaG04
import Derived.Test.YtpbpegoobgfjcaaG03
namespace Go.Proofs.Ytpbpegoobgfjcaa
open Go.RowKit

theorem layW_same (t : Wd) (n : Nat) : (layW t n).n = t.n ∧ (layW t n).sl = t.sl ∧ (layW t n).s0 = t.s0 ∧ (layW t n).s1 = t.s1 ∧ (layW t n).lies = t.lies ∧ (layW t n).nl = t.nl ∧ (layW t n).tr = t.tr ∧ (layW t n).ctr = t.ctr ∧ (layW t n).reads = t.reads ∧ (t.left ≤ 1000000 → (layW t n).left ≤ 1000000) := by
  unfold layW
  split
  · split
    · refine ⟨rfl, rfl, rfl, rfl, rfl, rfl, rfl, rfl, rfl, fun h => ?_⟩
      simp only
      omega
    · exact ⟨rfl, rfl, rfl, rfl, rfl, rfl, rfl, rfl, rfl, fun _ => by simp⟩
  · exact ⟨rfl, rfl, rfl, rfl, rfl, rfl, rfl, rfl, rfl, fun h => h⟩
/-- what a seal has, sealed -/
def sealNew (t : Wd) (l old : List UInt8) : List UInt8 :=
  if layK t l.length = l.length then (laid l (padL old (l.length : Int)) (layK t l.length)).take (layK t l.length) else (laid l (padL old (l.length : Int)) (layK t l.length)).take (max (layK t l.length) old.length)
def sealedW (t : Wd) (i : Int) (l : List UInt8) : Wd :=
  if sealW t i = true then
    (if i = 0 then { layW { t with tr := t.tr ++ [⟨4, i, 0, l⟩] } l.length with s0 := sealNew t l t.s0 } else { layW { t with tr := t.tr ++ [⟨4, i, 0, l⟩] } l.length with s1 := sealNew t l t.s1 })
  else t
def sealB (t : Wd) (i : Int) (l : List UInt8) : Bool := sealW t i && decide (layK t l.length = l.length)
/-- x[:k], in a region whose order is open -/
theorem yields_cut_h0 {P : Program} {ops : Array Oper} {op : Oper} {a : Act} {t e : TypeId} {z : Value} {bytes : Nat} (hw : Region.wanted op (yielded ops a.tmps) = true) (E : El P t e z bytes) (x hi : Operand) (ho : op.op = .slice t x none (some hi) none)
    {g n c : Nat} (hx : a.eval x = .slice (some ⟨g, 0, none⟩) n c) {k2 : IntKind} {J : Int} (hhi : a.eval hi = .int k2 J) (k : Nat) (hJ : J = k) (hk : k ≤ c) : Yields P ops op (.slice (some ⟨g, 0, none⟩) k c) a := by
  subst hJ
  refine .inl ⟨hw, fun w => ?_⟩
  have hrun := run_slice_h (P := P) (w := w) t (some ⟨g, 0, none⟩) n c E.ty' k2 (k : Int) (by omega) (by omega)
  rw [E.sizeOf] at hrun
  unfold execOp
  simp [ho, hx, hhi, run_sliceAt_slice (P := P) (w := w) t _ _ _ _ E.ty', hrun, Result.andThen, sliced, Addr.add]
section
variable {O M : Nat → Prop} {b : Nat} {ad : Ad} {t : Wd} {p : Int × Int → Option Nat} {L : List Hd4} {w w3 w' : World}
/-- a seal is written, and power taken -/
theorem sealed_parts0 (h : Parts w O M b ad t p L) (hb3 : Below w.heap.size w w3) (h2 : Two b w.heap.size w3 w') {n N K : Nat} {cs : List UInt8} (hb : Blk w' b 75 (wdCells ad (layW t n))) (hk : Blk w' w.heap.size 5 (cells8 cs)) (hN : cs.length = N) (hK : K ≤ N) (hN2 : N ≤ 4294967296) :
    Parts (w'.setCell ⟨b, 1, none⟩ (.slice (some ⟨w.heap.size, 0, none⟩) K N)) O M b { ad with v0 := .slice (some ⟨w.heap.size, 0, none⟩) K N } { layW t n with s0 := cs.take K } p L ∧ Nx w O (w'.setCell ⟨b, 1, none⟩ (.slice (some ⟨w.heap.size, 0, none⟩) K N)) O := by
  have hlt := fun k hk => h.lt k (h.sub k hk)
  have hbl := h.blk.lt
  have ho := Only.setCell w' ⟨b, 1, none⟩ (.slice (some ⟨w.heap.size, 0, none⟩) K N)
  have keep : ∀ k, k < w.heap.size → k ≠ b → (w'.setCell ⟨b, 1, none⟩ (.slice (some ⟨w.heap.size, 0, none⟩) K N)).heap[k]? = w.heap[k]? := fun k hk hkb =>
    (ho.block k hkb).trans ((h2.block k hkb (by omega)).trans (hb3.block k hk))
  have C : Chg O w (w'.setCell ⟨b, 1, none⟩ (.slice (some ⟨w.heap.size, 0, none⟩) K N)) :=
    ⟨ho.os.trans (h2.os.trans hb3.os), ho.tape.trans (h2.tape.trans hb3.tape), ho.output.trans (h2.output.trans hb3.output), by rw [ho.size, h2.size]; exact hb3.size, fun k hk hn => keep k hk (fun e => hn (e ▸ h.ob))⟩
  obtain ⟨q1, q2, q3, q4, q5, q6, q7, q8, q9, q10⟩ := layW_same t n
  have hg : ¬ M w.heap.size := fun hm => by have := h.lt _ hm; omega
  have hnew : BsV (w'.setCell ⟨b, 1, none⟩ (.slice (some ⟨w.heap.size, 0, none⟩) K N)) M (.slice (some ⟨w.heap.size, 0, none⟩) K N) (cs.take K) := by
    have hk2 := hk.other (p := ⟨b, 1, none⟩) (by simp; omega) (.slice (some ⟨w.heap.size, 0, none⟩) K N)
    refine ⟨_, _, _, rfl, hk2.bytes (o := 0) hk2.lt ?_ (by simp; omega) N hK (by simp only [maxLen]; omega), fun ad hA _ hm => ?_, by omega⟩
    · rw [List.drop_zero]; simp [cells8]
    · obtain rfl := Option.some.inj hA
      exact hg hm
  refine ⟨⟨h.sub, fun k hk => Nat.lt_of_lt_of_le (h.lt k hk) C.size, h.ob, hb.set 1 _, ?_, ?_, ?_, ?_, ?_, by show (layW t n).n ≤ _; rw [q1]; exact h.big, q10 h.pow, by show (layW t n).ctr < _; rw [q8]; exact h.num, by show (layW t n).reads ≤ _; rw [q9]; exact h.read, h.two⟩, Nx.same C hlt⟩
  · show Sl _ O ad.ms (layW t n).n (layW t n).sl p
    rw [q1, q2]
    refine h.slots.stay (fun _ h => h) (fun k hk hkk => keep k (hlt k hk) ?_)
    rcases hkk with h1 | h1
    · exact h1.ne h.blk.row
    · exact h1.ne h.blk.row (by decide)
  · show Li _ O M ad.ml (layW t n).lies (layW t n).nl
    rw [q5, q6]
    exact h.lies.stay (fun _ h => h) (fun k hk hkk => keep k (hlt k hk) (hkk.ne h.blk.row)) C h.sub (fun _ h => .inl h)
  · exact hnew
  · show BsV _ M ad.v1 (layW t n).s1
    rw [q4]
    exact h.seal1.chg C h.sub (fun _ h => .inl h)
  · show Tc _ O M ad.vt (layW t n).tr L
    rw [q7]
    exact h.trace.stay (fun _ h => h) (fun k hk hkk => keep k (hlt k hk) (hkk.ne h.blk.row (by decide))) C h.sub (fun _ h => .inl h)
/-- a seal is written, and power taken -/
theorem sealed_parts1 (h : Parts w O M b ad t p L) (hb3 : Below w.heap.size w w3) (h2 : Two b w.heap.size w3 w') {n N K : Nat} {cs : List UInt8} (hb : Blk w' b 75 (wdCells ad (layW t n))) (hk : Blk w' w.heap.size 5 (cells8 cs)) (hN : cs.length = N) (hK : K ≤ N) (hN2 : N ≤ 4294967296) :
    Parts (w'.setCell ⟨b, 2, none⟩ (.slice (some ⟨w.heap.size, 0, none⟩) K N)) O M b { ad with v1 := .slice (some ⟨w.heap.size, 0, none⟩) K N } { layW t n with s1 := cs.take K } p L ∧ Nx w O (w'.setCell ⟨b, 2, none⟩ (.slice (some ⟨w.heap.size, 0, none⟩) K N)) O := by
  have hlt := fun k hk => h.lt k (h.sub k hk)
  have hbl := h.blk.lt
  have ho := Only.setCell w' ⟨b, 2, none⟩ (.slice (some ⟨w.heap.size, 0, none⟩) K N)
  have keep : ∀ k, k < w.heap.size → k ≠ b → (w'.setCell ⟨b, 2, none⟩ (.slice (some ⟨w.heap.size, 0, none⟩) K N)).heap[k]? = w.heap[k]? := fun k hk hkb =>
    (ho.block k hkb).trans ((h2.block k hkb (by omega)).trans (hb3.block k hk))
  have C : Chg O w (w'.setCell ⟨b, 2, none⟩ (.slice (some ⟨w.heap.size, 0, none⟩) K N)) :=
    ⟨ho.os.trans (h2.os.trans hb3.os), ho.tape.trans (h2.tape.trans hb3.tape), ho.output.trans (h2.output.trans hb3.output), by rw [ho.size, h2.size]; exact hb3.size, fun k hk hn => keep k hk (fun e => hn (e ▸ h.ob))⟩
  obtain ⟨q1, q2, q3, q4, q5, q6, q7, q8, q9, q10⟩ := layW_same t n
  have hg : ¬ M w.heap.size := fun hm => by have := h.lt _ hm; omega
  have hnew : BsV (w'.setCell ⟨b, 2, none⟩ (.slice (some ⟨w.heap.size, 0, none⟩) K N)) M (.slice (some ⟨w.heap.size, 0, none⟩) K N) (cs.take K) := by
    have hk2 := hk.other (p := ⟨b, 2, none⟩) (by simp; omega) (.slice (some ⟨w.heap.size, 0, none⟩) K N)
    refine ⟨_, _, _, rfl, hk2.bytes (o := 0) hk2.lt ?_ (by simp; omega) N hK (by simp only [maxLen]; omega), fun ad hA _ hm => ?_, by omega⟩
    · rw [List.drop_zero]; simp [cells8]
    · obtain rfl := Option.some.inj hA
      exact hg hm
  refine ⟨⟨h.sub, fun k hk => Nat.lt_of_lt_of_le (h.lt k hk) C.size, h.ob, hb.set 2 _, ?_, ?_, ?_, ?_, ?_, by show (layW t n).n ≤ _; rw [q1]; exact h.big, q10 h.pow, by show (layW t n).ctr < _; rw [q8]; exact h.num, by show (layW t n).reads ≤ _; rw [q9]; exact h.read, h.two⟩, Nx.same C hlt⟩
  · show Sl _ O ad.ms (layW t n).n (layW t n).sl p
    rw [q1, q2]
    refine h.slots.stay (fun _ h => h) (fun k hk hkk => keep k (hlt k hk) ?_)
    rcases hkk with h1 | h1
    · exact h1.ne h.blk.row
    · exact h1.ne h.blk.row (by decide)
  · show Li _ O M ad.ml (layW t n).lies (layW t n).nl
    rw [q5, q6]
    exact h.lies.stay (fun _ h => h) (fun k hk hkk => keep k (hlt k hk) (hkk.ne h.blk.row)) C h.sub (fun _ h => .inl h)
  · show BsV _ M ad.v0 (layW t n).s0
    rw [q3]
    exact h.seal0.chg C h.sub (fun _ h => .inl h)
  · exact hnew
  · show Tc _ O M ad.vt (layW t n).tr L
    rw [q7]
    exact h.trace.stay (fun _ h => h) (fun k hk hkk => keep k (hlt k hk) (hkk.ne h.blk.row (by decide))) C h.sub (fun _ h => .inl h)

set_option maxRecDepth 100000 in
set_option maxHeartbeats 2000000 in
theorem seal0_any (h : Parts w O M b ad t p L) (hth : sealW t 0 = true) (A : Option Addr) (n c : Nat) (l : List UInt8) (ha : BsM w M A n c l) (hlen : t.tr.length ≤ 1000000) :
    Calls Try.prog 29 #[.pointer (some ⟨b, 0, none⟩), .int .i64 0, .slice A n c] w fun e w' => e = .returned (.bool (sealB t 0 l)) ∧ ∃ ad' L' O', Parts w' O' (Or2 M O') b ad' (sealedW t 0 l) p L' ∧ Nx w O w' O' := by
  have HP : Kp _ := ⟨h⟩
  have HA : Kp _ := ⟨ha⟩
  have hn := ha.fit
  have HLn : Kp (l.length = n) := ⟨ha.bs.len⟩
  have hs : (!t.lost && (decide (0 ≤ (0 : Int)) && decide ((0 : Int) < 2))) = true := hth
  have HT : Kp (sealedW t 0 l = { layW { t with tr := t.tr ++ [⟨4, 0, 0, l⟩] } n with s0 := sealNew t l t.s0 } ∧ sealB t 0 l = decide (layK t n = n)) := ⟨by unfold sealedW sealB; rw [if_pos hth, hth, ha.bs.len]; exact ⟨rfl, rfl⟩⟩
  clear h ha hth
  go_enter Try.func29, Try.ntmps29
  go_wp2_with fail
  refine (hasSeal_any b ad t w HP.out.blk 0).mono ?_
  rintro e w1 ⟨rfl, rfl⟩
  rw [hs]
  go_wp2_with fail
  refine (note_any HP.out ⟨4, 0, 0, l⟩ ⟨.inr (.inr (.inr (.inl ⟨rfl, rfl⟩))), rfl, rfl⟩ A n c HA.out.bs hn hlen).mono ?_
  rintro e w2 ⟨rfl, ad2, L2, O2, P2, N2⟩
  have HP2 : Kp _ := ⟨P2⟩
  have HA2 : Kp _ := ⟨HA.out.nx HP.out.sub N2⟩
  have HN2 : Kp _ := ⟨N2⟩
  obtain ⟨A0, n0, c0, hv0, hb0⟩ := P2.seal0
  have d1 : w2.cell? ⟨b, 1, none⟩ = some (.slice A0 n0 c0) := by rw [P2.blk.cell? 1, ← hv0]; rfl
  have HB0 : Kp _ := ⟨hb0⟩
  have hn0 := hb0.fit
  clear P2 N2 hv0 hb0
  go_wp2_with fail
  refine (pad6_any A0 n0 c0 (n : Int) t.s0 w2 HB0.out.bs hn0 (by omega)).mono ?_
  obtain ⟨N, hN⟩ : ∃ N, N = (padL t.s0 (n : Int)).length := ⟨_, rfl⟩
  have hN2 : N = max n0 n := by rw [hN, padL_length, HB0.out.bs.len]; simp
  rw [← hN]
  rintro e w3 ⟨rfl, hk3, hb3⟩
  have P3 := HP2.out.below hb3
  have hbl : b < w2.heap.size := HP2.out.blk.lt
  have HTs : Kp (BsT w3 b w2.heap.size A n c l) := ⟨⟨(HA2.out.below hb3).bs, fun ad' hA h0 => by
    obtain ⟨b9, o9, hA9, hb9, _⟩ := HA2.out.bs.cells h0
    have h9 := HA2.out.apart _ hA9 h0
    rw [hA9] at hA
    obtain rfl := Option.some.inj hA
    exact ⟨fun e => h9 (by show Or2 M O2 b9; rw [show b9 = b from e]; exact HP2.out.sub b HP2.out.ob), by simp; omega⟩⟩⟩
  have HK3 : Kp _ := ⟨hk3⟩
  have HB3 : Kp _ := ⟨hb3⟩
  have HBk : Kp _ := ⟨P3.blk⟩
  have HPow : Kp _ := ⟨P3.pow⟩
  have HN : Kp ((padL t.s0 (n : Int)).length = N ∧ N = max n0 n) := ⟨hN.symm, hN2⟩
  have hnN : n ≤ N := by omega
  have hn0N : n0 ≤ N := by omega
  have hNb : N ≤ 4294967296 := by omega
  clear P3 hb3 hk3 hN hN2
  go_wp2_with fail
  refine (lay_any b w2.heap.size (by omega) ad2 { t with tr := t.tr ++ [⟨4, 0, 0, l⟩] } 5 A n c N N l (padL t.s0 (n : Int)) w3 HBk.out HPow.out HK3.out HN.out.1 HTs.out hnN hNb).mono ?_
  rintro e w4 ⟨rfl, hb4, hk4, h24⟩
  obtain ⟨k, hk⟩ : ∃ k, k = layK t n := ⟨_, rfl⟩
  have hkn : k ≤ n := by rw [hk]; exact layK_le _ _
  have hlk : layK { t with tr := t.tr ++ [⟨4, 0, 0, l⟩] } n = k := hk.symm
  rw [hlk] at hk4 ⊢
  have d4 : ∃ v, w4.cell? ⟨b, 1, none⟩ = some v := ⟨_, by rw [hb4.cell? 1]; rfl⟩
  obtain ⟨v4, d4⟩ := d4
  have f4 := hb4.frozen 1
  have HS : Kp (∀ K, K ≤ N → Parts (w4.drew.setCell ⟨b, 1, none⟩ (.slice (some ⟨w2.heap.size, 0, none⟩) K N)) O2 (Or2 M O2) b { ad2 with v0 := .slice (some ⟨w2.heap.size, 0, none⟩) K N } { layW { t with tr := t.tr ++ [⟨4, 0, 0, l⟩] } n with s0 := (laid l (padL t.s0 (n : Int)) k).take K } p L2 ∧ Nx w2 O2 (w4.drew.setCell ⟨b, 1, none⟩ (.slice (some ⟨w2.heap.size, 0, none⟩) K N)) O2) :=
    ⟨fun K hK => sealed_parts0 HP2.out HB3.out (w' := w4.drew) ⟨h24.os, h24.tape, h24.output, h24.size, h24.block⟩ hb4.drew hk4.drew (by rw [laid_length _ _ _ (by rw [HLn.out]; exact hkn) (by rw [HN.out.1]; omega)]; exact HN.out.1) hK hNb⟩
  have HK : Kp _ := ⟨hk⟩
  have hkN : k ≤ N := by omega
  have HSn : Kp (sealNew t l t.s0 = if k = n then (laid l (padL t.s0 (n : Int)) k).take k else (laid l (padL t.s0 (n : Int)) k).take (max k n0)) := ⟨by unfold sealNew; rw [HLn.out, ← hk, HB0.out.bs.len]⟩
  clear hk hlk hb4 hk4 h24 d1 HK3 HTs HBk
  by_cases hfull : k = n
  · have hq : ((k : Int) == (n : Int)) = true := by rw [beq_iff_eq]; omega
    have HF : Kp _ := ⟨hfull⟩
    clear hfull
    go_wp2_with fail
    refine wp_region_any (by kernel_rfl) ?_
    change wpAny _ _ _ _ _ _ _ w4.drew
    have d5 : w4.drew.cell? ⟨b, 1, none⟩ = some v4 := d4
    have f5 : w4.drew.frozen? ⟨b, 1, none⟩ = false := f4
    clear d4 f4
    generalize w4.drew = wS at *
    refine wpAny_take (i := 0) (oi := ⟨some 44, _, _, _, _, _⟩) (v := ?_) rfl (by kernel_rfl) (by kernel_rfl) (by kernel_rfl) (fun _ _ _ h => h) (Or.inl ⟨by rfl, by intro w; go_simp; try rfl⟩) ?_
    try simp only [Act.put, List.setIfInBounds_toArray, List.set_cons_zero, List.set_cons_succ]
    refine wpAny_take (i := 1) (oi := ⟨some 45, _, _, _, _, _⟩) (v := ?_) rfl (by kernel_rfl) (by kernel_rfl) (by kernel_rfl) (fun _ _ _ h => h) (Or.inl ⟨by rfl, by intro w; go_simp; try rfl⟩) ?_
    try simp only [Act.put, List.setIfInBounds_toArray, List.set_cons_zero, List.set_cons_succ]
    refine wpAny_take (i := 2) (oi := ⟨some 46, _, _, _, _, _⟩) (v := ?_) rfl (by kernel_rfl) (by kernel_rfl) (by kernel_rfl) (fun _ _ _ h => h) (Or.inl ⟨by rfl, by intro w; go_simp; try rfl⟩) ?_
    try simp only [Act.put, List.setIfInBounds_toArray, List.set_cons_zero, List.set_cons_succ]
    refine wpAny_take (i := 3) (oi := ⟨some 47, _, _, _, _, _⟩) (v := ?_) rfl (by kernel_rfl) (by kernel_rfl) (by kernel_rfl) (fun _ _ _ h => h) (Or.inl ⟨by rfl, by intro w; go_simp; try rfl⟩) ?_
    try simp only [Act.put, List.setIfInBounds_toArray, List.set_cons_zero, List.set_cons_succ]
    refine wpAny_take (i := 4) (oi := ⟨some 48, _, _, _, _, _⟩) (v := _) rfl (by kernel_rfl) (by kernel_rfl) (by kernel_rfl) (fun _ _ _ h => h) (yields_cut_h0 (by rfl) el8 (.tmp 46) (.tmp 47) rfl rfl rfl k rfl (by omega)) ?_
    try simp only [Act.put, List.setIfInBounds_toArray, List.set_cons_zero, List.set_cons_succ]
    refine wpAny_take (i := 5) (oi := ⟨some 49, _, _, _, _, _⟩) (v := ?_) rfl (by kernel_rfl) (by kernel_rfl) (by kernel_rfl) (fun _ _ _ h => h) (Or.inl ⟨by rfl, by intro w; go_simp; try rfl⟩) ?_
    try simp only [Act.put, List.setIfInBounds_toArray, List.set_cons_zero, List.set_cons_succ]
    refine wpAny_take (i := 6) (oi := ⟨some 50, _, _, _, _, _⟩) (v := ?_) rfl (by kernel_rfl) (by kernel_rfl) (by kernel_rfl) (fun _ _ _ h => h) (Or.inl ⟨by rfl, by intro w; go_simp; try rfl⟩) ?_
    try simp only [Act.put, List.setIfInBounds_toArray, List.set_cons_zero, List.set_cons_succ]
    refine wpAny_take (i := 7) (oi := ⟨some 51, _, _, _, _, _⟩) (v := ?_) rfl (by kernel_rfl) (by kernel_rfl) (by kernel_rfl) (fun _ _ _ h => h) (Or.inl ⟨by rfl, by intro w; go_simp; try rfl⟩) ?_
    try simp only [Act.put, List.setIfInBounds_toArray, List.set_cons_zero, List.set_cons_succ]
    refine wpAny_ready (rs := [8]) (by kernel_rfl) (by simp) ?_
    refine AllReady.cons (o := ⟨none, _, _, _, _, _⟩) rfl (fun K hK => ?_) AllReady.nil
    have HR : Kp _ := ⟨HS.out k (by omega)⟩
    go_simp
    refine hK _ _ ?_
    clear hK K
    try simp only [Act.put]
    refine wpAny_done (by kernel_rfl) ?_ _
    go_wp2
    go_ret
    rw [HT.out.1, HT.out.2, HSn.out, if_pos HF.out]
    refine ⟨?_, _, _, O2, HR.out.1, HN2.out.trans HR.out.2⟩
    rw [← HK.out, decide_eq_true HF.out]; rfl
  · have hq : ((k : Int) == (n : Int)) = false := by rw [beq_eq_false_iff_ne]; omega
    have HF : Kp _ := ⟨hfull⟩
    clear hfull
    rcases (by omega : (n0 : Int) ≤ (k : Int) ∨ (k : Int) < (n0 : Int)) with hmx | hmx
    · have hmx2 : ¬ (k < n0) := by omega
      have hmx3 : ¬ ((k : Int) < (n0 : Int)) := by omega
      go_wp2_with fail
      refine wp_region_any (by kernel_rfl) ?_
      change wpAny _ _ _ _ _ _ _ w4.drew
      have d5 : w4.drew.cell? ⟨b, 1, none⟩ = some v4 := d4
      have f5 : w4.drew.frozen? ⟨b, 1, none⟩ = false := f4
      clear d4 f4
      generalize w4.drew = wS at *
      refine wpAny_take (i := 0) (oi := ⟨some 52, _, _, _, _, _⟩) (v := ?_) rfl (by kernel_rfl) (by kernel_rfl) (by kernel_rfl) (fun _ _ _ h => h) (Or.inl ⟨by rfl, by intro w; go_simp; try rfl⟩) ?_
      try simp only [Act.put, List.setIfInBounds_toArray, List.set_cons_zero, List.set_cons_succ]
      refine wpAny_take (i := 1) (oi := ⟨some 53, _, _, _, _, _⟩) (v := ?_) rfl (by kernel_rfl) (by kernel_rfl) (by kernel_rfl) (fun _ _ _ h => h) (Or.inl ⟨by rfl, by intro w; go_simp; try rfl⟩) ?_
      try simp only [Act.put, List.setIfInBounds_toArray, List.set_cons_zero, List.set_cons_succ]
      refine wpAny_take (i := 2) (oi := ⟨some 54, _, _, _, _, _⟩) (v := ?_) rfl (by kernel_rfl) (by kernel_rfl) (by kernel_rfl) (fun _ _ _ h => h) (Or.inl ⟨by rfl, by intro w; go_simp; try rfl⟩) ?_
      try simp only [Act.put, List.setIfInBounds_toArray, List.set_cons_zero, List.set_cons_succ]
      refine wpAny_take (i := 3) (oi := ⟨some 55, _, _, _, _, _⟩) (v := ?_) rfl (by kernel_rfl) (by kernel_rfl) (by kernel_rfl) (fun _ _ _ h => h) (Or.inl ⟨by rfl, by intro w; go_simp; try rfl⟩) ?_
      try simp only [Act.put, List.setIfInBounds_toArray, List.set_cons_zero, List.set_cons_succ]
      refine wpAny_take (i := 4) (oi := ⟨some 56, _, _, _, _, _⟩) (v := ?_) rfl (by kernel_rfl) (by kernel_rfl) (by kernel_rfl) (fun _ _ _ h => h) (Or.inl ⟨by rfl, by intro w; go_simp; try rfl⟩) ?_
      try simp only [Act.put, List.setIfInBounds_toArray, List.set_cons_zero, List.set_cons_succ]
      refine wpAny_take (i := 5) (oi := ⟨some 57, _, _, _, _, _⟩) (v := ?_) rfl (by kernel_rfl) (by kernel_rfl) (by kernel_rfl) (fun _ _ _ h => h) (Or.inl ⟨by rfl, by intro w; go_simp; try rfl⟩) ?_
      try simp only [Act.put, List.setIfInBounds_toArray, List.set_cons_zero, List.set_cons_succ]
      refine wpAny_take (i := 6) (oi := ⟨some 58, _, _, _, _, _⟩) (v := _) rfl (by kernel_rfl) (by kernel_rfl) (by kernel_rfl) (fun _ _ _ h => h) (yields_cut_h0 (by rfl) el8 (.tmp 54) (.tmp 57) rfl rfl rfl k rfl (by omega)) ?_
      try simp only [Act.put, List.setIfInBounds_toArray, List.set_cons_zero, List.set_cons_succ]
      refine wpAny_take (i := 7) (oi := ⟨some 59, _, _, _, _, _⟩) (v := ?_) rfl (by kernel_rfl) (by kernel_rfl) (by kernel_rfl) (fun _ _ _ h => h) (Or.inl ⟨by rfl, by intro w; go_simp; try rfl⟩) ?_
      try simp only [Act.put, List.setIfInBounds_toArray, List.set_cons_zero, List.set_cons_succ]
      refine wpAny_take (i := 8) (oi := ⟨some 60, _, _, _, _, _⟩) (v := ?_) rfl (by kernel_rfl) (by kernel_rfl) (by kernel_rfl) (fun _ _ _ h => h) (Or.inl ⟨by rfl, by intro w; go_simp; try rfl⟩) ?_
      try simp only [Act.put, List.setIfInBounds_toArray, List.set_cons_zero, List.set_cons_succ]
      refine wpAny_take (i := 9) (oi := ⟨some 61, _, _, _, _, _⟩) (v := ?_) rfl (by kernel_rfl) (by kernel_rfl) (by kernel_rfl) (fun _ _ _ h => h) (Or.inl ⟨by rfl, by intro w; go_simp; try rfl⟩) ?_
      try simp only [Act.put, List.setIfInBounds_toArray, List.set_cons_zero, List.set_cons_succ]
      refine wpAny_ready (rs := [10]) (by kernel_rfl) (by simp) ?_
      refine AllReady.cons (o := ⟨none, _, _, _, _, _⟩) rfl (fun K hK => ?_) AllReady.nil
      have HR : Kp _ := ⟨HS.out k (by omega)⟩
      go_simp
      refine hK _ _ ?_
      clear hK K
      try simp only [Act.put]
      refine wpAny_done (by kernel_rfl) ?_ _
      go_wp2
      go_ret
      rw [HT.out.1, HT.out.2, HSn.out, if_neg HF.out, Nat.max_eq_left (by omega)]
      refine ⟨?_, _, _, O2, HR.out.1, HN2.out.trans HR.out.2⟩
      rw [← HK.out, decide_eq_false HF.out]; rfl
    · go_wp2_with fail
      refine wp_region_any (by kernel_rfl) ?_
      change wpAny _ _ _ _ _ _ _ w4.drew
      have d5 : w4.drew.cell? ⟨b, 1, none⟩ = some v4 := d4
      have f5 : w4.drew.frozen? ⟨b, 1, none⟩ = false := f4
      clear d4 f4
      generalize w4.drew = wS at *
      refine wpAny_take (i := 0) (oi := ⟨some 52, _, _, _, _, _⟩) (v := ?_) rfl (by kernel_rfl) (by kernel_rfl) (by kernel_rfl) (fun _ _ _ h => h) (Or.inl ⟨by rfl, by intro w; go_simp; try rfl⟩) ?_
      try simp only [Act.put, List.setIfInBounds_toArray, List.set_cons_zero, List.set_cons_succ]
      refine wpAny_take (i := 1) (oi := ⟨some 53, _, _, _, _, _⟩) (v := ?_) rfl (by kernel_rfl) (by kernel_rfl) (by kernel_rfl) (fun _ _ _ h => h) (Or.inl ⟨by rfl, by intro w; go_simp; try rfl⟩) ?_
      try simp only [Act.put, List.setIfInBounds_toArray, List.set_cons_zero, List.set_cons_succ]
      refine wpAny_take (i := 2) (oi := ⟨some 54, _, _, _, _, _⟩) (v := ?_) rfl (by kernel_rfl) (by kernel_rfl) (by kernel_rfl) (fun _ _ _ h => h) (Or.inl ⟨by rfl, by intro w; go_simp; try rfl⟩) ?_
      try simp only [Act.put, List.setIfInBounds_toArray, List.set_cons_zero, List.set_cons_succ]
      refine wpAny_take (i := 3) (oi := ⟨some 55, _, _, _, _, _⟩) (v := ?_) rfl (by kernel_rfl) (by kernel_rfl) (by kernel_rfl) (fun _ _ _ h => h) (Or.inl ⟨by rfl, by intro w; go_simp; try rfl⟩) ?_
      try simp only [Act.put, List.setIfInBounds_toArray, List.set_cons_zero, List.set_cons_succ]
      refine wpAny_take (i := 4) (oi := ⟨some 56, _, _, _, _, _⟩) (v := ?_) rfl (by kernel_rfl) (by kernel_rfl) (by kernel_rfl) (fun _ _ _ h => h) (Or.inl ⟨by rfl, by intro w; go_simp; try rfl⟩) ?_
      try simp only [Act.put, List.setIfInBounds_toArray, List.set_cons_zero, List.set_cons_succ]
      refine wpAny_take (i := 5) (oi := ⟨some 57, _, _, _, _, _⟩) (v := ?_) rfl (by kernel_rfl) (by kernel_rfl) (by kernel_rfl) (fun _ _ _ h => h) (Or.inl ⟨by rfl, by intro w; go_simp; try rfl⟩) ?_
      try simp only [Act.put, List.setIfInBounds_toArray, List.set_cons_zero, List.set_cons_succ]
      refine wpAny_take (i := 6) (oi := ⟨some 58, _, _, _, _, _⟩) (v := _) rfl (by kernel_rfl) (by kernel_rfl) (by kernel_rfl) (fun _ _ _ h => h) (yields_cut_h0 (by rfl) el8 (.tmp 54) (.tmp 57) rfl rfl rfl n0 rfl (by omega)) ?_
      try simp only [Act.put, List.setIfInBounds_toArray, List.set_cons_zero, List.set_cons_succ]
      refine wpAny_take (i := 7) (oi := ⟨some 59, _, _, _, _, _⟩) (v := ?_) rfl (by kernel_rfl) (by kernel_rfl) (by kernel_rfl) (fun _ _ _ h => h) (Or.inl ⟨by rfl, by intro w; go_simp; try rfl⟩) ?_
      try simp only [Act.put, List.setIfInBounds_toArray, List.set_cons_zero, List.set_cons_succ]
      refine wpAny_take (i := 8) (oi := ⟨some 60, _, _, _, _, _⟩) (v := ?_) rfl (by kernel_rfl) (by kernel_rfl) (by kernel_rfl) (fun _ _ _ h => h) (Or.inl ⟨by rfl, by intro w; go_simp; try rfl⟩) ?_
      try simp only [Act.put, List.setIfInBounds_toArray, List.set_cons_zero, List.set_cons_succ]
      refine wpAny_take (i := 9) (oi := ⟨some 61, _, _, _, _, _⟩) (v := ?_) rfl (by kernel_rfl) (by kernel_rfl) (by kernel_rfl) (fun _ _ _ h => h) (Or.inl ⟨by rfl, by intro w; go_simp; try rfl⟩) ?_
      try simp only [Act.put, List.setIfInBounds_toArray, List.set_cons_zero, List.set_cons_succ]
      refine wpAny_ready (rs := [10]) (by kernel_rfl) (by simp) ?_
      refine AllReady.cons (o := ⟨none, _, _, _, _, _⟩) rfl (fun K hK => ?_) AllReady.nil
      have HR : Kp _ := ⟨HS.out n0 (by omega)⟩
      go_simp
      refine hK _ _ ?_
      clear hK K
      try simp only [Act.put]
      refine wpAny_done (by kernel_rfl) ?_ _
      go_wp2
      go_ret
      rw [HT.out.1, HT.out.2, HSn.out, if_neg HF.out, Nat.max_eq_right (by omega)]
      refine ⟨?_, _, _, O2, HR.out.1, HN2.out.trans HR.out.2⟩
      rw [← HK.out, decide_eq_false HF.out]; rfl

set_option maxRecDepth 100000 in
set_option maxHeartbeats 2000000 in
theorem seal1_any (h : Parts w O M b ad t p L) (hth : sealW t 1 = true) (A : Option Addr) (n c : Nat) (l : List UInt8) (ha : BsM w M A n c l) (hlen : t.tr.length ≤ 1000000) :
    Calls Try.prog 29 #[.pointer (some ⟨b, 0, none⟩), .int .i64 1, .slice A n c] w fun e w' => e = .returned (.bool (sealB t 1 l)) ∧ ∃ ad' L' O', Parts w' O' (Or2 M O') b ad' (sealedW t 1 l) p L' ∧ Nx w O w' O' := by
  have HP : Kp _ := ⟨h⟩
  have HA : Kp _ := ⟨ha⟩
  have hn := ha.fit
  have HLn : Kp (l.length = n) := ⟨ha.bs.len⟩
  have hs : (!t.lost && (decide (0 ≤ (1 : Int)) && decide ((1 : Int) < 2))) = true := hth
  have HT : Kp (sealedW t 1 l = { layW { t with tr := t.tr ++ [⟨4, 1, 0, l⟩] } n with s1 := sealNew t l t.s1 } ∧ sealB t 1 l = decide (layK t n = n)) := ⟨by unfold sealedW sealB; rw [if_pos hth, hth, ha.bs.len]; exact ⟨rfl, rfl⟩⟩
  clear h ha hth
  go_enter Try.func29, Try.ntmps29
  go_wp2_with fail
  refine (hasSeal_any b ad t w HP.out.blk 1).mono ?_
  rintro e w1 ⟨rfl, rfl⟩
  rw [hs]
  go_wp2_with fail
  refine (note_any HP.out ⟨4, 1, 0, l⟩ ⟨.inr (.inr (.inr (.inl ⟨rfl, rfl⟩))), rfl, rfl⟩ A n c HA.out.bs hn hlen).mono ?_
  rintro e w2 ⟨rfl, ad2, L2, O2, P2, N2⟩
  have HP2 : Kp _ := ⟨P2⟩
  have HA2 : Kp _ := ⟨HA.out.nx HP.out.sub N2⟩
  have HN2 : Kp _ := ⟨N2⟩
  obtain ⟨A0, n0, c0, hv0, hb0⟩ := P2.seal1
  have d1 : w2.cell? ⟨b, 2, none⟩ = some (.slice A0 n0 c0) := by rw [P2.blk.cell? 2, ← hv0]; rfl
  have HB0 : Kp _ := ⟨hb0⟩
  have hn0 := hb0.fit
  clear P2 N2 hv0 hb0
  go_wp2_with fail
  refine (pad6_any A0 n0 c0 (n : Int) t.s1 w2 HB0.out.bs hn0 (by omega)).mono ?_
  obtain ⟨N, hN⟩ : ∃ N, N = (padL t.s1 (n : Int)).length := ⟨_, rfl⟩
  have hN2 : N = max n0 n := by rw [hN, padL_length, HB0.out.bs.len]; simp
  rw [← hN]
  rintro e w3 ⟨rfl, hk3, hb3⟩
  have P3 := HP2.out.below hb3
  have hbl : b < w2.heap.size := HP2.out.blk.lt
  have HTs : Kp (BsT w3 b w2.heap.size A n c l) := ⟨⟨(HA2.out.below hb3).bs, fun ad' hA h0 => by
    obtain ⟨b9, o9, hA9, hb9, _⟩ := HA2.out.bs.cells h0
    have h9 := HA2.out.apart _ hA9 h0
    rw [hA9] at hA
    obtain rfl := Option.some.inj hA
    exact ⟨fun e => h9 (by show Or2 M O2 b9; rw [show b9 = b from e]; exact HP2.out.sub b HP2.out.ob), by simp; omega⟩⟩⟩
  have HK3 : Kp _ := ⟨hk3⟩
  have HB3 : Kp _ := ⟨hb3⟩
  have HBk : Kp _ := ⟨P3.blk⟩
  have HPow : Kp _ := ⟨P3.pow⟩
  have HN : Kp ((padL t.s1 (n : Int)).length = N ∧ N = max n0 n) := ⟨hN.symm, hN2⟩
  have hnN : n ≤ N := by omega
  have hn0N : n0 ≤ N := by omega
  have hNb : N ≤ 4294967296 := by omega
  clear P3 hb3 hk3 hN hN2
  go_wp2_with fail
  refine (lay_any b w2.heap.size (by omega) ad2 { t with tr := t.tr ++ [⟨4, 1, 0, l⟩] } 5 A n c N N l (padL t.s1 (n : Int)) w3 HBk.out HPow.out HK3.out HN.out.1 HTs.out hnN hNb).mono ?_
  rintro e w4 ⟨rfl, hb4, hk4, h24⟩
  obtain ⟨k, hk⟩ : ∃ k, k = layK t n := ⟨_, rfl⟩
  have hkn : k ≤ n := by rw [hk]; exact layK_le _ _
  have hlk : layK { t with tr := t.tr ++ [⟨4, 1, 0, l⟩] } n = k := hk.symm
  rw [hlk] at hk4 ⊢
  have d4 : ∃ v, w4.cell? ⟨b, 2, none⟩ = some v := ⟨_, by rw [hb4.cell? 2]; rfl⟩
  obtain ⟨v4, d4⟩ := d4
  have f4 := hb4.frozen 2
  have HS : Kp (∀ K, K ≤ N → Parts (w4.drew.setCell ⟨b, 2, none⟩ (.slice (some ⟨w2.heap.size, 0, none⟩) K N)) O2 (Or2 M O2) b { ad2 with v1 := .slice (some ⟨w2.heap.size, 0, none⟩) K N } { layW { t with tr := t.tr ++ [⟨4, 1, 0, l⟩] } n with s1 := (laid l (padL t.s1 (n : Int)) k).take K } p L2 ∧ Nx w2 O2 (w4.drew.setCell ⟨b, 2, none⟩ (.slice (some ⟨w2.heap.size, 0, none⟩) K N)) O2) :=
    ⟨fun K hK => sealed_parts1 HP2.out HB3.out (w' := w4.drew) ⟨h24.os, h24.tape, h24.output, h24.size, h24.block⟩ hb4.drew hk4.drew (by rw [laid_length _ _ _ (by rw [HLn.out]; exact hkn) (by rw [HN.out.1]; omega)]; exact HN.out.1) hK hNb⟩
  have HK : Kp _ := ⟨hk⟩
  have hkN : k ≤ N := by omega
  have HSn : Kp (sealNew t l t.s1 = if k = n then (laid l (padL t.s1 (n : Int)) k).take k else (laid l (padL t.s1 (n : Int)) k).take (max k n0)) := ⟨by unfold sealNew; rw [HLn.out, ← hk, HB0.out.bs.len]⟩
  clear hk hlk hb4 hk4 h24 d1 HK3 HTs HBk
  by_cases hfull : k = n
  · have hq : ((k : Int) == (n : Int)) = true := by rw [beq_iff_eq]; omega
    have HF : Kp _ := ⟨hfull⟩
    clear hfull
    go_wp2_with fail
    refine wp_region_any (by kernel_rfl) ?_
    change wpAny _ _ _ _ _ _ _ w4.drew
    have d5 : w4.drew.cell? ⟨b, 2, none⟩ = some v4 := d4
    have f5 : w4.drew.frozen? ⟨b, 2, none⟩ = false := f4
    clear d4 f4
    generalize w4.drew = wS at *
    refine wpAny_take (i := 0) (oi := ⟨some 44, _, _, _, _, _⟩) (v := ?_) rfl (by kernel_rfl) (by kernel_rfl) (by kernel_rfl) (fun _ _ _ h => h) (Or.inl ⟨by rfl, by intro w; go_simp; try rfl⟩) ?_
    try simp only [Act.put, List.setIfInBounds_toArray, List.set_cons_zero, List.set_cons_succ]
    refine wpAny_take (i := 1) (oi := ⟨some 45, _, _, _, _, _⟩) (v := ?_) rfl (by kernel_rfl) (by kernel_rfl) (by kernel_rfl) (fun _ _ _ h => h) (Or.inl ⟨by rfl, by intro w; go_simp; try rfl⟩) ?_
    try simp only [Act.put, List.setIfInBounds_toArray, List.set_cons_zero, List.set_cons_succ]
    refine wpAny_take (i := 2) (oi := ⟨some 46, _, _, _, _, _⟩) (v := ?_) rfl (by kernel_rfl) (by kernel_rfl) (by kernel_rfl) (fun _ _ _ h => h) (Or.inl ⟨by rfl, by intro w; go_simp; try rfl⟩) ?_
    try simp only [Act.put, List.setIfInBounds_toArray, List.set_cons_zero, List.set_cons_succ]
    refine wpAny_take (i := 3) (oi := ⟨some 47, _, _, _, _, _⟩) (v := ?_) rfl (by kernel_rfl) (by kernel_rfl) (by kernel_rfl) (fun _ _ _ h => h) (Or.inl ⟨by rfl, by intro w; go_simp; try rfl⟩) ?_
    try simp only [Act.put, List.setIfInBounds_toArray, List.set_cons_zero, List.set_cons_succ]
    refine wpAny_take (i := 4) (oi := ⟨some 48, _, _, _, _, _⟩) (v := _) rfl (by kernel_rfl) (by kernel_rfl) (by kernel_rfl) (fun _ _ _ h => h) (yields_cut_h0 (by rfl) el8 (.tmp 46) (.tmp 47) rfl rfl rfl k rfl (by omega)) ?_
    try simp only [Act.put, List.setIfInBounds_toArray, List.set_cons_zero, List.set_cons_succ]
    refine wpAny_take (i := 5) (oi := ⟨some 49, _, _, _, _, _⟩) (v := ?_) rfl (by kernel_rfl) (by kernel_rfl) (by kernel_rfl) (fun _ _ _ h => h) (Or.inl ⟨by rfl, by intro w; go_simp; try rfl⟩) ?_
    try simp only [Act.put, List.setIfInBounds_toArray, List.set_cons_zero, List.set_cons_succ]
    refine wpAny_take (i := 6) (oi := ⟨some 50, _, _, _, _, _⟩) (v := ?_) rfl (by kernel_rfl) (by kernel_rfl) (by kernel_rfl) (fun _ _ _ h => h) (Or.inl ⟨by rfl, by intro w; go_simp; try rfl⟩) ?_
    try simp only [Act.put, List.setIfInBounds_toArray, List.set_cons_zero, List.set_cons_succ]
    refine wpAny_take (i := 7) (oi := ⟨some 51, _, _, _, _, _⟩) (v := ?_) rfl (by kernel_rfl) (by kernel_rfl) (by kernel_rfl) (fun _ _ _ h => h) (Or.inl ⟨by rfl, by intro w; go_simp; try rfl⟩) ?_
    try simp only [Act.put, List.setIfInBounds_toArray, List.set_cons_zero, List.set_cons_succ]
    refine wpAny_ready (rs := [8]) (by kernel_rfl) (by simp) ?_
    refine AllReady.cons (o := ⟨none, _, _, _, _, _⟩) rfl (fun K hK => ?_) AllReady.nil
    have HR : Kp _ := ⟨HS.out k (by omega)⟩
    go_simp
    refine hK _ _ ?_
    clear hK K
    try simp only [Act.put]
    refine wpAny_done (by kernel_rfl) ?_ _
    go_wp2
    go_ret
    rw [HT.out.1, HT.out.2, HSn.out, if_pos HF.out]
    refine ⟨?_, _, _, O2, HR.out.1, HN2.out.trans HR.out.2⟩
    rw [← HK.out, decide_eq_true HF.out]; rfl
  · have hq : ((k : Int) == (n : Int)) = false := by rw [beq_eq_false_iff_ne]; omega
    have HF : Kp _ := ⟨hfull⟩
    clear hfull
    rcases (by omega : (n0 : Int) ≤ (k : Int) ∨ (k : Int) < (n0 : Int)) with hmx | hmx
    · have hmx2 : ¬ (k < n0) := by omega
      have hmx3 : ¬ ((k : Int) < (n0 : Int)) := by omega
      go_wp2_with fail
      refine wp_region_any (by kernel_rfl) ?_
      change wpAny _ _ _ _ _ _ _ w4.drew
      have d5 : w4.drew.cell? ⟨b, 2, none⟩ = some v4 := d4
      have f5 : w4.drew.frozen? ⟨b, 2, none⟩ = false := f4
      clear d4 f4
      generalize w4.drew = wS at *
      refine wpAny_take (i := 0) (oi := ⟨some 52, _, _, _, _, _⟩) (v := ?_) rfl (by kernel_rfl) (by kernel_rfl) (by kernel_rfl) (fun _ _ _ h => h) (Or.inl ⟨by rfl, by intro w; go_simp; try rfl⟩) ?_
      try simp only [Act.put, List.setIfInBounds_toArray, List.set_cons_zero, List.set_cons_succ]
      refine wpAny_take (i := 1) (oi := ⟨some 53, _, _, _, _, _⟩) (v := ?_) rfl (by kernel_rfl) (by kernel_rfl) (by kernel_rfl) (fun _ _ _ h => h) (Or.inl ⟨by rfl, by intro w; go_simp; try rfl⟩) ?_
      try simp only [Act.put, List.setIfInBounds_toArray, List.set_cons_zero, List.set_cons_succ]
      refine wpAny_take (i := 2) (oi := ⟨some 54, _, _, _, _, _⟩) (v := ?_) rfl (by kernel_rfl) (by kernel_rfl) (by kernel_rfl) (fun _ _ _ h => h) (Or.inl ⟨by rfl, by intro w; go_simp; try rfl⟩) ?_
      try simp only [Act.put, List.setIfInBounds_toArray, List.set_cons_zero, List.set_cons_succ]
      refine wpAny_take (i := 3) (oi := ⟨some 55, _, _, _, _, _⟩) (v := ?_) rfl (by kernel_rfl) (by kernel_rfl) (by kernel_rfl) (fun _ _ _ h => h) (Or.inl ⟨by rfl, by intro w; go_simp; try rfl⟩) ?_
      try simp only [Act.put, List.setIfInBounds_toArray, List.set_cons_zero, List.set_cons_succ]
      refine wpAny_take (i := 4) (oi := ⟨some 56, _, _, _, _, _⟩) (v := ?_) rfl (by kernel_rfl) (by kernel_rfl) (by kernel_rfl) (fun _ _ _ h => h) (Or.inl ⟨by rfl, by intro w; go_simp; try rfl⟩) ?_
      try simp only [Act.put, List.setIfInBounds_toArray, List.set_cons_zero, List.set_cons_succ]
      refine wpAny_take (i := 5) (oi := ⟨some 57, _, _, _, _, _⟩) (v := ?_) rfl (by kernel_rfl) (by kernel_rfl) (by kernel_rfl) (fun _ _ _ h => h) (Or.inl ⟨by rfl, by intro w; go_simp; try rfl⟩) ?_
      try simp only [Act.put, List.setIfInBounds_toArray, List.set_cons_zero, List.set_cons_succ]
      refine wpAny_take (i := 6) (oi := ⟨some 58, _, _, _, _, _⟩) (v := _) rfl (by kernel_rfl) (by kernel_rfl) (by kernel_rfl) (fun _ _ _ h => h) (yields_cut_h0 (by rfl) el8 (.tmp 54) (.tmp 57) rfl rfl rfl k rfl (by omega)) ?_
      try simp only [Act.put, List.setIfInBounds_toArray, List.set_cons_zero, List.set_cons_succ]
      refine wpAny_take (i := 7) (oi := ⟨some 59, _, _, _, _, _⟩) (v := ?_) rfl (by kernel_rfl) (by kernel_rfl) (by kernel_rfl) (fun _ _ _ h => h) (Or.inl ⟨by rfl, by intro w; go_simp; try rfl⟩) ?_
      try simp only [Act.put, List.setIfInBounds_toArray, List.set_cons_zero, List.set_cons_succ]
      refine wpAny_take (i := 8) (oi := ⟨some 60, _, _, _, _, _⟩) (v := ?_) rfl (by kernel_rfl) (by kernel_rfl) (by kernel_rfl) (fun _ _ _ h => h) (Or.inl ⟨by rfl, by intro w; go_simp; try rfl⟩) ?_
      try simp only [Act.put, List.setIfInBounds_toArray, List.set_cons_zero, List.set_cons_succ]
      refine wpAny_take (i := 9) (oi := ⟨some 61, _, _, _, _, _⟩) (v := ?_) rfl (by kernel_rfl) (by kernel_rfl) (by kernel_rfl) (fun _ _ _ h => h) (Or.inl ⟨by rfl, by intro w; go_simp; try rfl⟩) ?_
      try simp only [Act.put, List.setIfInBounds_toArray, List.set_cons_zero, List.set_cons_succ]
      refine wpAny_ready (rs := [10]) (by kernel_rfl) (by simp) ?_
      refine AllReady.cons (o := ⟨none, _, _, _, _, _⟩) rfl (fun K hK => ?_) AllReady.nil
      have HR : Kp _ := ⟨HS.out k (by omega)⟩
      go_simp
      refine hK _ _ ?_
      clear hK K
      try simp only [Act.put]
      refine wpAny_done (by kernel_rfl) ?_ _
      go_wp2
      go_ret
      rw [HT.out.1, HT.out.2, HSn.out, if_neg HF.out, Nat.max_eq_left (by omega)]
      refine ⟨?_, _, _, O2, HR.out.1, HN2.out.trans HR.out.2⟩
      rw [← HK.out, decide_eq_false HF.out]; rfl
    · go_wp2_with fail
      refine wp_region_any (by kernel_rfl) ?_
      change wpAny _ _ _ _ _ _ _ w4.drew
      have d5 : w4.drew.cell? ⟨b, 2, none⟩ = some v4 := d4
      have f5 : w4.drew.frozen? ⟨b, 2, none⟩ = false := f4
      clear d4 f4
      generalize w4.drew = wS at *
      refine wpAny_take (i := 0) (oi := ⟨some 52, _, _, _, _, _⟩) (v := ?_) rfl (by kernel_rfl) (by kernel_rfl) (by kernel_rfl) (fun _ _ _ h => h) (Or.inl ⟨by rfl, by intro w; go_simp; try rfl⟩) ?_
      try simp only [Act.put, List.setIfInBounds_toArray, List.set_cons_zero, List.set_cons_succ]
      refine wpAny_take (i := 1) (oi := ⟨some 53, _, _, _, _, _⟩) (v := ?_) rfl (by kernel_rfl) (by kernel_rfl) (by kernel_rfl) (fun _ _ _ h => h) (Or.inl ⟨by rfl, by intro w; go_simp; try rfl⟩) ?_
      try simp only [Act.put, List.setIfInBounds_toArray, List.set_cons_zero, List.set_cons_succ]
      refine wpAny_take (i := 2) (oi := ⟨some 54, _, _, _, _, _⟩) (v := ?_) rfl (by kernel_rfl) (by kernel_rfl) (by kernel_rfl) (fun _ _ _ h => h) (Or.inl ⟨by rfl, by intro w; go_simp; try rfl⟩) ?_
      try simp only [Act.put, List.setIfInBounds_toArray, List.set_cons_zero, List.set_cons_succ]
      refine wpAny_take (i := 3) (oi := ⟨some 55, _, _, _, _, _⟩) (v := ?_) rfl (by kernel_rfl) (by kernel_rfl) (by kernel_rfl) (fun _ _ _ h => h) (Or.inl ⟨by rfl, by intro w; go_simp; try rfl⟩) ?_
      try simp only [Act.put, List.setIfInBounds_toArray, List.set_cons_zero, List.set_cons_succ]
      refine wpAny_take (i := 4) (oi := ⟨some 56, _, _, _, _, _⟩) (v := ?_) rfl (by kernel_rfl) (by kernel_rfl) (by kernel_rfl) (fun _ _ _ h => h) (Or.inl ⟨by rfl, by intro w; go_simp; try rfl⟩) ?_
      try simp only [Act.put, List.setIfInBounds_toArray, List.set_cons_zero, List.set_cons_succ]
      refine wpAny_take (i := 5) (oi := ⟨some 57, _, _, _, _, _⟩) (v := ?_) rfl (by kernel_rfl) (by kernel_rfl) (by kernel_rfl) (fun _ _ _ h => h) (Or.inl ⟨by rfl, by intro w; go_simp; try rfl⟩) ?_
      try simp only [Act.put, List.setIfInBounds_toArray, List.set_cons_zero, List.set_cons_succ]
      refine wpAny_take (i := 6) (oi := ⟨some 58, _, _, _, _, _⟩) (v := _) rfl (by kernel_rfl) (by kernel_rfl) (by kernel_rfl) (fun _ _ _ h => h) (yields_cut_h0 (by rfl) el8 (.tmp 54) (.tmp 57) rfl rfl rfl n0 rfl (by omega)) ?_
      try simp only [Act.put, List.setIfInBounds_toArray, List.set_cons_zero, List.set_cons_succ]
      refine wpAny_take (i := 7) (oi := ⟨some 59, _, _, _, _, _⟩) (v := ?_) rfl (by kernel_rfl) (by kernel_rfl) (by kernel_rfl) (fun _ _ _ h => h) (Or.inl ⟨by rfl, by intro w; go_simp; try rfl⟩) ?_
      try simp only [Act.put, List.setIfInBounds_toArray, List.set_cons_zero, List.set_cons_succ]
      refine wpAny_take (i := 8) (oi := ⟨some 60, _, _, _, _, _⟩) (v := ?_) rfl (by kernel_rfl) (by kernel_rfl) (by kernel_rfl) (fun _ _ _ h => h) (Or.inl ⟨by rfl, by intro w; go_simp; try rfl⟩) ?_
      try simp only [Act.put, List.setIfInBounds_toArray, List.set_cons_zero, List.set_cons_succ]
      refine wpAny_take (i := 9) (oi := ⟨some 61, _, _, _, _, _⟩) (v := ?_) rfl (by kernel_rfl) (by kernel_rfl) (by kernel_rfl) (fun _ _ _ h => h) (Or.inl ⟨by rfl, by intro w; go_simp; try rfl⟩) ?_
      try simp only [Act.put, List.setIfInBounds_toArray, List.set_cons_zero, List.set_cons_succ]
      refine wpAny_ready (rs := [10]) (by kernel_rfl) (by simp) ?_
      refine AllReady.cons (o := ⟨none, _, _, _, _, _⟩) rfl (fun K hK => ?_) AllReady.nil
      have HR : Kp _ := ⟨HS.out n0 (by omega)⟩
      go_simp
      refine hK _ _ ?_
      clear hK K
      try simp only [Act.put]
      refine wpAny_done (by kernel_rfl) ?_ _
      go_wp2
      go_ret
      rw [HT.out.1, HT.out.2, HSn.out, if_neg HF.out, Nat.max_eq_right (by omega)]
      refine ⟨?_, _, _, O2, HR.out.1, HN2.out.trans HR.out.2⟩
      rw [← HK.out, decide_eq_false HF.out]; rfl

set_option maxRecDepth 100000 in
set_option maxHeartbeats 1000000 in
theorem seal_any (h : Parts w O M b ad t p L) (i : Int) (A : Option Addr) (n c : Nat) (l : List UInt8) (ha : BsM w M A n c l) (hlen : t.tr.length ≤ 1000000) :
    Calls Try.prog 29 #[.pointer (some ⟨b, 0, none⟩), .int .i64 i, .slice A n c] w fun e w' => e = .returned (.bool (sealB t i l)) ∧ ∃ ad' L' O', Parts w' O' (Or2 M O') b ad' (sealedW t i l) p L' ∧ Nx w O w' O' := by
  by_cases hth : sealW t i = true
  · have hth2 : (!t.lost && (decide (0 ≤ i) && decide (i < 2))) = true := hth
    have hi : i = 0 ∨ i = 1 := by
      simp only [Bool.and_eq_true, decide_eq_true_eq] at hth2
      omega
    clear hth2
    rcases hi with rfl | rfl
    · exact seal0_any h hth A n c l ha hlen
    · exact seal1_any h hth A n c l ha hlen
  · have hs : (!t.lost && (decide (0 ≤ i) && decide (i < 2))) = false := by
      have h1 := hth
      unfold sealW at h1
      simpa using h1
    have HP : Kp _ := ⟨h⟩
    have HT : Kp (sealedW t i l = t ∧ sealB t i l = false) := ⟨by unfold sealedW sealB; rw [if_neg hth, show sealW t i = false by simpa using hth]; exact ⟨rfl, rfl⟩⟩
    clear h hth
    go_enter Try.func29, Try.ntmps29
    go_wp2_with fail
    refine (hasSeal_any b ad t w HP.out.blk i).mono ?_
    rintro e w1 ⟨rfl, rfl⟩
    rw [hs]
    go_wp2
    go_ret
    rw [HT.out.1, HT.out.2]
    exact ⟨rfl, ad, L, O, HP.out.stayO, HP.out.nx⟩
end
end Go.Proofs.Ytpbpegoobgfjcaa

namespace Go.Proofs.Ytpbpegoobgfjcaa
open Go.RowKit

def armN (n : Int) : Nat := (min (max n 0) 1000000).toNat
def zeroPw : List Value := [.bool false, .bool false, .int .i64 0]
theorem tyPw : Ty Try.prog 67 zeroPw := ⟨by kernel_rfl⟩
theorem rwPw : Rw Try.prog 67 (match (Try.prog).underlying 67 with | some d => d | none => .bool) 3 := ⟨by kernel_rfl, by kernel_rfl, by kernel_rfl⟩
theorem armN_le (n : Int) : armN n ≤ 1000000 := by unfold armN; omega

theorem pw_one (n : Int) : ∀ v ∈ [Value.bool true, .bool false, .int .i64 n], v.oneCell' = true := by
  intro v hv
  simp only [List.mem_cons, List.not_mem_nil, or_false] at hv
  rcases hv with rfl | rfl | rfl <;> rfl

set_option maxRecDepth 100000 in
set_option maxHeartbeats 400000 in
theorem armed_any (n : Int) (w : World) :
    Calls Try.prog 41 #[.int .i64 n] w fun e w' => e = .returned (.agg #[.bool true, .bool false, .int .i64 (armN n : Int)]) ∧ Below w.heap.size w w' := by
  rcases (by omega : n < 0 ∨ (0 ≤ n ∧ n ≤ 1000000) ∨ 1000000 < n) with h | ⟨h, h2⟩ | h
  · have HN : Kp ((armN n : Int) = 0) := ⟨by unfold armN; omega⟩
    have HZ : Kp (zeroPw.length = 3) := ⟨rfl⟩
    have HV : Kp (([Value.bool true, .bool false, .int .i64 0] : List Value).length = 3) := ⟨rfl⟩
    go_enter Try.func41, Try.ntmps41
    go_wp2_with (with_reducible refine wpList_alloc (o := ⟨some 2, _, _, _, _, _⟩) tyPw rfl rfl ?_)
    intro w1 hk1 hb1 hs1
    have HK1 : Kp _ := ⟨hk1⟩
    clear hk1 hs1
    go_wp2_with (with_reducible refine wpList_storeAll (o := ⟨none, _, _, _, _, _⟩) (vs := [Value.bool true, .bool false, .int .i64 0]) rwPw rfl (.tmp 2) (.tmp 6) rfl rfl HK1.out HZ.out HV.out (pw_one _) rfl ?_)
    intro w2 hk2 ho2
    go_wp2
    refine ret_arr rfl rwPw rfl hk2 HV.out rfl ?_
    exact ⟨by rw [HN.out], hb1.trans (ho2.below (Nat.le_refl _))⟩
  · have HN : Kp ((armN n : Int) = n) := ⟨by unfold armN; omega⟩
    have HZ : Kp (zeroPw.length = 3) := ⟨rfl⟩
    have HV : Kp (([Value.bool true, .bool false, .int .i64 n] : List Value).length = 3) := ⟨rfl⟩
    go_enter Try.func41, Try.ntmps41
    go_wp2_with (with_reducible refine wpList_alloc (o := ⟨some 2, _, _, _, _, _⟩) tyPw rfl rfl ?_)
    intro w1 hk1 hb1 hs1
    have HK1 : Kp _ := ⟨hk1⟩
    clear hk1 hs1
    go_wp2_with (with_reducible refine wpList_storeAll (o := ⟨none, _, _, _, _, _⟩) (vs := [Value.bool true, .bool false, .int .i64 n]) rwPw rfl (.tmp 2) (.tmp 6) rfl rfl HK1.out HZ.out HV.out (pw_one _) rfl ?_)
    intro w2 hk2 ho2
    go_wp2
    refine ret_arr rfl rwPw rfl hk2 HV.out rfl ?_
    exact ⟨by rw [HN.out], hb1.trans (ho2.below (Nat.le_refl _))⟩
  · have HN : Kp ((armN n : Int) = 1000000) := ⟨by unfold armN; omega⟩
    have HZ : Kp (zeroPw.length = 3) := ⟨rfl⟩
    have HV : Kp (([Value.bool true, .bool false, .int .i64 1000000] : List Value).length = 3) := ⟨rfl⟩
    go_enter Try.func41, Try.ntmps41
    go_wp2_with (with_reducible refine wpList_alloc (o := ⟨some 2, _, _, _, _, _⟩) tyPw rfl rfl ?_)
    intro w1 hk1 hb1 hs1
    have HK1 : Kp _ := ⟨hk1⟩
    clear hk1 hs1
    go_wp2_with (with_reducible refine wpList_storeAll (o := ⟨none, _, _, _, _, _⟩) (vs := [Value.bool true, .bool false, .int .i64 1000000]) rwPw rfl (.tmp 2) (.tmp 6) rfl rfl HK1.out HZ.out HV.out (pw_one _) rfl ?_)
    intro w2 hk2 ho2
    go_wp2
    refine ret_arr rfl rwPw rfl hk2 HV.out rfl ?_
    exact ⟨by rw [HN.out], hb1.trans (ho2.below (Nat.le_refl _))⟩
end Go.Proofs.Ytpbpegoobgfjcaa

namespace Go.Proofs.Ytpbpegoobgfjcaa
open Go.RowKit
section
variable {O M : Nat → Prop} {b : Nat} {ad : Ad} {t : Wd} {p : Int × Int → Option Nat} {L : List Hd4} {w : World}

def ctrW (t : Wd) : Nat := if t.lost = true then 0 else t.ctr
set_option maxHeartbeats 400000 in
theorem counter_any (h : Parts w O M b ad t p L) :
    Calls Try.prog 19 #[.pointer (some ⟨b, 0, none⟩)] w fun e w' => e = .returned (.int .u64 (ctrW t : Int)) ∧ w' = w := by
  have c3 : w.cell? ⟨b, 3, none⟩ = some (.int .u64 (t.ctr : Int)) := by rw [h.blk.cell? 3]; rfl
  have HP : Kp _ := ⟨h⟩
  clear h
  cases hl : t.lost
  · have HT : Kp (ctrW t = t.ctr) := ⟨by unfold ctrW; rw [hl]; rfl⟩
    go_enter Try.func19, Try.ntmps19
    go_wp2_with fail
    refine (runs_any b ad t w HP.out.blk).mono ?_
    rintro e w1 ⟨rfl, rfl⟩
    rw [hl]
    go_wp2
    go_ret
    exact ⟨by rw [HT.out]; rfl, rfl⟩
  · have HT : Kp (ctrW t = 0) := ⟨by unfold ctrW; rw [hl]; rfl⟩
    go_enter Try.func19, Try.ntmps19
    go_wp2_with fail
    refine (runs_any b ad t w HP.out.blk).mono ?_
    rintro e w1 ⟨rfl, rfl⟩
    rw [hl]
    go_wp2
    go_ret
    exact ⟨by rw [HT.out]; rfl, rfl⟩

def setW (t : Wd) (n : Nat) : Wd := { t with ctr := n }
set_option maxHeartbeats 400000 in
theorem set_any (h : Parts w O M b ad t p L) (n : Nat) (hn : n < 18446744073709551616) :
    Calls Try.prog 31 #[.pointer (some ⟨b, 0, none⟩), .int .u64 (n : Int)] w fun e w' => e = .returned (.tuple #[]) ∧ Parts w' O M b ad (setW t n) p L ∧ Nx w O w' O := by
  have c3 : w.cell? ⟨b, 3, none⟩ = some (.int .u64 (t.ctr : Int)) := by rw [h.blk.cell? 3]; rfl
  have f3 := h.blk.frozen 3
  have HP : Kp _ := ⟨h⟩
  clear h
  go_enter Try.func31, Try.ntmps31
  go_wp2
  go_end0
  have HO := Only.setCell w ⟨b, 3, none⟩ (.int .u64 (n : Int))
  exact ⟨rfl, HP.out.own HO (HP.out.blk.set 3 _) rfl rfl rfl rfl rfl rfl rfl HP.out.pow hn HP.out.read, Nx.only HO HP.out.ob (fun k hk => HP.out.lt k (HP.out.sub k hk))⟩

def armW (t : Wd) (n : Int) : Wd := if t.lost = true then t else { t with lim := true, lost := false, left := armN n }
def restartW (t : Wd) : Wd := { t with lim := false, lost := false, left := 0 }
/-- behind a change of the three power cells -/
theorem power_parts (h : Parts w O M b ad t p L) (x y : Bool) (n : Nat) (hn : n ≤ 1000000) :
    Parts (((w.setCell ⟨b, 4, none⟩ (.bool x)).setCell ⟨b, 5, none⟩ (.bool y)).setCell ⟨b, 6, none⟩ (.int .i64 (n : Int))) O M b ad { t with lim := x, lost := y, left := n } p L ∧ Nx w O (((w.setCell ⟨b, 4, none⟩ (.bool x)).setCell ⟨b, 5, none⟩ (.bool y)).setCell ⟨b, 6, none⟩ (.int .i64 (n : Int))) O := by
  have HO := ((Only.setCell w ⟨b, 4, none⟩ (.bool x)).trans (Only.setCell _ ⟨b, 5, none⟩ (.bool y))).trans (Only.setCell _ ⟨b, 6, none⟩ (.int .i64 (n : Int)))
  exact ⟨h.own HO (((h.blk.set 4 _).set 5 _).set 6 _) rfl rfl rfl rfl rfl rfl rfl hn h.num h.read, Nx.only HO h.ob (fun k hk => h.lt k (h.sub k hk))⟩
set_option maxHeartbeats 400000 in
theorem restart_any (h : Parts w O M b ad t p L) :
    Calls Try.prog 20 #[.pointer (some ⟨b, 0, none⟩)] w fun e w' => e = .returned (.tuple #[]) ∧ Parts w' O M b ad (restartW t) p L ∧ Nx w O w' O := by
  have c4 : w.cell? ⟨b, 4, none⟩ = some (.bool t.lim) := by rw [h.blk.cell? 4]; rfl
  have c5 : w.cell? ⟨b, 5, none⟩ = some (.bool t.lost) := by rw [h.blk.cell? 5]; rfl
  have c6 : w.cell? ⟨b, 6, none⟩ = some (.int .i64 (t.left : Int)) := by rw [h.blk.cell? 6]; rfl
  have f4 := h.blk.frozen 4
  have f5 := h.blk.frozen 5
  have f6 := h.blk.frozen 6
  have HC : Kp _ := ⟨power_parts h false false 0 (by omega)⟩
  clear h
  go_enter Try.func20, Try.ntmps20
  go_wp2
  go_end0
  exact ⟨rfl, HC.out⟩
set_option maxHeartbeats 400000 in
theorem arm_any (h : Parts w O M b ad t p L) (n : Int) :
    Calls Try.prog 16 #[.pointer (some ⟨b, 0, none⟩), .int .i64 n] w fun e w' => e = .returned (.tuple #[]) ∧ Parts w' O M b ad (armW t n) p L ∧ Nx w O w' O := by
  have HP : Kp _ := ⟨h⟩
  clear h
  cases hl : t.lost
  · have HT : Kp (armW t n = { t with lim := true, lost := false, left := armN n }) := ⟨by unfold armW; rw [hl]; rfl⟩
    go_enter Try.func16, Try.ntmps16
    go_wp2_with fail
    refine (runs_any b ad t w HP.out.blk).mono ?_
    rintro e w1 ⟨rfl, rfl⟩
    rw [hl]
    go_wp2_with fail
    refine (armed_any n w1).mono ?_
    rintro e w2 ⟨rfl, hb2⟩
    have P2 := HP.out.below hb2
    have N2 := (Nx.refl O w1 (fun k hk => HP.out.lt k (HP.out.sub k hk))).below hb2
    have c4 : w2.cell? ⟨b, 4, none⟩ = some (.bool t.lim) := by rw [P2.blk.cell? 4]; rfl
    have c5 : w2.cell? ⟨b, 5, none⟩ = some (.bool t.lost) := by rw [P2.blk.cell? 5]; rfl
    have c6 : w2.cell? ⟨b, 6, none⟩ = some (.int .i64 (t.left : Int)) := by rw [P2.blk.cell? 6]; rfl
    have f4 := P2.blk.frozen 4
    have f5 := P2.blk.frozen 5
    have f6 := P2.blk.frozen 6
    have HC : Kp _ := ⟨power_parts P2 true false (armN n) (armN_le n)⟩
    have HN : Kp _ := ⟨N2⟩
    clear P2 N2 hb2
    go_wp2
    go_end0
    rw [HT.out]
    exact ⟨rfl, HC.out.1, HN.out.trans HC.out.2⟩
  · have HT : Kp (armW t n = t) := ⟨by unfold armW; rw [hl]; rfl⟩
    go_enter Try.func16, Try.ntmps16
    go_wp2_with fail
    refine (runs_any b ad t w HP.out.blk).mono ?_
    rintro e w1 ⟨rfl, rfl⟩
    rw [hl]
    go_wp2
    go_end0
    rw [HT.out]
    exact ⟨rfl, HP.out, Nx.refl O _ (fun k hk => HP.out.lt k (HP.out.sub k hk))⟩
set_option maxHeartbeats 400000 in
theorem blocks_none (w : World) : Calls Try.prog 32 #[.pointer none] w fun e w' => e = .returned (.int .i64 0) ∧ w' = w := by
  go_enter Try.func32, Try.ntmps32
  go_wp2
  go_ret
  exact ⟨rfl, rfl⟩
end
end Go.Proofs.Ytpbpegoobgfjcaa

namespace Go.Proofs.Ytpbpegoobgfjcaa
open Go.RowKit
section
variable {O M : Nat → Prop} {b : Nat} {ad : Ad} {t : Wd} {p : Int × Int → Option Nat} {L : List Hd4} {w : World}

def bumpB (t : Wd) : Bool := !t.lost && (decide (t.ctr < 18446744073709551615) && takeOk t)
def bumpW (t : Wd) : Wd := if t.lost = true then t else if 18446744073709551615 ≤ t.ctr then t else if takeOk t = true then { takeW t with ctr := t.ctr + 1, tr := t.tr ++ [⟨5, 0, 0, []⟩] } else takeW t
theorem takeW_same (t : Wd) : (takeW t).n = t.n ∧ (takeW t).sl = t.sl ∧ (takeW t).s0 = t.s0 ∧ (takeW t).s1 = t.s1 ∧ (takeW t).lies = t.lies ∧ (takeW t).nl = t.nl ∧ (takeW t).tr = t.tr ∧ (takeW t).ctr = t.ctr ∧ (takeW t).reads = t.reads := by
  unfold takeW
  split
  · split <;> exact ⟨rfl, rfl, rfl, rfl, rfl, rfl, rfl, rfl, rfl⟩
  · exact ⟨rfl, rfl, rfl, rfl, rfl, rfl, rfl, rfl, rfl⟩
theorem took_parts {w' : World} (h : Parts w O M b ad t p L) (hb : Blk w' b 75 (wdCells ad (takeW t))) (ho : Only b w w') : Parts w' O M b ad (takeW t) p L ∧ Nx w O w' O := by
  obtain ⟨q1, q2, q3, q4, q5, q6, q7, q8, q9⟩ := takeW_same t
  exact ⟨h.own ho hb q1 q2 q3 q4 q5 q6 q7 (takeW_left t h.pow) (by rw [q8]; exact h.num) (by rw [q9]; exact h.read), Nx.only ho h.ob (fun k hk => h.lt k (h.sub k hk))⟩
theorem ctr_parts (h : Parts w O M b ad t p L) (n : Nat) (hn : n < 18446744073709551616) : Parts (w.setCell ⟨b, 3, none⟩ (.int .u64 (n : Int))) O M b ad { t with ctr := n } p L ∧ Nx w O (w.setCell ⟨b, 3, none⟩ (.int .u64 (n : Int))) O := by
  have ho := Only.setCell w ⟨b, 3, none⟩ (.int .u64 (n : Int))
  exact ⟨h.own ho (h.blk.set 3 _) rfl rfl rfl rfl rfl rfl rfl h.pow hn h.read, Nx.only ho h.ob (fun k hk => h.lt k (h.sub k hk))⟩

set_option maxRecDepth 100000 in
set_option maxHeartbeats 1000000 in
theorem bump_any (h : Parts w O M b ad t p L) (hlen : t.tr.length ≤ 1000000) :
    Calls Try.prog 18 #[.pointer (some ⟨b, 0, none⟩)] w fun e w' => e = .returned (.bool (bumpB t)) ∧ ∃ ad' L' O', Parts w' O' (Or2 M O') b ad' (bumpW t) p L' ∧ Nx w O w' O' := by
  have c3 : w.cell? ⟨b, 3, none⟩ = some (.int .u64 (t.ctr : Int)) := by rw [h.blk.cell? 3]; rfl
  have HP : Kp _ := ⟨h⟩
  have hnum := h.num
  clear h
  cases hl : t.lost
  · by_cases hc : 18446744073709551615 ≤ t.ctr
    · have HT : Kp (bumpW t = t ∧ bumpB t = false) := ⟨by unfold bumpW bumpB; rw [hl, if_neg (by decide), if_pos hc, decide_eq_false (by omega)]; exact ⟨rfl, rfl⟩⟩
      have he : ((t.ctr : Int) == 18446744073709551615) = true := by rw [beq_iff_eq]; omega
      have HC : Kp _ := ⟨And.intro hc hnum⟩
      clear hc hnum
      go_enter Try.func18, Try.ntmps18
      go_wp2_with fail
      refine (runs_any b ad t w HP.out.blk).mono ?_
      rintro e w1 ⟨rfl, rfl⟩
      rw [hl]
      go_wp2
      go_ret
      rw [HT.out.1, HT.out.2]
      exact ⟨rfl, ad, L, O, HP.out.stayO, HP.out.nx⟩
    · have he : ((t.ctr : Int) == 18446744073709551615) = false := by rw [beq_eq_false_iff_ne]; omega
      cases htk : takeOk t
      · have HT : Kp (bumpW t = takeW t ∧ bumpB t = false) := ⟨by unfold bumpW bumpB; rw [hl, if_neg (by decide), if_neg hc, if_neg (by rw [htk]; decide), htk]; simp⟩
        have HC : Kp _ := ⟨And.intro hc hnum⟩
        clear hc hnum
        go_enter Try.func18, Try.ntmps18
        go_wp2_with fail
        refine (runs_any b ad t w HP.out.blk).mono ?_
        rintro e w1 ⟨rfl, rfl⟩
        rw [hl]
        go_wp2_with fail
        refine (take_any b ad t w1 HP.out.blk HP.out.pow).mono ?_
        rintro e w2 ⟨rfl, hb2, ho2⟩
        have HR : Kp _ := ⟨took_parts HP.out hb2 ho2⟩
        clear hb2 ho2 c3
        rw [htk]
        go_wp2
        go_ret
        rw [HT.out.1, HT.out.2]
        exact ⟨rfl, ad, L, O, HR.out.1.stayO, HR.out.2⟩
      · have HT : Kp (bumpW t = { takeW t with ctr := t.ctr + 1, tr := t.tr ++ [⟨5, 0, 0, []⟩] } ∧ bumpB t = true) := ⟨by unfold bumpW bumpB; rw [hl, if_neg (by decide), if_neg hc, if_pos htk, htk, decide_eq_true (by omega)]; exact ⟨rfl, rfl⟩⟩
        have HC : Kp (t.ctr + 1 < 18446744073709551616) := ⟨by omega⟩
        have hw : IntKind.u64.wrap ((t.ctr : Int) + 1) = ((t.ctr + 1 : Nat) : Int) := by
          rw [show (t.ctr : Int) + 1 = ((t.ctr + 1 : Nat) : Int) by omega, wrap_u64_nat, Nat.mod_eq_of_lt HC.out]
        clear hc hnum
        go_enter Try.func18, Try.ntmps18
        go_wp2_with fail
        refine (runs_any b ad t w HP.out.blk).mono ?_
        rintro e w1 ⟨rfl, rfl⟩
        rw [hl]
        go_wp2_with fail
        refine (take_any b ad t w1 HP.out.blk HP.out.pow).mono ?_
        rintro e w2 ⟨rfl, hb2, ho2⟩
        have HR : Kp _ := ⟨took_parts HP.out hb2 ho2⟩
        have d3 : w2.cell? ⟨b, 3, none⟩ = some (.int .u64 (t.ctr : Int)) := by rw [hb2.cell? 3]; show some (Value.int .u64 ((takeW t).ctr : Int)) = _; rw [(takeW_same t).2.2.2.2.2.2.2.1]
        have f3 := hb2.frozen 3
        have HR3 : Kp _ := ⟨ctr_parts HR.out.1 (t.ctr + 1) HC.out⟩
        clear hb2 ho2 c3
        rw [htk]
        go_wp2_with fail
        refine (note_any HR3.out.1 ⟨5, 0, 0, []⟩ ⟨.inr (.inr (.inr (.inr ⟨rfl, rfl, rfl, rfl⟩))), rfl, rfl⟩ none 0 0 (Bs.zero _ _) (by omega) (by rw [(takeW_same t).2.2.2.2.2.2.1]; exact hlen)).mono ?_
        rintro e w4 ⟨rfl, ad4, L4, O4, P4, N4⟩
        have HP4 : Kp _ := ⟨P4⟩
        have HN4 : Kp _ := ⟨HR.out.2.trans (HR3.out.2.trans N4)⟩
        clear P4 N4
        go_wp2
        go_ret
        rw [HT.out.1, HT.out.2]
        refine ⟨rfl, ad4, L4, O4, ?_, HN4.out⟩
        have h4 := HP4.out
        rw [(takeW_same t).2.2.2.2.2.2.1] at h4
        exact h4
  · have HT : Kp (bumpW t = t ∧ bumpB t = false) := ⟨by unfold bumpW bumpB; rw [hl]; exact ⟨rfl, rfl⟩⟩
    go_enter Try.func18, Try.ntmps18
    go_wp2_with fail
    refine (runs_any b ad t w HP.out.blk).mono ?_
    rintro e w1 ⟨rfl, rfl⟩
    rw [hl]
    go_wp2
    go_ret
    rw [HT.out.1, HT.out.2]
    exact ⟨rfl, ad, L, O, HP.out.stayO, HP.out.nx⟩
end
end Go.Proofs.Ytpbpegoobgfjcaa
