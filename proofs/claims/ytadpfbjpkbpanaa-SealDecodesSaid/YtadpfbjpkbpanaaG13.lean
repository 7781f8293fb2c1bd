/- The contract of Decode.
   What the chapter's example fixes: known.
   The contract of the document's Flip.
   The contracts of the document's Long, Slot and Right.
   The contract of the document's Right.
   Bits that are turned, as plain data. No program is named here. -/
import Derived.Test.YtadpfbjpkbpanaaG12
import Derived.Test.YtadpfbjpkbpanaaG08
import Derived.Test.YtadpfbjpkbpanaaG04
import Derived.Test.YtadpfbjpkbpanaaG07
namespace Go.Proofs.Ytadpfbjpkbpanaa
open Go.RowKit

section
variable {P : Program} {w : World} {a : Act} {t : TypeId}
/-- two results, the first one of many cells -/
theorem ret_two {fn : Func} {R : Ending → World → Prop} {p q : Tmp} {d : TypeDesc} {n : Nat} (hr : fn.results = #[.cell p t, .tmp q]) (E : Rw P t d n) {g : Nat} {t' : TypeId} {cs : List Value} {v2 : Value} (hx : a.tmps.getD p undef = .pointer (some ⟨g, 0, none⟩)) (hq : a.tmps.getD q undef = v2) (hb : Blk w g t' cs) (hn : cs.length = n) (hd : a.defers = [])
    (h : R (.returned (.tuple #[.agg cs.toArray, v2])) w) : bodyPost P fn R .ret a w := by
  have hl := run_load_rw (w := w) E hb (off := 0) (by omega)
  simp only [Instr.loadAt, Instr.sureAddr, Sem.run_bind, Sem.run_pure, Result.andThen_ok] at hl
  have e : (cs.drop 0).take n = cs := by rw [List.drop_zero, List.take_of_length_le (by omega)]
  rw [e] at hl
  have hx' : a.tmps[p]?.getD undef = .pointer (some ⟨g, 0, none⟩) := by simpa using hx
  have hq' : a.tmps[q]?.getD undef = v2 := by simpa using hq
  exact bodyPost_ret (v := .tuple #[.agg cs.toArray, v2]) (by simp only [results, hr]; simp [hx', hq', asAddr, hl]) hd h
end
/-- what is taken, or the record of noughts; the error -/
def decR (o : Option Rc) : Rc := match o with | some r => r | none => rc0
def decF (o : Option Rc) : Int := match o with | some _ => 0 | none => 5
theorem rg_of {w : World} {B : Nat} {A D : Option Addr} {n c m e : Nat} {r : Rc} (h : Rs w B A n c D m e r) : Rg r := ⟨h.num, h.su.wide⟩
theorem dec_no {key l : List UInt8} (h : ¬ IsEnc key l (readL l)) : decO key l = none := by
  rcases decO_read key l with ⟨h1, _⟩ | ⟨_, h2⟩
  · exact h1
  · exact absurd h2 h

/-- a record's rows stay, when the record of another variable is written whole -/
theorem Ds.over {w w' : World} {B g n c num n2 c2 m e : Nat} {t : TypeId} {A A2 D : Option Addr} {blk : Int} {ds : List (List UInt8)} (h : Ds w B A n c ds) (ho : Only g w w') (hk : Blk w g t (rcL num blk A2 n2 c2 D m e)) : Ds w' B A n c ds :=
  ⟨h.len, h.cap, h.max, h.nil, h.wide, fun h0 => by
    obtain ⟨b, o, hA, hb, hc⟩ := h.cells h0
    refine ⟨b, o, hA, hb, fun i hi j u hu => ?_⟩
    rw [← hc i hi j u hu]
    refine World.cell?_of_block (w := w) (ho.block b fun e => ?_)
    have h1 := hc 0 (by omega) 0 _ (cells8_at _ 0 (by rw [h.wide _ (List.getElem_mem _)]; omega))
    rw [e, hk.cell?] at h1
    match o, h1 with
    | 0, h1 => simp at h1
    | 1, h1 => simp at h1
    | 2, h1 => simp at h1
    | 3, h1 => simp at h1
    | o + 4, h1 => simp at h1⟩
theorem Rs.over {w w' : World} {g n c num n2 c2 m e m2 e2 : Nat} {t : TypeId} {A A2 D D2 : Option Addr} {blk : Int} {r : Rc} (h : Rs w w.heap.size A n c D m e r) (ho : Only g w w') (hk : Blk w g t (rcL num blk A2 n2 c2 D2 m2 e2)) : Rs w' w'.heap.size A n c D m e r :=
  ⟨h.num, h.blk, (h.sl.over' ho hk).more (by rw [ho.size]; exact Nat.le_refl _), (h.su.over ho hk).more (by rw [ho.size]; exact Nat.le_refl _)⟩

set_option maxRecDepth 100000 in
set_option maxHeartbeats 4000000 in
theorem decode_any (key : List UInt8) (KA : Option Addr) (kn kc : Nat) (A : Option Addr) (n c : Nat) (l : List UInt8) (w : World) (hK : Bs w w.heap.size KA kn kc key) (ha : Bs w w.heap.size A n c l) (hkn : kn ≤ 524288) (hn : n ≤ 1000000) :
    Calls Try.prog 23 #[.slice KA kn kc, .slice A n c] w fun x w' => ∃ A' n' c' D m e, x = .returned (.tuple #[rcV (decR (decO key l)) A' n' c' D m e, .int .i64 (decF (decO key l))]) ∧ Rs w' w'.heap.size A' n' c' D m e (decR (decO key l)) ∧ n' ≤ 1000000 ∧ m ≤ 1000000 ∧ Below w.heap.size w w' := by
  have HK : Kp _ := ⟨hK⟩
  have HA : Kp _ := ⟨ha⟩
  have HN : Kp _ := ⟨hn⟩
  have HKn : Kp _ := ⟨hkn⟩
  clear hK ha hn hkn
  go_enter Try.func23, Try.ntmps23
  go_wp2_with (with_reducible refine wpList_alloc (o := ⟨some 4, _, _, _, _, _⟩) tySeal rfl rfl ?_)
  intro w1 hk1 hb1 hs1
  have HK1 : Kp _ := ⟨HK.out.next hb1 (Nat.le_refl _)⟩
  have HA1 : Kp _ := ⟨HA.out.next hb1 (Nat.le_refl _)⟩
  have HKr : Kp _ := ⟨hk1⟩
  have HB1 : Kp _ := ⟨hb1⟩
  clear hk1 hb1 hs1 HK HA
  go_wp2_with fail
  refine (read_any A n c l w1 HA1.out HN.out).mono ?_
  rintro x w2 ⟨A2, n2, c2, D2, m2, e2, rfl, hr2, hn2, hm2, hb2⟩
  have HK2 : Kp _ := ⟨HK1.out.next hb2 (Nat.le_refl _)⟩
  have HA2 : Kp _ := ⟨HA1.out.next hb2 (Nat.le_refl _)⟩
  have HKr2 : Kp _ := ⟨HKr.out.below hb2 HKr.out.lt⟩
  have HB2 : Kp (Below w.heap.size w w2) := ⟨HB1.out.trans (hb2.mono HB1.out.size)⟩
  have HR2 : Kp _ := ⟨hr2⟩
  have HN2 : Kp (n2 ≤ 1000000 ∧ m2 ≤ 1000000) := ⟨by have := HN.out; omega, by have := HN.out; omega⟩
  have HE : Kp (¬ IsEnc key l (readL l) → decO key l = none) := ⟨dec_no⟩
  have HI : Kp (Rg (readL l) → Rt (readL l) → encL key (readL l) = l → decO key l = some (readL l)) := ⟨fun h1 h2 h3 => decO_of key l _ ⟨h1, h2, h3⟩⟩
  clear hr2 hn2 hm2 hb2 HK1 HA1 HKr HB1
  generalize readL l = r at *
  go_wp2_with (with_reducible refine wpList_alloc (o := ⟨some 6, _, _, _, _, _⟩) tySeal rfl rfl ?_)
  intro w3 hk3 hb3 hs3
  have HK3 : Kp _ := ⟨hk3⟩
  have HB3 : Kp _ := ⟨hb3⟩
  clear hk3 hb3 hs3
  go_wp2_with (with_reducible refine wpList_storeAll (o := ⟨none, _, _, _, _, _⟩) (vs := rcL r.num r.blk A2 n2 c2 D2 m2 e2) rwSeal rfl (.tmp 6) (.tmp 10) rfl rfl HK3.out rfl rfl (rcL_one _ _ _ _ _ _ _ _) rfl ?_)
  intro w4 hk4 ho4
  have hb24 : Below w2.heap.size w2 w4 := HB3.out.trans (ho4.below (Nat.le_refl _))
  have HKx : Kp _ := ⟨hk4⟩
  have HK4 : Kp _ := ⟨HK2.out.next hb24 (Nat.le_refl _)⟩
  have HA4 : Kp _ := ⟨HA2.out.next hb24 (Nat.le_refl _)⟩
  have HR4 : Kp _ := ⟨HR2.out.next hb24 (Nat.le_refl _)⟩
  have HKr4 : Kp _ := ⟨HKr2.out.below hb24 HKr2.out.lt⟩
  have HB4 : Kp (Below w.heap.size w w4) := ⟨HB2.out.trans (hb24.mono HB2.out.size)⟩
  clear hk4 ho4 hb24 HK3 HB3 HK2 HA2 HR2 HKr2 HB2
  go_wp2_with (with_reducible refine wpList_loadAll (o := ⟨some 13, _, _, _, _, _⟩) rwSeal rfl (.tmp 6) rfl rfl HKx.out rfl ?_)
  refine (encode_any key KA kn kc r A2 n2 c2 D2 m2 e2 w4 HK4.out HR4.out HKn.out).mono ?_
  rintro x w5 ⟨hb5, hcase⟩
  have HKx5 : Kp _ := ⟨HKx.out.below hb5 HKx.out.lt⟩
  have HA5 : Kp _ := ⟨HA4.out.next hb5 (Nat.le_refl _)⟩
  have HR5 : Kp _ := ⟨HR4.out.next hb5 (Nat.le_refl _)⟩
  have HKr5 : Kp _ := ⟨HKr4.out.below hb5 HKr4.out.lt⟩
  have HB5 : Kp (Below w.heap.size w w5) := ⟨HB4.out.trans (hb5.mono HB4.out.size)⟩
  clear hb5 HKx HK4 HA4 HR4 HKr4 HB4
  rcases hcase with ⟨ht, rfl⟩ | ⟨ht, Ae, ce, rfl, hbe⟩
  · have HD : Kp (decO key l = none) := ⟨HE.out fun h => ht h.2.1⟩
    clear ht
    go_wp2_with (with_reducible refine wpList_storeAll (o := ⟨none, _, _, _, _, _⟩) (vs := rcZ) rwSeal rfl (.tmp 4) (.tmp 25) rfl rfl HKr5.out rfl rfl (rcL_one _ _ _ _ _ _ _ _) rfl ?_)
    intro w9 hk9 ho9
    have HK9 : Kp _ := ⟨hk9⟩
    have HB9 : Kp (Below w.heap.size w w9) := ⟨HB5.out.trans (ho9.below (Nat.le_refl _))⟩
    clear hk9 ho9
    go_wp2
    refine ret_two rfl rwSeal rfl rfl HK9.out rfl rfl ?_
    rw [HD.out]
    exact ⟨none, 0, 0, none, 0, 0, rfl, Rs.zero _ _, by omega, by omega, HB9.out⟩
  · have HT : Kp _ := ⟨ht⟩
    have HBe : Kp _ := ⟨hbe⟩
    clear ht hbe
    go_wp2_with fail
    refine (equal_any Ae A _ ce n c (encL key r) l w5 HBe.out HA5.out).mono ?_
    rintro x w6 ⟨rfl, hb6⟩
    have HKx6 : Kp _ := ⟨HKx5.out.below hb6 HKx5.out.lt⟩
    have HR6 : Kp _ := ⟨HR5.out.next hb6 (Nat.le_refl _)⟩
    have HKr6 : Kp _ := ⟨HKr5.out.below hb6 HKr5.out.lt⟩
    have HB6 : Kp (Below w.heap.size w w6) := ⟨HB5.out.trans (hb6.mono HB5.out.size)⟩
    clear hb6 HKx5 HR5 HKr5 HB5 HA5 HBe
    by_cases hq : encL key r = l
    · have HD : Kp (decO key l = some r) := ⟨HI.out (rg_of HR6.out) HT.out hq⟩
      have hbq : (encL key r == l) = true := by rw [hq]; simp
      rw [hbq]
      clear hbq hq
      go_wp2_with (first
        | (with_reducible refine wpList_loadAll (o := ⟨some 26, _, _, _, _, _⟩) rwSeal rfl (.tmp 6) rfl rfl HKx6.out rfl ?_)
        | (with_reducible refine wpList_storeAll (o := ⟨none, _, _, _, _, _⟩) (vs := rcL r.num r.blk A2 n2 c2 D2 m2 e2) rwSeal rfl (.tmp 4) (.tmp 26) rfl rfl HKr6.out rfl rfl (rcL_one _ _ _ _ _ _ _ _) rfl ?_))
      intro w9 hk9 ho9
      have HK9 : Kp _ := ⟨hk9⟩
      have HB9 : Kp (Below w.heap.size w w9) := ⟨HB6.out.trans (ho9.below (Nat.le_refl _))⟩
      have HR9 : Kp (Rs w9 w9.heap.size A2 n2 c2 D2 m2 e2 r) := ⟨HR6.out.over ho9 HKr6.out⟩
      clear hk9 ho9
      go_wp2
      refine ret_two rfl rwSeal rfl rfl HK9.out rfl rfl ?_
      rw [HD.out]
      exact ⟨A2, n2, c2, D2, m2, e2, rfl, HR9.out, HN2.out.1, HN2.out.2, HB9.out⟩
    · have HD : Kp (decO key l = none) := ⟨HE.out fun h => hq h.2.2⟩
      have hbq : (encL key r == l) = false := by rw [Bool.eq_false_iff]; exact fun h => hq (eq_of_beq h)
      rw [hbq]
      clear hbq hq
      go_wp2_with (with_reducible refine wpList_storeAll (o := ⟨none, _, _, _, _, _⟩) (vs := rcZ) rwSeal rfl (.tmp 4) (.tmp 25) rfl rfl HKr6.out rfl rfl (rcL_one _ _ _ _ _ _ _ _) rfl ?_)
      intro w9 hk9 ho9
      have HK9 : Kp _ := ⟨hk9⟩
      have HB9 : Kp (Below w.heap.size w w9) := ⟨HB6.out.trans (ho9.below (Nat.le_refl _))⟩
      clear hk9 ho9
      go_wp2
      refine ret_two rfl rwSeal rfl rfl HK9.out rfl rfl ?_
      rw [HD.out]
      exact ⟨none, 0, 0, none, 0, 0, rfl, Rs.zero _ _, by omega, by omega, HB9.out⟩
end Go.Proofs.Ytadpfbjpkbpanaa

namespace Go.Proofs.Ytadpfbjpkbpanaa
open Go.RowKit

section
variable {P : Program} {w : World} {t e : TypeId} {z : Value} {bytes : Nat} {g : Nat} {C : Array Value} {fr : Nat × Nat}
theorem wpList_mark {ops : Array Oper} {rest : List Oper} {o : Oper} {a : Act} {Q : Exit → Act → World → Prop} (E : El P t e z bytes) (he : P.underlying e = some (.int .u8)) (hg : Region.wanted o (yielded ops a.tmps) = true) (x : Operand) (hop : o.op = .convert t t x) {n c : Nat} (hx : a.eval x = .slice (some ⟨g, 0, none⟩) n c) (hh : w.heap[g]? = some (.cells C e fr))
    (h : ∀ w' fr2, w'.heap[g]? = some (.cells C e fr2) → Only g w w' → (∀ p : Addr, w'.cell? p = w.cell? p) → wpList P ops Q rest (a.put o.dst (.slice (some ⟨g, 0, none⟩) n c)) w') : wpList P ops Q (o :: rest) a w := by
  refine wpList_step fun K hK => ?_
  rw [if_pos hg]
  obtain ⟨w', fr2, hrun, h1, h2⟩ := run_mark E he hh n c
  unfold Oper.wp
  simp only [execOp, hop, hx, Sem.run_bind, hrun, Result.andThen_ok, Sem.run_pure]
  exact hK _ _ (h w' fr2 h1 h2 (same_cells hh h1 h2))
end
section
variable {P : Program} {w : World} {ops : Array Oper} {rest : List Oper} {o : Oper} {a : Act} {Q : Exit → Act → World → Prop} {t : TypeId}
/-- a whole block, read; the operation is guarded -/
theorem wpList_loadAll_g {d : TypeDesc} {n : Nat} (E : Rw P t d n) (hg : Region.wanted o (yielded ops a.tmps) = true) (x : Operand) (hop : o.op = .load t x) {g : Nat} {t' : TypeId} {cs : List Value} (hx : a.eval x = .pointer (some ⟨g, 0, none⟩)) (hb : Blk w g t' cs) (hn : cs.length = n)
    (h : wpList P ops Q rest (a.put o.dst (.agg cs.toArray)) w) : wpList P ops Q (o :: rest) a w := by
  have hl := run_load_rw (w := w) E hb (off := 0) (by omega)
  have e : (cs.drop 0).take n = cs := by rw [List.drop_zero, List.take_of_length_le (by omega)]
  rw [e] at hl
  refine wpList_step fun K hK => ?_
  rw [if_pos hg]
  unfold Oper.wp
  simp only [execOp, hop, hx, Sem.run_bind, hl, Result.andThen_ok, Sem.run_pure]
  exact hK _ _ h
end
def z32L : List UInt8 := List.replicate 32 0
def exR : Rc := ⟨3, 1, [1], [z32L]⟩
theorem exR_right : Rt exR := ⟨by decide, by decide, rfl, rfl, fun i h1 h2 => by
  have h1' : 1 ≤ i := h1
  have h2' : i < 8 := h2
  have : i = 1 ∨ i = 2 ∨ i = 3 ∨ i = 4 ∨ i = 5 ∨ i = 6 ∨ i = 7 := by omega
  rcases this with rfl | rfl | rfl | rfl | rfl | rfl | rfl <;> decide⟩
theorem exR_rg : Rg exR := ⟨by decide, fun d hd => by simp [exR] at hd; subst hd; rfl⟩
theorem ds_one {w : World} {g : Nat} {t : TypeId} (l : List UInt8) (hl : l.length = 32) (h : Blk w g t (cells8 l)) : Ds w w.heap.size (some ⟨g, 0, none⟩) 1 1 [l] :=
  ⟨rfl, Nat.le_refl _, by decide, (fun h => by cases h), (fun d hd => by simp at hd; subst hd; exact hl), fun _ => ⟨g, 0, rfl, h.lt, fun i hi j u hu => by
    obtain rfl : i = 0 := by simp at hi; omega
    rw [h.cell?]
    simpa using hu⟩⟩
theorem z32_cells : Kp ((cells8 z32L).length = 32) := ⟨rfl⟩

set_option maxRecDepth 100000 in
set_option maxHeartbeats 4000000 in
theorem known8_any (w : World) : Calls Try.prog 11 #[] w fun e w' => e = .returned (.bool true) ∧ Below w.heap.size w w' := by
  obtain ⟨w1, hw1⟩ : ∃ x, x = w.alloc (.cells #[.int .u8 1] 5) := ⟨_, rfl⟩
  obtain ⟨w2, hw2⟩ : ∃ x, x = w1.alloc (.cells #[.int .u8 0, .int .u8 0, .int .u8 0, .int .u8 0, .int .u8 0, .int .u8 0, .int .u8 0, .int .u8 0, .int .u8 0, .int .u8 0, .int .u8 0, .int .u8 0, .int .u8 0, .int .u8 0, .int .u8 0, .int .u8 0, .int .u8 0, .int .u8 0, .int .u8 0, .int .u8 0, .int .u8 0, .int .u8 0, .int .u8 0, .int .u8 0, .int .u8 0, .int .u8 0, .int .u8 0, .int .u8 0, .int .u8 0, .int .u8 0, .int .u8 0, .int .u8 0] 57) := ⟨_, rfl⟩
  obtain ⟨w4, hw4⟩ : ∃ x, x = w2.alloc (.cells #[.int .u64 3, .int .i64 1, .slice (some ⟨w.heap.size, 0, none⟩) 1 1, .slice (some ⟨w.heap.size + 1, 0, none⟩) 1 1] 26) := ⟨_, rfl⟩
  have hs1 : Bs w1 w1.heap.size (some ⟨w.heap.size, 0, none⟩) 1 1 [1] := by rw [hw1]; exact (lit_bs w 5 (0, 0) [1] _ rfl 1 rfl (by decide)).more (by simp)
  have hb1 : Below w.heap.size w w1 := by rw [hw1]; exact (Below.refl _ _).alloc (Nat.le_refl _) _
  have hz1 : w1.heap.size = w.heap.size + 1 := by rw [hw1]; simp
  have hk2 : Blk w2 w1.heap.size 57 (cells8 z32L) := by rw [hw2]; exact Blk.new w1 _ _
  have hb2 : Below w1.heap.size w1 w2 := by rw [hw2]; exact (Below.refl _ _).alloc (Nat.le_refl _) _
  have hz2 : w2.heap.size = w.heap.size + 1 + 1 := by rw [hw2, ← hz1]; simp
  have HR2 : Kp (Rs w2 w2.heap.size (some ⟨w.heap.size, 0, none⟩) 1 1 (some ⟨w1.heap.size, 0, none⟩) 1 1 exR) := ⟨⟨by decide, by decide, hs1.next hb2 (Nat.le_refl _), ds_one z32L rfl hk2⟩⟩
  rw [hz1] at HR2
  have HB2 : Kp (Below w.heap.size w w2) := ⟨hb1.trans (hb2.mono hb1.size)⟩
  have hk4 : Blk w4 w2.heap.size 26 (rcL 3 1 (some ⟨w.heap.size, 0, none⟩) 1 1 (some ⟨w.heap.size + 1, 0, none⟩) 1 1) := by rw [hw4]; exact Blk.new w2 _ _
  have hb24 : Below w2.heap.size w2 w4 := by rw [hw4]; exact (Below.refl _ _).alloc (Nat.le_refl _) _
  rw [hz2] at hk4
  have HX4 : Kp _ := ⟨hk4⟩
  have HR4 : Kp _ := ⟨HR2.out.next hb24 (Nat.le_refl _)⟩
  have HB4 : Kp (Below w.heap.size w w4) := ⟨HB2.out.trans (hb24.mono HB2.out.size)⟩
  have hz4 : w4.heap.size = w.heap.size + 1 + 1 + 1 := by rw [hw4, ← hz2]; simp
  have HZ4 : Kp (w4.heap.size = w.heap.size + 1 + 1 + 1) := ⟨hz4⟩
  have HA4 : Kp (Below w4.heap.size w4 (w4.alloc (.cells #[.int .u8 107] 5))) := ⟨(Below.refl _ _).alloc (Nat.le_refl _) _⟩
  have HH : Kp ((w4.alloc (.cells #[.int .u8 107] 5)).heap[w.heap.size + 1 + 1 + 1]? = some (.cells (cells8 [107]).toArray 5 (0, 0))) := ⟨by rw [← hz4]; exact heap_alloc_new w4 _⟩
  have HW4 : Kp (w4 = ((w.alloc (.cells #[.int .u8 1] 5)).alloc (.cells #[.int .u8 0, .int .u8 0, .int .u8 0, .int .u8 0, .int .u8 0, .int .u8 0, .int .u8 0, .int .u8 0, .int .u8 0, .int .u8 0, .int .u8 0, .int .u8 0, .int .u8 0, .int .u8 0, .int .u8 0, .int .u8 0, .int .u8 0, .int .u8 0, .int .u8 0, .int .u8 0, .int .u8 0, .int .u8 0, .int .u8 0, .int .u8 0, .int .u8 0, .int .u8 0, .int .u8 0, .int .u8 0, .int .u8 0, .int .u8 0, .int .u8 0, .int .u8 0] 57)).alloc (.cells #[.int .u64 3, .int .i64 1, .slice (some ⟨w.heap.size, 0, none⟩) 1 1, .slice (some ⟨w.heap.size + 1, 0, none⟩) 1 1] 26)) := ⟨by rw [hw4, hw2, hw1]⟩
  rw [HW4.out] at HH
  clear hw1 hw2 hw4 hs1 hb1 hz1 hk2 hb2 hz2 HR2 HB2 hk4 hb24 hz4
  go_enter Try.func11, Try.ntmps11
  go_wp2_with (with_reducible refine wpList_mark (o := ⟨some 12, _, _, _, _, _⟩) el8 Try.underlying5 (by kernel_rfl) (.tmp 11) rfl rfl HH.out ?_)
  intro w5 fr5 fr6 hh5 ho5 _
  have ho5' : Only (w.heap.size + 1 + 1 + 1) (w4.alloc (.cells #[.int .u8 107] 5)) w5 := by rw [HW4.out]; exact ho5
  have hb5 : Below w4.heap.size w4 w5 := HA4.out.trans (ho5'.below (by rw [HZ4.out]; exact Nat.le_refl _))
  have HK5 : Kp (Bs w5 w5.heap.size (some ⟨w.heap.size + 1 + 1 + 1, 0, none⟩) 1 1 [107]) := ⟨raw_bs hh5 [107] rfl 1 rfl (by decide)⟩
  have HX5 : Kp _ := ⟨HX4.out.below hb5 (by rw [HZ4.out]; omega)⟩
  have HR5 : Kp _ := ⟨HR4.out.next hb5 (Nat.le_refl _)⟩
  have HB5 : Kp (Below w.heap.size w w5) := ⟨HB4.out.trans (hb5.mono HB4.out.size)⟩
  clear hh5 ho5 ho5' hb5 HX4 HR4 HB4 HH HA4 HW4
  go_wp2_with (with_reducible refine wpList_loadAll (o := ⟨some 13, _, _, _, _, _⟩) rwSeal rfl (.tmp 1) rfl rfl HX5.out rfl ?_)
  refine (encode_any [107] _ 1 1 exR _ 1 1 _ 1 1 w5 HK5.out HR5.out (by omega)).mono ?_
  rintro x w6 ⟨hb6, hcase⟩
  rcases hcase with ⟨ht, _⟩ | ⟨_, Ae, ce, rfl, hbe⟩
  · exact absurd exR_right ht
  have HE6 : Kp _ := ⟨hbe⟩
  have HX6 : Kp _ := ⟨HX5.out.below hb6 HX5.out.lt⟩
  have HR6 : Kp _ := ⟨HR5.out.next hb6 (Nat.le_refl _)⟩
  have HB6 : Kp (Below w.heap.size w w6) := ⟨HB5.out.trans (hb6.mono HB5.out.size)⟩
  have HD : Kp (decO [107] (encL [107] exR) = some exR) := ⟨decO_of _ _ exR ⟨exR_rg, exR_right, rfl⟩⟩
  have HL : Kp ((encL [107] exR).length ≤ 1000000) := ⟨by rw [encL_len _ _ exR_rg]; decide⟩
  clear hbe hb6 HX5 HR5 HB5 HK5
  generalize encL [107] exR = enc at *
  go_wp2_with (with_reducible refine wpList_lit (o := ⟨some 19, _, _, _, _, _⟩) el8 Try.underlying5 (by kernel_rfl) (.tmp 18) rfl [107] rfl 1 rfl (by decide) rfl ?_)
  intro w7 hbs7 hb7
  have HK7 : Kp _ := ⟨hbs7⟩
  have HE7 : Kp _ := ⟨HE6.out.next hb7 (Nat.le_refl _)⟩
  have HX7 : Kp _ := ⟨HX6.out.below hb7 HX6.out.lt⟩
  have HR7 : Kp _ := ⟨HR6.out.next hb7 (Nat.le_refl _)⟩
  have HB7 : Kp (Below w.heap.size w w7) := ⟨HB6.out.trans (hb7.mono HB6.out.size)⟩
  clear hbs7 hb7 HE6 HX6 HR6 HB6
  go_wp2_with fail
  refine (decode_any [107] _ 1 1 Ae _ ce enc w7 HK7.out HE7.out (by omega) HL.out).mono ?_
  rintro x w8 ⟨A8, n8, c8, D8, m8, e8, rfl, hr8, _, _, hb8⟩
  rw [HD.out] at hr8 ⊢
  have HY8 : Kp (Rs w8 w8.heap.size A8 n8 c8 D8 m8 e8 exR) := ⟨hr8⟩
  have HX8 : Kp _ := ⟨HX7.out.below hb8 HX7.out.lt⟩
  have HR8 : Kp _ := ⟨HR7.out.next hb8 (Nat.le_refl _)⟩
  have HB8 : Kp (Below w.heap.size w w8) := ⟨HB7.out.trans (hb8.mono HB7.out.size)⟩
  clear hr8 hb8 HX7 HR7 HB7 HE7 HK7
  go_wp2_with (with_reducible refine wpList_alloc (o := ⟨some 4, _, _, _, _, _⟩) tySeal rfl rfl ?_)
  intro w9 hk9 hb9 hz9
  have HK9 : Kp _ := ⟨hk9⟩
  have HB9 : Kp _ := ⟨hb9⟩
  clear hk9 hb9 hz9
  go_wp2_with (with_reducible refine wpList_storeAll (o := ⟨none, _, _, _, _, _⟩) (vs := rcL 3 1 A8 n8 c8 D8 m8 e8) rwSeal rfl (.tmp 4) (.tmp 22) rfl rfl HK9.out rfl rfl (rcL_one _ _ _ _ _ _ _ _) rfl ?_)
  intro w10 hk10 ho10
  have hb810 : Below w8.heap.size w8 w10 := HB9.out.trans (ho10.below (Nat.le_refl _))
  have HYx : Kp _ := ⟨hk10⟩
  have HX10 : Kp _ := ⟨HX8.out.below hb810 HX8.out.lt⟩
  have HR10 : Kp _ := ⟨HR8.out.next hb810 (Nat.le_refl _)⟩
  have HY10 : Kp _ := ⟨HY8.out.next hb810 (Nat.le_refl _)⟩
  have HB10 : Kp (Below w.heap.size w w10) := ⟨HB8.out.trans (hb810.mono HB8.out.size)⟩
  clear hk10 ho10 hb810 HX8 HR8 HB8 HY8 HK9 HB9
  have hes : sameB exR exR = true := sameB_rfl exR
  go_wp2_with (first
    | (with_reducible refine wpList_loadAll_g (o := ⟨some 31, _, _, _, _, _⟩) rwSeal (by kernel_rfl) (.tmp 1) rfl rfl HX10.out rfl ?_)
    | (with_reducible refine wpList_loadAll_g (o := ⟨some 32, _, _, _, _, _⟩) rwSeal (by kernel_rfl) (.tmp 4) rfl rfl HYx.out rfl ?_))
  refine (refsamev_any exR exR _ 1 1 _ 1 1 A8 n8 c8 D8 m8 e8 w10 HR10.out HY10.out).mono ?_
  rintro x w11 ⟨rfl, hb11⟩
  rw [hes]
  have HX11 : Kp _ := ⟨HX10.out.below hb11 HX10.out.lt⟩
  have HR11 : Kp _ := ⟨HR10.out.next hb11 (Nat.le_refl _)⟩
  have HB11 : Kp (Below w.heap.size w w11) := ⟨HB10.out.trans (hb11.mono HB10.out.size)⟩
  clear hb11 hes HX10 HR10 HB10 HY10 HYx
  go_wp2_with fail
  refine (p16_any 17 2 w11 (by omega) (by omega)).mono ?_
  rintro x w12 ⟨rfl, rfl⟩
  go_wp2_with (with_reducible refine wpList_loadAll_g (o := ⟨some 40, _, _, _, _, _⟩) rwSeal (by kernel_rfl) (.tmp 1) rfl rfl HX11.out rfl ?_)
  refine (slot_any exR _ 1 1 _ 1 1 0 _ HR11.out (by omega)).mono ?_
  rintro x w13 ⟨rfl, hb13⟩
  have hs : slotI exR.sl 0 = 1 := by decide
  rw [hs]
  have HB13 := (⟨HB11.out.trans (hb13.mono HB11.out.size)⟩ : Kp _)
  clear hs hb13 HX11 HR11 HB11
  go_wp2
  go_ret
  exact ⟨rfl, HB13.out⟩
end Go.Proofs.Ytadpfbjpkbpanaa

namespace Go.Proofs.Ytadpfbjpkbpanaa
open Go.RowKit

set_option maxRecDepth 100000 in
set_option maxHeartbeats 4000000 in
theorem refflip_any (r : Rc) (A : Option Addr) (n c : Nat) (D : Option Addr) (m e : Nat) (a : Int) (w : World) (hR : Rs w w.heap.size A n c D m e r) (ha : -9223372036854775808 ≤ a ∧ a < 9223372036854775808) (hn : n ≤ 1000000) :
    Calls Try.prog 21 #[rcV r A n c D m e, .int .i64 a] w fun x w' => ∃ A' c', x = .returned (rcV (flipR r a) A' n c' D m e) ∧ Rs w' w'.heap.size A' n c' D m e (flipR r a) ∧ Below w.heap.size w w' := by
  obtain ⟨num, blk, sl, su⟩ := r
  have HR : Kp _ := ⟨hR⟩
  have HL : Kp (sl.length = n) := ⟨hR.sl.len⟩
  have HNB : Kp (num < 18446744073709551616 ∧ -9223372036854775808 ≤ blk ∧ blk < 9223372036854775808) := ⟨hR.num, hR.blk⟩
  obtain ⟨fl, hfl⟩ : ∃ fl, fl = (flipR ⟨num, blk, sl, su⟩ a).sl := ⟨_, rfl⟩
  have HFR : Kp (flipR ⟨num, blk, sl, su⟩ a = ⟨num, blk, fl, su⟩) := ⟨by rw [hfl]; unfold flipR; split <;> rfl⟩
  have HFL : Kp (fl.length = n) := ⟨by rw [hfl]; unfold flipR; split <;> simp [flipL_len, HL.out]⟩
  have HC : Kp (((a < 0 ∨ (0 ≤ a ∧ blk ≤ a)) ∧ fl = sl) ∨ (∃ k : Nat, a = (k : Int) ∧ (k : Int) < blk ∧ fl = flipL sl k)) := ⟨by
    rcases Int.lt_or_le a 0 with h | h
    · exact .inl ⟨.inl h, by rw [hfl]; unfold flipR; rw [if_neg (by omega)]⟩
    · rcases Int.lt_or_le a blk with h2 | h2
      · obtain ⟨k, rfl⟩ : ∃ k : Nat, a = (k : Int) := ⟨a.toNat, by omega⟩
        exact .inr ⟨k, rfl, h2, by rw [hfl]; unfold flipR; rw [if_pos ⟨by omega, h2⟩, Int.toNat_natCast]⟩
      · exact .inl ⟨.inr ⟨h, h2⟩, by rw [hfl]; unfold flipR; rw [if_neg (by simp only; omega)]⟩⟩
  have HA : Kp _ := ⟨ha⟩
  clear hR hfl ha
  go_enter Try.func21, Try.ntmps21
  go_wp2_with (with_reducible refine wpList_box (o := ⟨some 2, _, _, _, _, _⟩) (cs := rcL num blk A n c D m e) rfl (.tmp 0) rfl rfl ?_)
  intro w0 hk0 hb0 hs0
  have HK0 : Kp _ := ⟨hk0⟩
  have HB0 : Kp _ := ⟨hb0⟩
  clear hk0 hb0 hs0
  go_wp2_with (with_reducible refine wpList_alloc (o := ⟨some 4, _, _, _, _, _⟩) tySeal rfl rfl ?_)
  intro w1 hk1 hb1 hs1
  have HKr : Kp _ := ⟨hk1⟩
  have HB1 : Kp (Below w.heap.size w w1) := ⟨HB0.out.trans (hb1.mono HB0.out.size)⟩
  have HKa : Kp (Blk w1 w.heap.size 26 (rcL num blk A n c D m e)) := ⟨HK0.out.below hb1 HK0.out.lt⟩
  have HZ : Kp (w.heap.size < w0.heap.size ∧ w0.heap.size < w1.heap.size) := ⟨HK0.out.lt, HKr.out.lt⟩
  clear hk1 hb1 hs1 HK0 HB0
  have a0 : w1.cell? ⟨w.heap.size, 0, none⟩ = some (.int .u64 num) := HKa.out.cell? 0
  have a1 : w1.cell? ⟨w.heap.size, 1, none⟩ = some (.int .i64 blk) := HKa.out.cell? 1
  have a3 : w1.cell? ⟨w.heap.size, 3, none⟩ = some (.slice D m e) := HKa.out.cell? 3
  go_wp2_with (with_reducible refine wpList_alloc (o := ⟨some 5, _, _, _, _, _⟩) tySeal rfl rfl ?_)
  intro w2 hk2 hb2 hs2
  have HK2 : Kp _ := ⟨hk2⟩
  have HBW : Kp (Below w1.heap.size w1 w2) := ⟨hb2⟩
  clear hk2 hb2 hs2 a0 a1 a3
  go_wp2_with (with_reducible refine wpList_storeAll (o := ⟨none, _, _, _, _, _⟩) (vs := rcL num blk none 0 0 D m e) rwSeal rfl (.tmp 5) (.tmp 14) rfl rfl HK2.out rfl rfl (rcL_one _ _ _ _ _ _ _ _) rfl ?_)
  intro w3 hk3 ho3
  have HK3 : Kp _ := ⟨hk3⟩
  have HB3 : Kp (Below w1.heap.size w1 w3) := ⟨HBW.out.trans (ho3.below (Nat.le_refl _))⟩
  have HZ2 : Kp (w1.heap.size < w3.heap.size) := ⟨hk3.lt⟩
  obtain ⟨g, hg⟩ : ∃ g, g = w1.heap.size := ⟨_, rfl⟩
  rw [← hg] at HK3 HB3 HZ2 ⊢
  have HG : Kp (w.heap.size < g ∧ w0.heap.size < g) := ⟨by have := HZ.out; omega, by have := HZ.out; omega⟩
  have HKa3 : Kp _ := ⟨HKa.out.below HB3.out HG.out.1⟩
  have HKr3 : Kp _ := ⟨HKr.out.below HB3.out HG.out.2⟩
  have HB13 : Kp (Below w.heap.size w w3) := ⟨HB1.out.trans (HB3.out.mono (by have := HZ.out; omega))⟩
  have HR3 : Kp (∀ W, Below g w3 W → Bs W g A n c sl) := ⟨fun W h => ((HR.out.sl.below HB13.out).more (Nat.le_of_lt HG.out.1)).below h⟩
  have HRd : Kp (∀ W, Below g w3 W → Ds W g D m e su) := ⟨fun W h => ((HR.out.su.below HB13.out).more (Nat.le_of_lt HG.out.1)).below h⟩
  clear hk3 ho3 hg HK2 HBW HKa HKr HB3
  go_wp2
  go_loopw [6, 7] (fun i _ wr => ∃ (k : Nat) (v : Value) (A' : Option Addr) (c' : Nat), k ≤ n ∧ i = .int .i64 k ∧ v = .slice A' k c' ∧ Kp (Blk wr g 26 (rcL num blk A' k c' D m e)) ∧ Kp (wr.ownsRow w3.heap.size 5 1 v k (cells8 (fl.take k))) ∧ Kp (Below g w3 wr)) (fun i _ _ => n - (intOf i).toNat)
  case atStart => exact ⟨0, _, none, 0, Nat.zero_le _, rfl, rfl, HK3, ⟨own_nil _ _ _⟩, ⟨Below.refl _ _⟩⟩
  case round =>
    obtain ⟨k, v, A', c', hk, rfl, rfl, HY, HO, HW⟩ := hrel
    have HKa4 : Kp _ := ⟨HKa3.out.below HW.out HG.out.1⟩
    have a1 : wr.cell? ⟨w.heap.size, 1, none⟩ = some (.int .i64 blk) := HKa4.out.cell? 1
    have a2 : wr.cell? ⟨w.heap.size, 2, none⟩ = some (.slice A n c) := HKa4.out.cell? 2
    by_cases hlt : k < n
    · have hks : k < sl.length := by rw [HL.out]; exact hlt
      have hkf : k < fl.length := by rw [HFL.out]; exact hlt
      obtain ⟨b1, o1, rfl, hl1, hc1⟩ := (HR3.out wr HW.out).cell hlt
      have y2 : wr.cell? ⟨g, 2, none⟩ = some (.slice A' k c') := HY.out.cell? 2
      have HT : Kp _ := ⟨List.take_succ_eq_append_getElem hkf⟩
      have hx8 : sl[k].toNat < 256 := sl[k].toNat_lt
      have hgl : g < wr.heap.size := HY.out.lt
      rcases HC.out with ⟨hc, hf⟩ | ⟨k0, rfl, hkb, hf⟩
      · have HX : Kp (fl[k].toNat = sl[k].toNat) := ⟨by subst hf; rfl⟩
        clear hf
        generalize fl[k] = y at *
        generalize sl[k].toNat = x at *
        rcases hc with hc | ⟨hc0, hc⟩
        all_goals
          go_wp2_with (at_builtin; refine wpList_app1 el8 rfl _ _ rfl w3.heap.size _ k _ rfl HO.out rfl rfl (by simp only [maxLen]; omega) (by omega) (by have := HW.out.size; exact this) ?_)
          intro v' w' H' hb' hz1 hz2
          obtain ⟨A2, c2, rfl⟩ := own_sl H'.out
          have HY2 : Kp _ := ⟨HY.out.below hb' HZ2.out⟩
          have HO2 : Kp (w'.ownsRow w3.heap.size 5 1 (.slice A2 (k + 1) c2) (k + 1) (cells8 (fl.take (k + 1)))) := ⟨by
            have h := H'.out
            rw [HT.out, cells8_append]
            rw [← HX.out] at h
            exact h⟩
          have y2' : w'.cell? ⟨g, 2, none⟩ = some (.slice A' k c') := HY2.out.cell? 2
          have yf : w'.frozen? ⟨g, 2, none⟩ = false := HY2.out.frozen 2
          have HY3 : Kp _ := ⟨HY2.out.set 2 (.slice A2 (k + 1) c2)⟩
          have HO3 : Kp _ := ⟨ownsRow_setCell_below HO2.out (a := ⟨g, 2, none⟩) HZ2.out (.slice A2 (k + 1) c2)⟩
          have HW3 : Kp _ := ⟨(HW.out.trans (hb'.mono (Nat.le_of_lt HZ2.out))).setCell (p := ⟨g, 2, none⟩) (Nat.le_refl _) (.slice A2 (k + 1) c2)⟩
          clear H' hb' hz1 hz2 HY2 HO2 HY HO HW
          go_wp2
          go_roundw
          case rel => exact ⟨k + 1, _, A2, c2, by omega, by go_num, rfl, HY3, HO3, HW3⟩
          case measure => simp [intOf]; omega
      · have hA2 := HA.out.2
        obtain ⟨q, hq⟩ : ∃ q, k0 / 8 = q := ⟨_, rfl⟩
        obtain ⟨j, hj⟩ : ∃ j, k0 % 8 = j := ⟨_, rfl⟩
        have hk0 : (0 : Int) ≤ (k0 : Int) := by omega
        have kq : ((k0 : Int)).tdiv 8 = (q : Int) := by rw [Int.tdiv_eq_ediv_of_nonneg (by omega)]; omega
        have kq2 : (k0 : Int) / 8 = (q : Int) := by omega
        have kj : ((k0 : Int)).tmod 8 = (j : Int) := by rw [Int.tmod_eq_emod_of_nonneg (by omega)]; omega
        have kj2 : (k0 : Int) % 8 = (j : Int) := by omega
        have wq : IntKind.i64.wrap (q : Int) = (q : Int) := by rw [IntKind.wrap_i64]; omega
        have wj : IntKind.i64.wrap (j : Int) = (j : Int) := by rw [IntKind.wrap_i64]; omega
        have wju : IntKind.u64.wrap (j : Int) = (j : Int) := by rw [IntKind.wrap_u64]; omega
        have hj8 : j < 8 := by omega
        by_cases hqk : q = k
        · subst hqk
          have HX : Kp _ := ⟨flip8_val sl[q] (j : Int)⟩
          have HE : Kp (fl[q] = flip8 sl[q] j) := ⟨by subst hf; simp only [flipL_at sl k0 q j hq hj hks, List.getElem_set_self]⟩
          have hy : bits .xor .u8 (sl[q].toNat : Int) (2 ^ j % 256) = (fl[q].toNat : Int) := by rw [HE.out]; exact flip8_val sl[q] (j : Int)
          have hy2 : bits .xor .u8 (sl[q].toNat : Int) (IntKind.u8.wrap (2 ^ j)) = (fl[q].toNat : Int) := by rw [← hy]; rfl
          clear hf HX HE hA2 hq hj
          generalize fl[q] = y at *
          generalize hyy : y.toNat = yy at *
          have HX : Kp (y.toNat = yy) := ⟨hyy⟩
          generalize sl[q].toNat = x at *
          clear hyy
          go_wp2_with (at_builtin; refine wpList_app1 el8 rfl _ _ rfl w3.heap.size _ q _ rfl HO.out rfl rfl (by simp only [maxLen]; omega) (by omega) (by have := HW.out.size; exact this) ?_)
          intro v' w' H' hb' hz1 hz2
          obtain ⟨A2, c2, rfl⟩ := own_sl H'.out
          have HY2 : Kp _ := ⟨HY.out.below hb' HZ2.out⟩
          have HO2 : Kp (w'.ownsRow w3.heap.size 5 1 (.slice A2 (q + 1) c2) (q + 1) (cells8 (fl.take (q + 1)))) := ⟨by
            have h := H'.out
            rw [HT.out, cells8_append]
            rw [← HX.out] at h
            exact h⟩
          have y2' : w'.cell? ⟨g, 2, none⟩ = some (.slice A' q c') := HY2.out.cell? 2
          have yf : w'.frozen? ⟨g, 2, none⟩ = false := HY2.out.frozen 2
          have HY3 : Kp _ := ⟨HY2.out.set 2 (.slice A2 (q + 1) c2)⟩
          have HO3 : Kp _ := ⟨ownsRow_setCell_below HO2.out (a := ⟨g, 2, none⟩) HZ2.out (.slice A2 (q + 1) c2)⟩
          have HW3 : Kp _ := ⟨(HW.out.trans (hb'.mono (Nat.le_of_lt HZ2.out))).setCell (p := ⟨g, 2, none⟩) (Nat.le_refl _) (.slice A2 (q + 1) c2)⟩
          clear H' hb' hz1 hz2 HY2 HO2 HY HO HW
          go_wp2
          go_roundw
          case rel => exact ⟨q + 1, _, A2, c2, by omega, by go_num, rfl, HY3, HO3, HW3⟩
          case measure => simp [intOf]; omega
        · have hqk2 : ((q : Int) == (k : Int)) = false := by simp; omega
          have HX : Kp (fl[k].toNat = sl[k].toNat) := ⟨by subst hf; simp only [flipL, hq, List.getElem_set, hqk, if_false]⟩
          clear hf hA2 hq hj
          generalize fl[k] = y at *
          generalize sl[k].toNat = x at *
          go_wp2_with (at_builtin; refine wpList_app1 el8 rfl _ _ rfl w3.heap.size _ k _ rfl HO.out rfl rfl (by simp only [maxLen]; omega) (by omega) (by have := HW.out.size; exact this) ?_)
          intro v' w' H' hb' hz1 hz2
          obtain ⟨A2, c2, rfl⟩ := own_sl H'.out
          have HY2 : Kp _ := ⟨HY.out.below hb' HZ2.out⟩
          have HO2 : Kp (w'.ownsRow w3.heap.size 5 1 (.slice A2 (k + 1) c2) (k + 1) (cells8 (fl.take (k + 1)))) := ⟨by
            have h := H'.out
            rw [HT.out, cells8_append]
            rw [← HX.out] at h
            exact h⟩
          have y2' : w'.cell? ⟨g, 2, none⟩ = some (.slice A' k c') := HY2.out.cell? 2
          have yf : w'.frozen? ⟨g, 2, none⟩ = false := HY2.out.frozen 2
          have HY3 : Kp _ := ⟨HY2.out.set 2 (.slice A2 (k + 1) c2)⟩
          have HO3 : Kp _ := ⟨ownsRow_setCell_below HO2.out (a := ⟨g, 2, none⟩) HZ2.out (.slice A2 (k + 1) c2)⟩
          have HW3 : Kp _ := ⟨(HW.out.trans (hb'.mono (Nat.le_of_lt HZ2.out))).setCell (p := ⟨g, 2, none⟩) (Nat.le_refl _) (.slice A2 (k + 1) c2)⟩
          clear H' hb' hz1 hz2 HY2 HO2 HY HO HW
          go_wp2
          go_roundw
          case rel => exact ⟨k + 1, _, A2, c2, by omega, by go_num, rfl, HY3, HO3, HW3⟩
          case measure => simp [intOf]; omega
    · obtain rfl : k = n := by omega
      have HT : Kp (fl.take k = fl) := ⟨List.take_of_length_le (by rw [HFL.out]; exact Nat.le_refl _)⟩
      have HKr4 : Kp _ := ⟨HKr3.out.below HW.out HG.out.2⟩
      go_wp2_with (first
        | (with_reducible refine wpList_loadAll (o := ⟨some 53, _, _, _, _, _⟩) rwSeal rfl (.tmp 5) rfl rfl HY.out rfl ?_)
        | (with_reducible refine wpList_storeAll (o := ⟨none, _, _, _, _, _⟩) (vs := rcL num blk A' k c' D m e) rwSeal rfl (.tmp 4) (.tmp 53) rfl rfl HKr4.out rfl rfl (rcL_one _ _ _ _ _ _ _ _) rfl ?_))
      intro w9 hk9 ho9
      have HK9 : Kp _ := ⟨hk9⟩
      have HB9 : Kp (Below w.heap.size w w9) := ⟨(HB13.out.trans (HW.out.mono (Nat.le_of_lt HG.out.1))).trans (ho9.below (by have := HZ.out; omega))⟩
      have X8 : Kp (Bs w9 w9.heap.size A' k c' fl) := ⟨by have h := Bs.of_own' (own_only HO.out ho9 (by have := HG.out; have := HZ2.out; omega)); rwa [HT.out] at h⟩
      have X32 : Kp (Ds w9 w9.heap.size D m e su) := ⟨((HR.out.su.below ((HB13.out.trans (HW.out.mono (Nat.le_of_lt HG.out.1))))).below (ho9.below (by have := HZ.out; omega))).more HB9.out.size⟩
      clear hk9 ho9 a1 a2
      go_wp2
      refine ret_arr rfl rwSeal rfl HK9.out rfl rfl ?_
      refine ⟨A', c', by rw [HFR.out], ?_, HB9.out⟩
      rw [HFR.out]
      exact ⟨HNB.out.1, HNB.out.2, X8.out, X32.out⟩
end Go.Proofs.Ytadpfbjpkbpanaa

namespace Go.Proofs.Ytadpfbjpkbpanaa
open Go.RowKit

theorem tdiv2 (q : Nat) : (q : Int).tdiv 2 = ((q / 2 : Nat) : Int) := by rw [Int.tdiv_eq_ediv_of_nonneg (by omega)]; omega
theorem tmod2 (q : Nat) : (q : Int).tmod 2 = ((q % 2 : Nat) : Int) := by rw [Int.tmod_eq_emod_of_nonneg (by omega)]; omega
set_option maxRecDepth 100000 in
set_option maxHeartbeats 1000000 in
theorem reflong_any (r : Rc) (A : Option Addr) (n c : Nat) (D : Option Addr) (m e : Nat) (w : World) (hn : n ≤ 140737488351232) (hm : m * 32 ≤ 140737488351232) :
    Calls Try.prog 10 #[rcV r A n c D m e] w fun x w' => x = .returned (.int .i64 ((n + 32 * m : Nat) : Int)) ∧ Below w.heap.size w w' := by
  obtain ⟨num, blk, sl, su⟩ := r
  have HB : Kp (Below w.heap.size w (w.alloc (.cells #[.int .u64 num, .int .i64 blk, .slice A n c, .slice D m e] 26))) := ⟨(Below.refl _ _).alloc (Nat.le_refl _) _⟩
  go_enter Try.func10, Try.ntmps10
  go_wp2
  go_ret
  exact ⟨ret_eq (by go_num), HB.out⟩
set_option maxRecDepth 100000 in
set_option maxHeartbeats 2000000 in
theorem refslot_any (r : Rc) (A : Option Addr) (n c : Nat) (D : Option Addr) (m e : Nat) (a : Int) (w : World) (hR : Rs w w.heap.size A n c D m e r) (ha : -9223372036854775808 ≤ a ∧ a < 9223372036854775808) :
    Calls Try.prog 18 #[rcV r A n c D m e, .int .i64 a] w fun x w' => x = .returned (.int .i64 (slotI r.sl a : Nat)) ∧ Below w.heap.size w w' := by
  obtain ⟨num, blk, sl, su⟩ := r
  obtain ⟨h1, h2⟩ := ha
  have hs : Bs w w.heap.size A n c sl := hR.sl
  have hn := hs.le
  have HL : Kp (sl.length = n) := ⟨hs.len⟩
  have HB : Kp (Below w.heap.size w (w.alloc (.cells #[.int .u64 num, .int .i64 blk, .slice A n c, .slice D m e] 26))) := ⟨(Below.refl _ _).alloc (Nat.le_refl _) _⟩
  clear hR
  by_cases h : a < 0
  · have HG : Kp (slotI sl a = 0) := ⟨slotI_neg sl a h⟩
    go_enter Try.func18, Try.ntmps18
    go_wp2
    go_ret
    exact ⟨ret_eq (by simp only [HG.out]; rfl), HB.out⟩
  · obtain ⟨k, rfl⟩ : ∃ k : Nat, a = (k : Int) := ⟨a.toNat, by omega⟩
    obtain ⟨q, hq⟩ : ∃ q, k / 8 = q := ⟨_, rfl⟩
    obtain ⟨j, hj⟩ : ∃ j, k % 8 = j := ⟨_, rfl⟩
    have hj8 : j < 8 := by omega
    have hq60 : q < 1152921504606846976 := by omega
    have hk0 : (0 : Int) ≤ (k : Int) := by omega
    have kq : ((k : Int)).tdiv 8 = (q : Int) := by rw [Int.tdiv_eq_ediv_of_nonneg (by omega)]; omega
    have kj : ((k : Int)).tmod 8 = (j : Int) := by rw [Int.tmod_eq_emod_of_nonneg (by omega)]; omega
    by_cases hlt : q < n
    · have hql : q < sl.length := by rw [HL.out]; exact hlt
      obtain ⟨b, o, rfl, hb, hc⟩ := hs.cell hlt
      have HG : Kp _ := ⟨slotI_at sl k q j hq hj hql⟩
      have hc2 : (w.alloc (.cells #[.int .u64 num, .int .i64 blk, .slice (some ⟨b, o, none⟩) n c, .slice D m e] 26)).cell? ⟨b, o + q, none⟩ = some (.int .u8 (sl[q].toNat : Int)) := by rw [World.cell?_alloc_past _ _ _ hb]; exact hc
      have hx8 : sl[q].toNat < 256 := sl[q].toNat_lt
      clear hq hj hs hc h1 h2 hn
      generalize sl[q].toNat = x at *
      go_enter Try.func18, Try.ntmps18
      go_wp2
      go_loop [5, 6] (fun v i => ∃ t y : Nat, t ≤ j ∧ y < 256 ∧ i = .int .i64 t ∧ v = .int .i64 (y : Int) ∧ Hid (y = x / 2 ^ t)) (fun _ i => j - (intOf i).toNat)
      case atStart => exact ⟨0, x, Nat.zero_le _, hx8, rfl, rfl, by simp [Hid]⟩
      case round =>
        obtain ⟨t, y, ht, hy, rfl, rfl, HQ⟩ := hrel
        by_cases hlt2 : t < j
        · have HD := Lib.hid (tdiv2 y)
          go_wp2
          go_round
          case rel => exact ⟨t + 1, y / 2, by omega, by omega, by go_num, congrArg (Value.int _) (by omega), by rw [HQ.out, Nat.div_div_eq_div_mul, ← Nat.pow_succ]; rfl⟩
          case measure => simp [intOf]; omega
        · obtain rfl : t = j := by omega
          have HD := Lib.hid (tmod2 y)
          go_wp2
          go_ret
          refine ⟨ret_eq (congrArg (Value.int _) ?_), HB.out⟩
          show _ = ((slotI sl (k : Int) : Nat) : Int)
          have h6 := HQ.out
          rw [HG.out, ← h6]
          omega
    · have HG : Kp _ := ⟨slotI_far sl k (by rw [HL.out]; omega)⟩
      clear hq hj h1 h2 hn
      go_enter Try.func18, Try.ntmps18
      go_wp2
      go_ret
      exact ⟨ret_eq (by simp only [HG.out]; rfl), HB.out⟩
end Go.Proofs.Ytadpfbjpkbpanaa

namespace Go.Proofs.Ytadpfbjpkbpanaa
open Go.RowKit

set_option maxRecDepth 100000 in
set_option maxHeartbeats 4000000 in
theorem refright_any (r : Rc) (A : Option Addr) (n c : Nat) (D : Option Addr) (m e : Nat) (w : World) (hR : Rs w w.heap.size A n c D m e r) (hn : n ≤ 1000000) :
    Calls Try.prog 16 #[rcV r A n c D m e] w fun x w' => x = .returned (.bool (decide (Rt r))) ∧ Below w.heap.size w w' := by
  obtain ⟨num, blk, sl, su⟩ := r
  have HR : Kp _ := ⟨hR⟩
  have hlo := hR.blk.1
  have hhi := hR.blk.2
  by_cases hb : blk < 0 ∨ 4096 < blk
  · have HG : Kp (decide (Rt ⟨num, blk, sl, su⟩) = false) := ⟨rt_range hb⟩
    clear hR hlo hhi
    rcases hb with hb | hb
    · have d0 : decide (blk < 0) = true := decide_eq_true hb
      go_enter Try.func16, Try.ntmps16
      go_wp2_with (with_reducible refine wpList_box (o := ⟨some 1, _, _, _, _, _⟩) (cs := rcL num blk A n c D m e) rfl (.tmp 0) rfl rfl ?_)
      intro w1 hk1 hb1 hs1
      have e1 : w1.cell? ⟨w.heap.size, 1, none⟩ = some (.int .i64 blk) := hk1.cell? 1
      have HB1 : Kp _ := ⟨hb1⟩
      clear hk1 hb1 hs1
      go_wp2_with fail
      refine wp_region_still_lit (by kernel_rfl) (by kernel_rfl) ?_
      repeat (first | (with_reducible refine wpStill_step (fun K hK => ?_); go_simp; with_reducible refine hK _ ?_; clear hK K))
      with_reducible refine wpStill_nil ?_
      go_wp2
      go_ret
      exact ⟨ret_eq (by rw [HG.out]; rfl), HB1.out.drew⟩
    · have d0 : decide (blk < 0) = false := decide_eq_false (by omega)
      have d1 : decide (4096 < blk) = true := decide_eq_true hb
      go_enter Try.func16, Try.ntmps16
      go_wp2_with (with_reducible refine wpList_box (o := ⟨some 1, _, _, _, _, _⟩) (cs := rcL num blk A n c D m e) rfl (.tmp 0) rfl rfl ?_)
      intro w1 hk1 hb1 hs1
      have e1 : w1.cell? ⟨w.heap.size, 1, none⟩ = some (.int .i64 blk) := hk1.cell? 1
      have HB1 : Kp _ := ⟨hb1⟩
      clear hk1 hb1 hs1
      go_wp2_with fail
      refine wp_region_still_lit (by kernel_rfl) (by kernel_rfl) ?_
      repeat (first | (with_reducible refine wpStill_step (fun K hK => ?_); go_simp; with_reducible refine hK _ ?_; clear hK K))
      with_reducible refine wpStill_nil ?_
      go_wp2
      go_ret
      exact ⟨ret_eq (by rw [HG.out]; rfl), HB1.out.drew⟩
  · obtain ⟨b, rfl⟩ : ∃ b : Nat, blk = (b : Int) := ⟨blk.toNat, by omega⟩
    have hb4 : b ≤ 4096 := by omega
    obtain ⟨M, hM⟩ : ∃ M, (b + 15) / 16 = M := ⟨_, rfl⟩
    have HMM : Kp _ := ⟨hM⟩
    have HB4 : Kp (b ≤ 4096) := ⟨hb4⟩
    have hM2 : M ≤ 256 := by omega
    have d0 : decide ((b : Int) < 0) = false := decide_eq_false (by omega)
    have d1 : decide (4096 < (b : Int)) = false := decide_eq_false (by omega)
    have hlsl : sl.length = n := hR.sl.len
    have hlsu : su.length = m := hR.su.len
    have hm63 := hR.su.le
    have HLn : Kp _ := ⟨hlsl⟩
    clear hR hb hlo hhi
    by_cases h1 : m = M
    · subst h1
      clear hM2 hm63
      obtain ⟨N8, hN8⟩ : ∃ N8 : Nat, N8 = 8 * n := ⟨_, rfl⟩
      obtain ⟨B8, hB8⟩ : ∃ B8 : Nat, B8 = b + 8 := ⟨_, rfl⟩
      have w8 : IntKind.i64.wrap (8 * (n : Int)) = (N8 : Int) := by rw [IntKind.wrap_i64]; omega
      have wb : IntKind.i64.wrap ((b : Int) + 8) = (B8 : Int) := by rw [IntKind.wrap_i64]; omega
      have d2 : ((m : Int) != (m : Int)) = false := by simp
      by_cases h2 : 8 * n < b
      · have d3 : decide (N8 < b) = true := decide_eq_true (by omega)
        have HG : Kp (decide (Rt ⟨num, (b : Int), sl, su⟩) = false) := ⟨rt_sl (by simp; omega)⟩
        clear hlsl hlsu hM hN8 hB8
        go_enter Try.func16, Try.ntmps16
        go_wp2_with (with_reducible refine wpList_box (o := ⟨some 1, _, _, _, _, _⟩) (cs := rcL num b A n c D m e) rfl (.tmp 0) rfl rfl ?_)
        intro w1 hk1 hb1 hs1
        have e1 : w1.cell? ⟨w.heap.size, 1, none⟩ = some (.int .i64 b) := hk1.cell? 1
        have e2 : w1.cell? ⟨w.heap.size, 2, none⟩ = some (.slice A n c) := hk1.cell? 2
        have e3 : w1.cell? ⟨w.heap.size, 3, none⟩ = some (.slice D m e) := hk1.cell? 3
        have HB1 : Kp _ := ⟨hb1⟩
        clear hk1 hb1 hs1
        go_wp2_with fail
        refine wp_region_still_lit (by kernel_rfl) (by kernel_rfl) ?_
        repeat (first | (with_reducible refine wpStill_step (fun K hK => ?_); go_simp; with_reducible refine hK _ ?_; clear hK K) | still_call (rp16_any b m _ HB4.out HMM.out))
        with_reducible refine wpStill_nil ?_
        go_wp2
        go_ret
        exact ⟨ret_eq (by rw [HG.out]; rfl), HB1.out.drew⟩
      · have d3 : decide (N8 < b) = false := decide_eq_false (by omega)
        by_cases h3 : b + 8 ≤ 8 * n
        · have d4 : decide (B8 ≤ N8) = true := decide_eq_true (by omega)
          have HG : Kp (decide (Rt ⟨num, (b : Int), sl, su⟩) = false) := ⟨rt_sl (by simp; omega)⟩
          clear hlsl hlsu hM hN8 hB8
          go_enter Try.func16, Try.ntmps16
          go_wp2_with (with_reducible refine wpList_box (o := ⟨some 1, _, _, _, _, _⟩) (cs := rcL num b A n c D m e) rfl (.tmp 0) rfl rfl ?_)
          intro w1 hk1 hb1 hs1
          have e1 : w1.cell? ⟨w.heap.size, 1, none⟩ = some (.int .i64 b) := hk1.cell? 1
          have e2 : w1.cell? ⟨w.heap.size, 2, none⟩ = some (.slice A n c) := hk1.cell? 2
          have e3 : w1.cell? ⟨w.heap.size, 3, none⟩ = some (.slice D m e) := hk1.cell? 3
          have HB1 : Kp _ := ⟨hb1⟩
          clear hk1 hb1 hs1
          go_wp2_with fail
          refine wp_region_still_lit (by kernel_rfl) (by kernel_rfl) ?_
          repeat (first | (with_reducible refine wpStill_step (fun K hK => ?_); go_simp; with_reducible refine hK _ ?_; clear hK K) | still_call (rp16_any b m _ HB4.out HMM.out))
          with_reducible refine wpStill_nil ?_
          go_wp2
          go_ret
          exact ⟨ret_eq (by rw [HG.out]; rfl), HB1.out.drew⟩
        · have d4 : decide (B8 ≤ N8) = false := decide_eq_false (by omega)
          have HRT : Kp ((∀ i, b ≤ i → i < 8 * n → slotN sl i = 0) → decide (Rt ⟨num, (b : Int), sl, su⟩) = true) := ⟨fun h => decide_eq_true ⟨by simp, by simp; omega, by simp; omega, by simp; omega, by simpa [hlsl] using h⟩⟩
          clear hlsl hlsu hM hN8 hB8
          go_enter Try.func16, Try.ntmps16
          go_wp2_with (with_reducible refine wpList_box (o := ⟨some 1, _, _, _, _, _⟩) (cs := rcL num b A n c D m e) rfl (.tmp 0) rfl rfl ?_)
          intro w1 hk1 hb1 hs1
          have e1 : w1.cell? ⟨w.heap.size, 1, none⟩ = some (.int .i64 b) := hk1.cell? 1
          have e2 : w1.cell? ⟨w.heap.size, 2, none⟩ = some (.slice A n c) := hk1.cell? 2
          have e3 : w1.cell? ⟨w.heap.size, 3, none⟩ = some (.slice D m e) := hk1.cell? 3
          have HB1 : Kp _ := ⟨hb1⟩
          have HK1 : Kp _ := ⟨hk1⟩
          clear hk1 hb1 hs1
          go_wp2_with fail
          refine wp_region_still_lit (by kernel_rfl) (by kernel_rfl) ?_
          repeat (first | (with_reducible refine wpStill_step (fun K hK => ?_); go_simp; with_reducible refine hK _ ?_; clear hK K) | still_call (rp16_any b m _ HB4.out HMM.out))
          with_reducible refine wpStill_nil ?_
          change Exit.then _ _ _ _ w1.drew
          clear w8 wb d0 d1 d2 d3 d4
          go_wp2
          go_loopw [3] (fun i wr => ∃ k : Nat, b ≤ k ∧ k ≤ 8 * n ∧ i = .int .i64 k ∧ Hid (∀ i, b ≤ i → i < k → slotN sl i = 0) ∧ Below w1.heap.size w1 wr) (fun i _ => 8 * n - (intOf i).toNat)
          case atStart => exact ⟨b, Nat.le_refl _, by omega, rfl, (fun i h1 h2 => absurd h2 (by omega)), (Below.refl _ _).drew⟩
          case round =>
            obtain ⟨k, hbk, hk, rfl, hz, hbr⟩ := hrel
            have HZ : Kp _ := ⟨hz⟩
            have hlt1 : w.heap.size < w1.heap.size := HK1.out.lt
            have HKr : Kp _ := ⟨HK1.out.below hbr hlt1⟩
            have HBr : Kp (Below w.heap.size w wr) := ⟨HB1.out.trans (hbr.mono (Nat.le_of_lt hlt1))⟩
            have HBr1 : Kp _ := ⟨hbr⟩
            have e2 : wr.cell? ⟨w.heap.size, 2, none⟩ = some (.slice A n c) := HKr.out.cell? 2
            clear hz hbr e1 e3
            by_cases hlt : k < 8 * n
            · have HRr : Kp (Rs wr wr.heap.size A n c D m e ⟨num, (b : Int), sl, su⟩) := ⟨(HR.out.below HBr.out).more HBr.out.size⟩
              have HK9 : Kp (-9223372036854775808 ≤ (k : Int) ∧ (k : Int) < 9223372036854775808) := ⟨by omega⟩
              by_cases hs : slotN sl k = 0
              · have HV : Kp (slotI sl (k : Int) = 0) := ⟨by rw [slotI_nat, hs]⟩
                have HZ2 : Kp (∀ i, b ≤ i → i < k + 1 → slotN sl i = 0) := ⟨fun i h1 h2 => by
                  rcases Nat.lt_or_ge i k with h3 | h3
                  · exact HZ.out i h1 h3
                  · obtain rfl : i = k := by omega
                    exact hs⟩
                clear hs HZ
                go_wp2_with (with_reducible refine wpList_loadAll (o := ⟨some 50, _, _, _, _, _⟩) rwSeal rfl (.tmp 1) rfl rfl HKr.out rfl ?_)
                refine (refslot_any ⟨num, (b : Int), sl, su⟩ A n c D m e (k : Int) wr HRr.out HK9.out).mono ?_
                rintro x w2 ⟨rfl, hb2⟩
                have hx : slotI (Rc.sl ⟨num, (b : Int), sl, su⟩) (k : Int) = 0 := HV.out
                rw [hx]
                have HB2 : Kp (Below w1.heap.size w1 w2) := ⟨HBr1.out.trans (hb2.mono HBr1.out.size)⟩
                clear hx hb2 e2
                go_wp2
                go_roundw
                case rel => exact ⟨k + 1, by omega, by omega, by go_num, HZ2.out, HB2.out⟩
                case measure => simp [intOf]; omega
              · have HG : Kp (decide (Rt ⟨num, (b : Int), sl, su⟩) = false) := ⟨rt_bit k (by simpa using hbk) (by simp [HLn.out]; exact hlt) hs⟩
                have hv2 : slotN sl k < 2 := Nat.mod_lt _ (by omega)
                have HV : Kp (slotI sl (k : Int) = 1) := ⟨by rw [slotI_nat]; omega⟩
                clear hs hv2 HZ
                go_wp2_with (with_reducible refine wpList_loadAll (o := ⟨some 50, _, _, _, _, _⟩) rwSeal rfl (.tmp 1) rfl rfl HKr.out rfl ?_)
                refine (refslot_any ⟨num, (b : Int), sl, su⟩ A n c D m e (k : Int) wr HRr.out HK9.out).mono ?_
                rintro x w2 ⟨rfl, hb2⟩
                have hx : slotI (Rc.sl ⟨num, (b : Int), sl, su⟩) (k : Int) = 1 := HV.out
                rw [hx]
                have HB2 : Kp (Below w.heap.size w w2) := ⟨HBr.out.trans (hb2.mono HBr.out.size)⟩
                clear hx hb2 e2
                go_wp2
                go_ret
                exact ⟨ret_eq (by rw [HG.out]; rfl), HB2.out⟩
            · obtain rfl : k = 8 * n := by omega
              go_wp2
              go_ret
              exact ⟨ret_eq (by rw [HRT.out HZ.out]; rfl), HBr.out⟩
    · have HG : Kp (decide (Rt ⟨num, (b : Int), sl, su⟩) = false) := ⟨rt_su (by simp; omega)⟩
      have hq : ((m : Int) != (M : Int)) = true := by simp; omega
      clear hlsl hlsu hM
      go_enter Try.func16, Try.ntmps16
      go_wp2_with (with_reducible refine wpList_box (o := ⟨some 1, _, _, _, _, _⟩) (cs := rcL num b A n c D m e) rfl (.tmp 0) rfl rfl ?_)
      intro w1 hk1 hb1 hs1
      have e1 : w1.cell? ⟨w.heap.size, 1, none⟩ = some (.int .i64 b) := hk1.cell? 1
      have e3 : w1.cell? ⟨w.heap.size, 3, none⟩ = some (.slice D m e) := hk1.cell? 3
      have HB1 : Kp _ := ⟨hb1⟩
      clear hk1 hb1 hs1
      go_wp2_with fail
      refine wp_region_still_lit (by kernel_rfl) (by kernel_rfl) ?_
      repeat (first | (with_reducible refine wpStill_step (fun K hK => ?_); go_simp; with_reducible refine hK _ ?_; clear hK K) | still_call (rp16_any b M _ HB4.out HMM.out))
      with_reducible refine wpStill_nil ?_
      go_wp2
      go_ret
      exact ⟨ret_eq (by rw [HG.out]; rfl), HB1.out.drew⟩
end Go.Proofs.Ytadpfbjpkbpanaa

namespace Go.Proofs.Ytadpfbjpkbpanaa
open Go.RowKit

theorem slotN_bit (l : List UInt8) (i : Nat) : slotN l i = ((l.getD (i / 8) 0).toNat.testBit (i % 8)).toNat := by
  unfold slotN
  rw [Nat.testBit_eq_decide_div_mod_eq]
  rcases Nat.mod_two_eq_zero_or_one ((l.getD (i / 8) 0).toNat / 2 ^ (i % 8)) with h | h <;> rw [h] <;> rfl
theorem slotN_lt (l : List UInt8) (i : Nat) : slotN l i < 2 := Nat.mod_lt _ (by omega)
theorem flip_getD (l : List UInt8) (k q : Nat) (hk : k / 8 < l.length) : ((flipL l k).getD q 0).toNat = if q = k / 8 then (l.getD q 0).toNat ^^^ 2 ^ (k % 8) else (l.getD q 0).toNat := by
  unfold flipL
  have hp : 2 ^ (k % 8) < 256 := by
    have h8 : k % 8 < 8 := Nat.mod_lt _ (by omega)
    calc 2 ^ (k % 8) < 2 ^ 8 := Nat.pow_lt_pow_right (by omega) h8
      _ = 256 := rfl
  by_cases hq : q = k / 8
  · subst hq
    rw [if_pos rfl]
    simp only [List.getD_eq_getElem?_getD]
    rw [List.getElem?_set_self hk]
    simp only [Option.getD_some, UInt8.toNat_xor]
    congr 1
    show 2 ^ (k % 8) % 256 = _
    exact Nat.mod_eq_of_lt hp
  · rw [if_neg hq]
    simp only [List.getD_eq_getElem?_getD]
    rw [List.getElem?_set_ne (fun e => hq e.symm)]
theorem flip_slot_eq {l : List UInt8} {k : Nat} (h : k / 8 < l.length) : slotN (flipL l k) k = 1 - slotN l k := by
  rw [slotN_bit, slotN_bit, flip_getD l k _ h, if_pos rfl, Nat.testBit_xor, Nat.testBit_two_pow_self]
  cases (l.getD (k / 8) 0).toNat.testBit (k % 8) <;> rfl
theorem flip_slot_ne {l : List UInt8} {k o : Nat} (h : k / 8 < l.length) (hne : o ≠ k) : slotN (flipL l k) o = slotN l o := by
  rw [slotN_bit, slotN_bit, flip_getD l k _ h]
  split
  · rename_i hq
    rw [Nat.testBit_xor, Nat.testBit_two_pow_of_ne (by omega)]
    simp
  · rfl
theorem flipR_nat (r : Rc) (k : Nat) (h : (k : Int) < r.blk) : flipR r (k : Int) = ⟨r.num, r.blk, flipL r.sl k, r.su⟩ := by
  unfold flipR; rw [if_pos ⟨by omega, h⟩, Int.toNat_natCast]
theorem rt_byte {r : Rc} (ht : Rt r) {k : Nat} (h : (k : Int) < r.blk) : k / 8 < r.sl.length := by
  have h1 := ht.sl
  have h2 := ht.lo
  omega
theorem rt_flip {r : Rc} (ht : Rt r) {k : Nat} (h : (k : Int) < r.blk) : Rt (flipR r (k : Int)) := by
  rw [flipR_nat r k h]
  refine ⟨ht.lo, ht.hi, by show (flipL r.sl k).length = _; rw [show (flipL r.sl k).length = r.sl.length by unfold flipL; simp]; exact ht.sl, ht.su, fun i h1 h2 => ?_⟩
  have h3 : r.blk.toNat ≤ i := h1
  have h4 : i < 8 * r.sl.length := by
    have : (flipL r.sl k).length = r.sl.length := by unfold flipL; simp
    have h5 : i < 8 * (flipL r.sl k).length := h2
    omega
  show slotN (flipL r.sl k) i = 0
  rw [flip_slot_ne (rt_byte ht h) (by omega)]
  exact ht.zero i h3 h4
theorem same_flip {r : Rc} (ht : Rt r) {k : Nat} (h : (k : Int) < r.blk) : sameB r (flipR r (k : Int)) = false := by
  refine sameB_ne fun e => ?_
  rw [flipR_nat r k h] at e
  have e2 : r.sl = flipL r.sl k := congrArg Rc.sl e
  have h1 := flip_slot_eq (rt_byte ht h)
  rw [← e2] at h1
  have := slotN_lt r.sl k
  omega
/-- flipped twice it is as it was -/
theorem flip_flip {l : List UInt8} {k : Nat} : flipL (flipL l k) k = l := by
  by_cases h : k / 8 < l.length
  · unfold flipL
    refine List.ext_getElem (by simp) fun i h1 h2 => ?_
    simp only [List.getElem_set]
    split
    · rename_i hi
      subst hi
      simp only [List.getD_eq_getElem?_getD, List.getElem?_set_self h, Option.getD_some]
      rw [UInt8.xor_assoc]
      simp [List.getElem?_eq_getElem h]
    · rfl
  · have hf : ∀ m : List UInt8, m.length = l.length → flipL m k = m := fun m hm => by unfold flipL; rw [List.set_eq_of_length_le (by omega)]
    rw [hf l rfl, hf l rfl]
theorem flipR_flipR (r : Rc) (a : Int) : flipR (flipR r a) a = r := by
  unfold flipR
  split
  · simp only [flip_flip]
  · rfl
end Go.Proofs.Ytadpfbjpkbpanaa
