/- The contract of the document's Encode.
   The walk of SealEncodes. -/
import Derived.Test.YtadpfbjpkbpanaaG11
import Derived.Test.YtadpfbjpkbpanaaG13
import Derived.Test.YtadpfbjpkbpanaaG03
import Derived.Test.YtadpfbjpkbpanaaG17
import Derived.Test.YtadpfbjpkbpanaaG16
import Derived.Test.YtadpfbjpkbpanaaG01
namespace Go.Proofs.Ytadpfbjpkbpanaa
open Go.RowKit

section
variable {P : Program} {t e : TypeId} {z : Value} {bytes : Nat} {ops : Array Oper} {rest : List Oper} {o : Oper} {a : Act} {Q : Exit → Act → World → Prop} {w : World}
/-- append upon bytes that leave no room: the row is a new one -/
theorem wpList_app_full (E : El P t e z bytes) (hgd : o.guard = none) (s x : Operand) (ho : o.op = .call { callee := .builtin .append, args := #[s, x], argTypes := #[t, t] })
    {g n : Nat} {l : List UInt8} (hs : a.eval s = .slice (some ⟨g, 0, none⟩) n n) {L1 : Nat} (h : Bs w L1 (some ⟨g, 0, none⟩) n n l)
    {L : Nat} {A : Option Addr} {m d : Nat} {l2 : List UInt8} (hx : a.eval x = .slice A m d) (h2 : Bs w L A m d l2) (h0 : 0 < m) (h63 : n + m ≤ maxLen) (hbytes : (n + m) * bytes ≤ 140737488355328)
    (hk : ∀ v' w', w'.ownsRow w.heap.size e 1 v' (n + m) (cells8 (l ++ l2)) → Below w.heap.size w w' → wpList P ops Q rest (a.put o.dst v') w') : wpList P ops Q (o :: rest) a w := by
  refine wpList_plain hgd fun K hK => ?_
  obtain ⟨i, hi, hz0, hz1, hz2⟩ := info_parts E.info
  obtain ⟨b, o', rfl, _, _⟩ := h2.cells h0
  have hl : l.length = n := h.len
  have hlc : (cells8 l).length = n := by rw [cells8_length, hl]
  have hl2 : (cells8 l2).length = m := by rw [cells8_length, h2.len]
  have hsrc : Src P i.size t (.slice (some ⟨b, o', none⟩) m d) m (cells8 l2) w := Src.ofSlice w E.ty _ m d _ (by rw [hz1]; omega) (h2.news _ rfl) (cells8_one _)
  have hold : (Builtin.firstCells i.size n (.slice (some ⟨g, 0, none⟩) n n)).run P w.drew = .ok (cells8 l).toArray w.drew :=
    run_firstCells_some w.drew i.size n ⟨g, 0, none⟩ n n _ (by rw [hz1]; omega) (fun j u hu => h.news _ rfl j u hu)
  have hr := run_append_grow_src (P := P) w t t o.type e i z E.ty hi hz0 (some ⟨g, 0, none⟩) n n _ hold _ m _ hsrc (by omega) (by simp only [maxLen] at h63; omega) (growslice_fits (by omega) (by rw [hz2]; exact hbytes))
  have hge := grownCap_ge w (n + m) n e
  have hcm2 : grownCap w (n + m) n e ≤ maxLen := grownCap_le_maxLen w (n + m) n e h63
  have hown : (w.drew.alloc (.cells ((cells8 l ++ cells8 l2).toArray ++ Builtin.zeroCells z.cells (grownCap w (n + m) n e - (n + m))) e)).ownsRow w.heap.size e 1 (.slice (some ⟨w.heap.size, 0, none⟩) (n + m) (grownCap w (n + m) n e)) (n + m) (cells8 (l ++ l2)) := by
    refine ⟨by rw [cells8_append]; simp; omega, .inr ⟨w.heap.size, _, _, rfl, Nat.le_refl _, heap_alloc_new w.drew _, hge, hcm2, ?_, ?_⟩⟩
    · simp only [Array.size_append, List.size_toArray, size_zeroCells, E.one, List.length_append, hlc, hl2, List.length_singleton]
      omega
    · simp only [Array.toList_append]
      rw [cells8_append, Nat.mul_one, List.take_append_of_le_length (by simp; omega), List.take_of_length_le (by simp; omega)]
  unfold Oper.wp
  simp [execOp, ho, resolve, invoke, builtin, hs, hx, hr, Result.andThen]
  exact hK _ _ (hk _ _ hown (((Below.refl _ w).drew).alloc (Nat.le_refl _) _))
theorem wpList_loadD {d : TypeDesc} {n : Nat} (E : Rw P t d n) (hg : o.guard = none) (x : Operand) (hop : o.op = .load t x) {g off : Nat} {vs : List Value} (hx : a.eval x = .pointer (some ⟨g, off, none⟩)) (hr : w.rangeAt g off vs) (hn : vs.length = n)
    (h : wpList P ops Q rest (a.put o.dst (.agg vs.toArray)) w) : wpList P ops Q (o :: rest) a w := by
  refine wpList_plain hg fun K hK => ?_
  unfold Oper.wp
  simp only [execOp, hop, hx, Sem.run_bind, run_loadAt_mid w g off t vs d hr E.ty E.row (by rw [E.size, hn]), Result.andThen_ok, Sem.run_pure]
  exact hK _ _ h
end
theorem refput8_any (N : Nat) (w : World) (h : N < 18446744073709551616) :
    Calls Try.prog 31 #[.int .u64 N, .int .i64 8] w fun e w' => ∃ A c, e = .returned (.slice A 8 c) ∧ Bs w' w'.heap.size A 8 c (putN N 8) ∧ Below w.heap.size w w' := by
  refine (refput_any N 8 w h).mono ?_
  rintro e w' ⟨v, rfl, ho, hb⟩
  obtain ⟨A, c, rfl, hB⟩ := Bs.of_own ho
  exact ⟨A, c, rfl, hB, hb⟩
theorem refput4_any (N : Nat) (w : World) (h : N < 18446744073709551616) :
    Calls Try.prog 31 #[.int .u64 N, .int .i64 4] w fun e w' => ∃ A c, e = .returned (.slice A 4 c) ∧ Bs w' w'.heap.size A 4 c (putN N 4) ∧ Below w.heap.size w w' := by
  refine (refput_any N 4 w h).mono ?_
  rintro e w' ⟨v, rfl, ho, hb⟩
  obtain ⟨A, c, rfl, hB⟩ := Bs.of_own ho
  exact ⟨A, c, rfl, hB, hb⟩
theorem sliceD_any (D : List UInt8) (hD : D.length = 32) (w : World) :
    Calls Try.prog 32 #[.agg (cells8 D).toArray] w fun e w' => ∃ A c, e = .returned (.slice A 32 c) ∧ Bs w' w'.heap.size A 32 c D ∧ Below w.heap.size w w' := by
  refine (slice_any D hD w).mono ?_
  rintro e w' ⟨v, rfl, ho, hb⟩
  obtain ⟨A, c, rfl, hB⟩ := Bs.of_own ho
  exact ⟨A, c, rfl, hB, hb⟩
theorem own_app_below {w w' : World} {base n : Nat} {v : Value} {xs : List Value} (h : w.ownsRow base 5 1 v n xs) (hB : base ≤ w.heap.size) (hg : w.grownBy w' v.ownBlock) : Below base w w' := below_of_grown h hB hg
/-- the begin of a record's bytes: so many digests -/
def preL (num b : Nat) (sl : List UInt8) (su : List (List UInt8)) (k : Nat) : List UInt8 := markL ++ putN num 8 ++ putN b 4 ++ sl ++ (su.take k).flatten
theorem preL_succ (num b : Nat) (sl : List UInt8) (su : List (List UInt8)) (k : Nat) (h : k < su.length) : preL num b sl su (k + 1) = preL num b sl su k ++ su[k] := by
  unfold preL; rw [List.take_succ_eq_append_getElem h, List.flatten_append, List.append_assoc]; simp [List.append_assoc]
theorem preL_all (num b : Nat) (sl : List UInt8) (su : List (List UInt8)) (k : Nat) (h : su.length ≤ k) : preL num b sl su k = bodyL ⟨num, (b : Int), sl, su⟩ := by
  unfold preL bodyL; rw [List.take_of_length_le h]; rfl

set_option maxRecDepth 100000 in
set_option maxHeartbeats 8000000 in
theorem refencode_any (key : List UInt8) (KA : Option Addr) (kn kc : Nat) (r : Rc) (A : Option Addr) (n c : Nat) (D : Option Addr) (m e : Nat) (w : World) (hK : Bs w w.heap.size KA kn kc key) (hR : Rs w w.heap.size A n c D m e r) (hkn : kn ≤ 524288) (hn : n ≤ 1000000) :
    Calls Try.prog 13 #[.slice KA kn kc, rcV r A n c D m e] w fun x w' => Below w.heap.size w w' ∧
      ((¬ Rt r ∧ x = .returned (.tuple #[.slice none 0 0, .int .i64 2])) ∨
       (Rt r ∧ ∃ A' c', x = .returned (.tuple #[.slice A' (encL key r).length c', .int .i64 0]) ∧ Bs w' w'.heap.size A' (encL key r).length c' (encL key r))) := by
  have HK : Kp _ := ⟨hK⟩
  have HR : Kp _ := ⟨hR⟩
  have HKn : Kp _ := ⟨hkn⟩
  have HNn : Kp _ := ⟨hn⟩
  clear hK hR hkn hn
  go_enter Try.func13, Try.ntmps13
  go_wp2_with (with_reducible refine wpList_box (o := ⟨some 3, _, _, _, _, _⟩) (cs := rcL r.num r.blk A n c D m e) rfl (.tmp 1) rfl rfl ?_)
  intro w1 hk1 hb1 hs1
  have HK1 : Kp _ := ⟨hk1⟩
  have HB1 : Kp _ := ⟨hb1⟩
  have HR1 : Kp _ := ⟨HR.out.next hb1 (Nat.le_refl _)⟩
  clear hk1 hb1 hs1
  go_wp2_with (with_reducible refine wpList_loadAll (o := ⟨some 8, _, _, _, _, _⟩) rwSeal rfl (.tmp 3) rfl rfl HK1.out rfl ?_)
  refine (refright_any r A n c D m e w1 HR1.out HNn.out).mono ?_
  rintro x w2 ⟨rfl, hb2⟩
  have HK2 : Kp _ := ⟨HK1.out.below hb2 HK1.out.lt⟩
  have HB2 : Kp (Below w.heap.size w w2) := ⟨HB1.out.trans (hb2.mono HB1.out.size)⟩
  clear hb2 HK1 HR1
  by_cases ht : Rt r
  · have hd : decide (Rt r) = true := decide_eq_true ht
    rw [hd]
    obtain ⟨num, blk, sl, su⟩ := r
    obtain ⟨b, rfl⟩ : ∃ b : Nat, blk = (b : Int) := ⟨blk.toNat, by have := ht.lo; simp at this ⊢; omega⟩
    have hb4 : b ≤ 4096 := by have := ht.hi; simp at this; omega
    have HT : Kp _ := ⟨ht⟩
    have HLn : Kp (sl.length = n) := ⟨HR.out.sl.len⟩
    have HLm : Kp (su.length = m) := ⟨HR.out.su.len⟩
    have HN5 : Kp (n ≤ 512 ∧ m ≤ 256) := ⟨by have := ht.sl; have := ht.su; have h1 := HLn.out; have h2 := HLm.out; simp at *; omega⟩
    have HNum : Kp (num < 18446744073709551616) := ⟨HR.out.num⟩
    have HB4 : Kp _ := ⟨hb4⟩
    have wb : IntKind.u64.wrap (b : Int) = (b : Int) := by rw [IntKind.wrap_u64]; omega
    have HG2 : Kp (w.heap.size < w2.heap.size) := ⟨HK2.out.lt⟩
    have HKo : Kp (∀ W, Below w2.heap.size w2 W → Bs W W.heap.size KA kn kc key) := ⟨fun W h => HK.out.next (HB2.out.trans (h.mono HB2.out.size)) (Nat.le_refl _)⟩
    have HSo : Kp (∀ W, Below w2.heap.size w2 W → Bs W W.heap.size A n c sl) := ⟨fun W h => HR.out.sl.next (HB2.out.trans (h.mono HB2.out.size)) (Nat.le_refl _)⟩
    have HDo : Kp (∀ W, Below w2.heap.size w2 W → Ds W W.heap.size D m e su) := ⟨fun W h => HR.out.su.next (HB2.out.trans (h.mono HB2.out.size)) (Nat.le_refl _)⟩
    clear hd ht hb4 HK HR HB1
    go_wp2_with (with_reducible refine wpList_lit (o := ⟨some 12, _, _, _, _, _⟩) el8 Try.underlying5 (by kernel_rfl) (.tmp 11) rfl markL rfl 4 rfl (by decide) rfl ?_)
    intro w3 hbs3 hb3
    have HM3 : Kp _ := ⟨hbs3⟩
    have HW3 : Kp (Below w2.heap.size w2 w3) := ⟨hb3⟩
    have c0 : w3.cell? ⟨w.heap.size, 0, none⟩ = some (.int .u64 num) := (hb3.cell (p := ⟨w.heap.size, 0, none⟩) HG2.out).trans (HK2.out.cell? 0)
    clear hbs3 hb3
    go_wp2_with fail
    refine (refput8_any num w3 HNum.out).mono ?_
    rintro x w4 ⟨A4, c4, rfl, hbs4, hb4⟩
    have HM4 : Kp _ := ⟨HM3.out.next hb4 (Nat.le_refl _)⟩
    have HP4 : Kp _ := ⟨hbs4⟩
    have HW4 : Kp (Below w2.heap.size w2 w4) := ⟨HW3.out.trans (hb4.mono HW3.out.size)⟩
    clear hbs4 hb4 c0 HM3 HW3
    go_wp2_with (at_builtin; refine wpList_app_full el8 rfl _ _ rfl rfl HM4.out rfl HP4.out (by omega) (by simp only [maxLen]; omega) (by omega) ?_)
    intro v5 w5 hown5 hb5
    obtain ⟨A5, c5, rfl⟩ := own_form' hown5
    have HW5 : Kp (Below w2.heap.size w2 w5) := ⟨HW4.out.trans (hb5.mono HW4.out.size)⟩
    have HO5 : Kp (w5.ownsRow w2.heap.size 5 1 (.slice A5 12 c5) 12 (cells8 (markL ++ putN num 8))) := ⟨own_le hown5 HW4.out.size⟩
    have c1 : w5.cell? ⟨w.heap.size, 1, none⟩ = some (.int .i64 b) := (HW5.out.cell (p := ⟨w.heap.size, 1, none⟩) HG2.out).trans (HK2.out.cell? 1)
    clear hown5 hb5 HM4 HP4 HW4
    go_wp2_with fail
    refine (refput4_any b w5 (by have := HB4.out; omega)).mono ?_
    rintro x w6 ⟨A6, c6, rfl, hbs6, hb6⟩
    have HO6 : Kp _ := ⟨own_below HO5.out hb6⟩
    have HP6 : Kp _ := ⟨hbs6⟩
    have HW6 : Kp (Below w2.heap.size w2 w6) := ⟨HW5.out.trans (hb6.mono HW5.out.size)⟩
    clear hbs6 hb6 c1 HO5 HW5
    go_wp2_with (at_builtin; refine wpList_app el8 rfl _ _ rfl w2.heap.size _ 12 _ rfl HO6.out A6 4 c6 (cells8 (putN b 4)) rfl (by rw [cells8_length, putN_length]) (fun h => by have := HP6.out.nil h; have := HP6.out.cap; omega) HP6.out.news (cells8_one _) (by simp only [maxLen]; omega) (by omega) HW6.out.size ?_)
    intro v7 w7 hown7 hg7 _
    obtain ⟨A7, c7, rfl⟩ := own_form' hown7
    have HW7 : Kp (Below w2.heap.size w2 w7) := ⟨HW6.out.trans (own_app_below HO6.out HW6.out.size hg7)⟩
    have HO7 : Kp (w7.ownsRow w2.heap.size 5 1 (.slice A7 16 c7) 16 (cells8 (markL ++ putN num 8 ++ putN b 4))) := ⟨by rw [cells8_append (markL ++ putN num 8)]; exact hown7⟩
    have c2 : w7.cell? ⟨w.heap.size, 2, none⟩ = some (.slice A n c) := (HW7.out.cell (p := ⟨w.heap.size, 2, none⟩) HG2.out).trans (HK2.out.cell? 2)
    have HS7 : Kp _ := ⟨HSo.out w7 HW7.out⟩
    clear hown7 hg7 HO6 HP6 HW6
    go_wp2_with (at_builtin; refine wpList_app el8 rfl _ _ rfl w2.heap.size _ 16 _ rfl HO7.out A n c (cells8 sl) rfl (by rw [cells8_length]; exact HLn.out) (fun h => ⟨by have := HS7.out.nil h; have := HS7.out.cap; omega, HS7.out.nil h⟩) HS7.out.news (cells8_one _) (by simp only [maxLen]; have := HN5.out; omega) (by have := HN5.out; omega) HW7.out.size ?_)
    intro v8 w8 hown8 hg8 _
    obtain ⟨A8, c8, rfl⟩ := own_form' hown8
    have HW8 : Kp (Below w2.heap.size w2 w8) := ⟨HW7.out.trans (own_app_below HO7.out HW7.out.size hg8)⟩
    have HO8 : Kp (w8.ownsRow w2.heap.size 5 1 (.slice A8 (16 + n) c8) (16 + n) (cells8 (preL num b sl su 0))) := ⟨by unfold preL; rw [List.take_zero, List.flatten_nil, List.append_nil, cells8_append (markL ++ putN num 8 ++ putN b 4)]; exact hown8⟩
    have hm2 : m ≤ 256 := HN5.out.2
    have hn5 : n ≤ 512 := HN5.out.1
    clear hown8 hg8 HO7 HS7 HW7 c2 wb
    go_wp2
    go_loopw [6, 7] (fun v i wr => ∃ (k : Nat) (A' : Option Addr) (c' : Nat), k ≤ m ∧ i = .int .i64 k ∧ v = .slice A' (16 + n + 32 * k) c' ∧ Kp (wr.ownsRow w2.heap.size 5 1 (.slice A' (16 + n + 32 * k) c') (16 + n + 32 * k) (cells8 (preL num b sl su k))) ∧ Kp (Below w2.heap.size w2 wr)) (fun _ i _ => m - (intOf i).toNat)
    case atStart => exact ⟨0, A8, c8, Nat.zero_le _, rfl, rfl, HO8, HW8⟩
    case round =>
      clear HO8 HW8
      obtain ⟨k, A', c', hk, rfl, rfl, HO, HW⟩ := hrel
      have c3 : wr.cell? ⟨w.heap.size, 3, none⟩ = some (.slice D m e) := (HW.out.cell (p := ⟨w.heap.size, 3, none⟩) HG2.out).trans (HK2.out.cell? 3)
      by_cases hlt : k < m
      · have hks : k < su.length := by rw [HLm.out]; exact hlt
        obtain ⟨b1, o1, rfl, _, hrg, hd32⟩ := (HDo.out wr HW.out).at hlt
        have HRg : Kp _ := ⟨hrg⟩
        have HD32 : Kp _ := ⟨hd32⟩
        have HPs : Kp _ := ⟨preL_succ num b sl su k hks⟩
        generalize su[k] = d at *
        have HC32 : Kp ((cells8 d).length = 32) := ⟨by rw [cells8_length, HD32.out]⟩
        clear hrg hd32
        go_wp2_with (with_reducible refine wpList_loadD (o := ⟨some 40, _, _, _, _, _⟩) rwDig rfl (.tmp 39) rfl rfl HRg.out HC32.out ?_)
        refine (sliceD_any d HD32.out wr).mono ?_
        rintro x w9 ⟨A9, c9, rfl, hbs9, hb9⟩
        have HO9 : Kp _ := ⟨own_below HO.out hb9⟩
        have HP9 : Kp _ := ⟨hbs9⟩
        have HW9 : Kp (Below w2.heap.size w2 w9) := ⟨HW.out.trans (hb9.mono HW.out.size)⟩
        clear hbs9 hb9 c3 HO HW
        go_wp2_with (at_builtin; refine wpList_app el8 rfl _ _ rfl w2.heap.size _ (16 + n + 32 * k) _ rfl HO9.out A9 32 c9 (cells8 d) rfl HC32.out (fun h => by have := HP9.out.nil h; have := HP9.out.cap; omega) HP9.out.news (cells8_one _) (by simp only [maxLen]; omega) (by omega) HW9.out.size ?_)
        intro v10 w10 hown10 hg10 _
        obtain ⟨A10, c10, rfl⟩ := own_form' hown10
        have HW10 : Kp (Below w2.heap.size w2 w10) := ⟨HW9.out.trans (own_app_below HO9.out HW9.out.size hg10)⟩
        have HO10 : Kp (w10.ownsRow w2.heap.size 5 1 (.slice A10 (16 + n + 32 * (k + 1)) c10) (16 + n + 32 * (k + 1)) (cells8 (preL num b sl su (k + 1)))) := ⟨by rw [HPs.out, cells8_append]; exact hown10⟩
        clear hown10 hg10 HO9 HP9 HW9
        go_wp2
        go_roundw
        case rel => exact ⟨k + 1, A10, c10, by omega, by go_num, rfl, HO10, HW10⟩
        case measure => simp [intOf]; omega
      · obtain rfl : k = m := by omega
        have HPa : Kp (preL num b sl su k = bodyL ⟨num, (b : Int), sl, su⟩) := ⟨preL_all num b sl su k (by rw [HLm.out]; exact Nat.le_refl _)⟩
        rw [HPa.out] at HO
        have HKw : Kp _ := ⟨HKo.out wr HW.out⟩
        have HBw : Kp _ := ⟨Bs.of_own' HO.out⟩
        have HEn : Kp ((encL key ⟨num, (b : Int), sl, su⟩).length = 16 + n + 32 * k + 32 ∧ bodyL ⟨num, (b : Int), sl, su⟩ ++ hmacL key (bodyL ⟨num, (b : Int), sl, su⟩) = encL key ⟨num, (b : Int), sl, su⟩) := ⟨by
          rw [encL_len _ _ ⟨HNum.out, (HDo.out wr HW.out).wide⟩]
          have h1 := HLn.out
          have h2 := HLm.out
          show 48 + sl.length + 32 * su.length = _
          omega, rfl⟩
        have HLt : Kp ((hmacL key (bodyL ⟨num, (b : Int), sl, su⟩)).length = 32) := ⟨shaL_len _⟩
        clear HPa
        go_wp2_with fail
        refine (reftag_any KA kn kc key A' (16 + n + 32 * k) c' _ wr HKw.out HBw.out (by have := HKn.out; omega) (by omega)).mono ?_
        rintro x w11 ⟨rfl, hb11⟩
        have HO11 : Kp _ := ⟨own_below HO.out hb11⟩
        have HW11 : Kp (Below w2.heap.size w2 w11) := ⟨HW.out.trans (hb11.mono HW.out.size)⟩
        generalize hmacL key (bodyL ⟨num, (b : Int), sl, su⟩) = tg at *
        clear hb11 HO HW HKw HBw c3
        go_wp2_with fail
        refine (sliceD_any tg HLt.out w11).mono ?_
        rintro x w12 ⟨A12, c12, rfl, hbs12, hb12⟩
        have HO12 : Kp _ := ⟨own_below HO11.out hb12⟩
        have HP12 : Kp _ := ⟨hbs12⟩
        have HW12 : Kp (Below w2.heap.size w2 w12) := ⟨HW11.out.trans (hb12.mono HW11.out.size)⟩
        clear hbs12 hb12 HO11 HW11
        go_wp2_with (at_builtin; refine wpList_app el8 rfl _ _ rfl w2.heap.size _ (16 + n + 32 * k) _ rfl HO12.out A12 32 c12 (cells8 tg) rfl (by rw [cells8_length]; exact HLt.out) (fun h => by have := HP12.out.nil h; have := HP12.out.cap; omega) HP12.out.news (cells8_one _) (by simp only [maxLen]; omega) (by omega) HW12.out.size ?_)
        intro v13 w13 hown13 hg13 _
        obtain ⟨A13, c13, rfl⟩ := own_form' hown13
        have HB13 : Kp (Below w.heap.size w w13) := ⟨HB2.out.trans ((HW12.out.trans (own_app_below HO12.out HW12.out.size hg13)).mono HB2.out.size)⟩
        rw [← cells8_append, HEn.out.2] at hown13
        have HO13 : Kp _ := ⟨hown13⟩
        clear hown13 hg13 HO12 HP12 HW12
        go_wp2
        go_ret2
        refine ⟨HB13.out, .inr ⟨HT.out, A13, c13, ?_, ?_⟩⟩
        · rw [HEn.out.1]; rfl
        · rw [HEn.out.1]; exact Bs.of_own' HO13.out
  · have hd : decide (Rt r) = false := decide_eq_false ht
    rw [hd]
    have HT : Kp _ := ⟨ht⟩
    clear hd ht
    go_wp2
    go_ret2
    exact ⟨HB2.out, .inl ⟨HT.out, rfl⟩⟩
end Go.Proofs.Ytadpfbjpkbpanaa

namespace Go.Proofs.Ytadpfbjpkbpanaa
open Go.RowKit

/-- what a record is sealed as, or nothing; the error -/
noncomputable def encE (key : List UInt8) (r : Rc) : List UInt8 := if Rt r then encL key r else []
noncomputable def encF (r : Rc) : Int := if Rt r then 0 else 2
theorem encode_uni (key : List UInt8) (KA : Option Addr) (kn kc : Nat) (r : Rc) (A : Option Addr) (n c : Nat) (D : Option Addr) (m e : Nat) (w : World) (hK : Bs w w.heap.size KA kn kc key) (hR : Rs w w.heap.size A n c D m e r) (hkn : kn ≤ 524288) (L : List UInt8) (hL : encE key r = L) (F : Int) (hF : encF r = F) :
    Calls Try.prog 12 #[.slice KA kn kc, rcV r A n c D m e] w fun x w' => ∃ A' N c', x = .returned (.tuple #[.slice A' N c', .int .i64 F]) ∧ Bs w' w'.heap.size A' N c' L ∧ Below w.heap.size w w' := by
  refine (encode_any key KA kn kc r A n c D m e w hK hR hkn).mono ?_
  rintro x w' ⟨hb, ⟨h, rfl⟩ | ⟨h, A', c', rfl, h2⟩⟩
  · subst hL hF
    unfold encE encF
    rw [if_neg h, if_neg h]
    exact ⟨none, 0, 0, rfl, Bs.zero _ _, hb⟩
  · subst hL hF
    unfold encE encF
    rw [if_pos h, if_pos h]
    exact ⟨A', _, c', rfl, h2, hb⟩
theorem refencode_uni (key : List UInt8) (KA : Option Addr) (kn kc : Nat) (r : Rc) (A : Option Addr) (n c : Nat) (D : Option Addr) (m e : Nat) (w : World) (hK : Bs w w.heap.size KA kn kc key) (hR : Rs w w.heap.size A n c D m e r) (hkn : kn ≤ 524288) (hn : n ≤ 1000000) (L : List UInt8) (hL : encE key r = L) (F : Int) (hF : encF r = F) :
    Calls Try.prog 13 #[.slice KA kn kc, rcV r A n c D m e] w fun x w' => ∃ A' N c', x = .returned (.tuple #[.slice A' N c', .int .i64 F]) ∧ Bs w' w'.heap.size A' N c' L ∧ Below w.heap.size w w' := by
  refine (refencode_any key KA kn kc r A n c D m e w hK hR hkn hn).mono ?_
  rintro x w' ⟨hb, ⟨h, rfl⟩ | ⟨h, A', c', rfl, h2⟩⟩
  · subst hL hF
    unfold encE encF
    rw [if_neg h, if_neg h]
    exact ⟨none, 0, 0, rfl, Bs.zero _ _, hb⟩
  · subst hL hF
    unfold encE encF
    rw [if_pos h, if_pos h]
    exact ⟨A', _, c', rfl, h2, hb⟩
theorem right_as (t : Bool) (r : Rc) (A : Option Addr) (n c : Nat) (D : Option Addr) (m e : Nat) (w : World) (hR : Rs w w.heap.size A n c D m e r) (ht : decide (Rt r) = t) :
    Calls Try.prog 15 #[rcV r A n c D m e] w fun x w' => x = .returned (.bool t) ∧ Below w.heap.size w w' := by
  have h := right_any r A n c D m e w hR
  rwa [ht] at h
theorem slot_as (S : Nat) (r : Rc) (A : Option Addr) (n c : Nat) (D : Option Addr) (m e : Nat) (a : Int) (w : World) (hR : Rs w w.heap.size A n c D m e r) (ha : -9223372036854775808 ≤ a ∧ a < 9223372036854775808) (hS : slotI r.sl a = S) :
    Calls Try.prog 17 #[rcV r A n c D m e, .int .i64 a] w fun x w' => x = .returned (.int .i64 (S : Nat)) ∧ Below w.heap.size w w' := by
  have h := slot_any r A n c D m e a w hR ha
  rwa [hS] at h
theorem refslot_as (S : Nat) (r : Rc) (A : Option Addr) (n c : Nat) (D : Option Addr) (m e : Nat) (a : Int) (w : World) (hR : Rs w w.heap.size A n c D m e r) (ha : -9223372036854775808 ≤ a ∧ a < 9223372036854775808) (hS : slotI r.sl a = S) :
    Calls Try.prog 18 #[rcV r A n c D m e, .int .i64 a] w fun x w' => x = .returned (.int .i64 (S : Nat)) ∧ Below w.heap.size w w' := by
  have h := refslot_any r A n c D m e a w hR ha
  rwa [hS] at h

set_option maxRecDepth 100000 in
set_option maxHeartbeats 8000000 in
theorem law_sealEncodes (KA : Option Addr) (kn kc : Nat) (key : List UInt8) (r : Rc) (A : Option Addr) (n c : Nat) (D : Option Addr) (m e : Nat) (q : Rc) (A2 : Option Addr) (n2 c2 : Nat) (D2 : Option Addr) (m2 e2 : Nat) (a : Int) (w : World) (hK0 : Bs w w.heap.size KA kn kc key ∧ kc ≤ 140737488351232)
    (hR : Rs w w.heap.size A n c D m e r) (hn : n ≤ 140737488351232) (hm : m * 32 ≤ 140737488351232) (hQ : Rs w w.heap.size A2 n2 c2 D2 m2 e2 q) (hn2 : n2 ≤ 140737488351232) (hm2 : m2 * 32 ≤ 140737488351232) (ha : (Lit.int .i64 a).wf = true) :
    Calls Try.prog 3 #[.slice KA kn kc, rcV r A n c D m e, rcV q A2 n2 c2 D2 m2 e2, .int .i64 a] w fun x w' => x = .returned (.bool true) ∧ Below w.heap.size w w' := by
  have hK := hK0.1
  clear hK0
  have ha2 := bounds_i64 ha
  have HAa : Kp (-9223372036854775808 ≤ a ∧ a < 9223372036854775808) := ⟨by omega⟩
  obtain ⟨S1, hS1⟩ : ∃ S, n + 32 * m = S := ⟨_, rfl⟩
  obtain ⟨S2, hS2⟩ : ∃ S, n2 + 32 * m2 = S := ⟨_, rfl⟩
  have HR : Kp _ := ⟨hR⟩
  have HQ : Kp _ := ⟨hQ⟩
  have HK : Kp _ := ⟨hK⟩
  have hk63 := hK.le
  have HS1 : Kp _ := ⟨hS1⟩
  have HS2 : Kp _ := ⟨hS2⟩
  have HN : Kp (n ≤ 140737488351232 ∧ m * 32 ≤ 140737488351232 ∧ n2 ≤ 140737488351232 ∧ m2 * 32 ≤ 140737488351232) := ⟨⟨hn, hm, hn2, hm2⟩⟩
  clear hR hQ hn hm hn2 hm2 hK hS1 hS2 ha ha2
  go_enter Try.func3, Try.ntmps3
  go_wp2_with (with_reducible refine wpList_box (o := ⟨some 5, _, _, _, _, _⟩) (cs := rcL r.num r.blk A n c D m e) rfl (.tmp 1) rfl rfl ?_)
  intro w1 hk1 hb1 hs1
  have HK1 : Kp _ := ⟨hk1⟩
  have HB1 : Kp _ := ⟨hb1⟩
  clear hk1 hb1 hs1
  go_wp2_with (with_reducible refine wpList_box (o := ⟨some 6, _, _, _, _, _⟩) (cs := rcL q.num q.blk A2 n2 c2 D2 m2 e2) rfl (.tmp 2) rfl rfl ?_)
  intro w2 hk2 hb2 hs2
  have HX : Kp _ := ⟨HK1.out.below hb2 HK1.out.lt⟩
  have HY : Kp _ := ⟨hk2⟩
  have HB2 : Kp (Below w.heap.size w w2) := ⟨HB1.out.trans (hb2.mono HB1.out.size)⟩
  have HRv : Kp (∀ W, Below w2.heap.size w2 W → Rs W W.heap.size A n c D m e r) := ⟨fun W h => HR.out.next (HB2.out.trans (h.mono HB2.out.size)) (Nat.le_refl _)⟩
  have HQv : Kp (∀ W, Below w2.heap.size w2 W → Rs W W.heap.size A2 n2 c2 D2 m2 e2 q) := ⟨fun W h => HQ.out.next (HB2.out.trans (h.mono HB2.out.size)) (Nat.le_refl _)⟩
  have HKv : Kp (∀ W, Below w2.heap.size w2 W → Bs W W.heap.size KA kn kc key) := ⟨fun W h => HK.out.next (HB2.out.trans (h.mono HB2.out.size)) (Nat.le_refl _)⟩
  clear hk2 hb2 hs2 HK1 HB1 HR HQ HK
  by_cases hk : 100 < kn
  · have dk : decide ((100 : Int) < (kn : Int)) = true := decide_eq_true (by omega)
    clear hk
    go_wp2_with fail
    refine (known8_any w2).mono ?_
    rintro xk wk ⟨rfl, hbk⟩
    have HBk : Kp (Below w.heap.size w wk) := ⟨HB2.out.trans (hbk.mono HB2.out.size)⟩
    clear hbk
    go_wp2
    go_ret
    exact ⟨rfl, HBk.out⟩
  · have dk : decide ((100 : Int) < (kn : Int)) = false := decide_eq_false (by omega)
    have HK100 : Kp (kn ≤ 100) := ⟨by omega⟩
    clear hk
    go_wp2_with (with_reducible refine wpList_loadAll_g (o := ⟨some 17, _, _, _, _, _⟩) rwSeal (by kernel_rfl) (.tmp 5) rfl rfl HX.out rfl ?_)
    refine (reflong_as S1 r A n c D m e w2 HN.out.1 HN.out.2.1 HS1.out).mono ?_
    rintro x w3 ⟨rfl, hb3⟩
    have HX3 : Kp _ := ⟨HX.out.below hb3 HX.out.lt⟩
    have HY3 : Kp _ := ⟨HY.out.below hb3 HY.out.lt⟩
    have HW3 : Kp (Below w2.heap.size w2 w3) := ⟨hb3⟩
    have HB3 : Kp (Below w.heap.size w w3) := ⟨HB2.out.trans (hb3.mono HB2.out.size)⟩
    clear hb3 HX HY
    by_cases hs : 1000 < S1
    · have ds : decide ((1000 : Int) < (S1 : Int)) = true := decide_eq_true (by omega)
      clear hs
      go_wp2_with fail
      refine (known8_any w3).mono ?_
      rintro xk wk ⟨rfl, hbk⟩
      have HBk : Kp (Below w.heap.size w wk) := ⟨HB3.out.trans (hbk.mono HB3.out.size)⟩
      clear hbk
      go_wp2
      go_ret
      exact ⟨rfl, HBk.out⟩
    · have ds : decide ((1000 : Int) < (S1 : Int)) = false := decide_eq_false (by omega)
      have HSm : Kp (n ≤ 1000 ∧ m ≤ 31) := ⟨by have := HS1.out; omega⟩
      clear hs
      go_wp2_with (with_reducible refine wpList_loadAll_g (o := ⟨some 22, _, _, _, _, _⟩) rwSeal (by kernel_rfl) (.tmp 6) rfl rfl HY3.out rfl ?_)
      refine (reflong_as S2 q A2 n2 c2 D2 m2 e2 w3 HN.out.2.2.1 HN.out.2.2.2 HS2.out).mono ?_
      rintro x w4 ⟨rfl, hb4⟩
      have HX4 : Kp _ := ⟨HX3.out.below hb4 HX3.out.lt⟩
      have HY4 : Kp _ := ⟨HY3.out.below hb4 HY3.out.lt⟩
      have HW4 : Kp (Below w2.heap.size w2 w4) := ⟨HW3.out.trans (hb4.mono HW3.out.size)⟩
      have HB4 : Kp (Below w.heap.size w w4) := ⟨HB3.out.trans (hb4.mono HB3.out.size)⟩
      clear hb4 HX3 HY3 HW3 HB3
      by_cases hs2 : 1000 < S2
      · have ds2 : decide ((1000 : Int) < (S2 : Int)) = true := decide_eq_true (by omega)
        clear hs2
        go_wp2_with fail
        refine (known8_any w4).mono ?_
        rintro xk wk ⟨rfl, hbk⟩
        have HBk : Kp (Below w.heap.size w wk) := ⟨HB4.out.trans (hbk.mono HB4.out.size)⟩
        clear hbk
        go_wp2
        go_ret
        exact ⟨rfl, HBk.out⟩
      · have ds2 : decide ((1000 : Int) < (S2 : Int)) = false := decide_eq_false (by omega)
        have HR4 : Kp _ := ⟨HRv.out w4 HW4.out⟩
        have HK4 : Kp _ := ⟨HKv.out w4 HW4.out⟩
        obtain ⟨L, hL⟩ : ∃ L, encE key r = L := ⟨_, rfl⟩
        obtain ⟨F, hF⟩ : ∃ F, encF r = F := ⟨_, rfl⟩
        have HL : Kp _ := ⟨hL⟩
        have HF : Kp _ := ⟨hF⟩
        clear hs2 hL hF
        go_wp2_with (with_reducible refine wpList_loadAll (o := ⟨some 29, _, _, _, _, _⟩) rwSeal rfl (.tmp 5) rfl rfl HX4.out rfl ?_)
        clear dk ds ds2 hk63
        refine (encode_uni key KA kn kc r A n c D m e w4 HK4.out HR4.out (by have := HK100.out; omega) L HL.out F HF.out).mono ?_
        rintro x w5 ⟨A5, N5, c5, rfl, hbs5, hb5⟩
        have HX5 : Kp _ := ⟨HX4.out.below hb5 HX4.out.lt⟩
        have HY5 : Kp _ := ⟨HY4.out.below hb5 HY4.out.lt⟩
        have HW5 : Kp (Below w2.heap.size w2 w5) := ⟨HW4.out.trans (hb5.mono HW4.out.size)⟩
        have HE5 : Kp _ := ⟨hbs5⟩
        have HR5 : Kp _ := ⟨HRv.out w5 HW5.out⟩
        have HK5 : Kp _ := ⟨HKv.out w5 HW5.out⟩
        clear hbs5 hb5 HX4 HY4 HW4 HR4 HK4
        go_wp2_with (with_reducible refine wpList_loadAll (o := ⟨some 35, _, _, _, _, _⟩) rwSeal rfl (.tmp 5) rfl rfl HX5.out rfl ?_)
        refine (refencode_uni key KA kn kc r A n c D m e w5 HK5.out HR5.out (by have := HK100.out; omega) (by have := HSm.out; omega) L HL.out F HF.out).mono ?_
        rintro x w6 ⟨A6, N6, c6, rfl, hbs6, hb6⟩
        have HX6 : Kp _ := ⟨HX5.out.below hb6 HX5.out.lt⟩
        have HY6 : Kp _ := ⟨HY5.out.below hb6 HY5.out.lt⟩
        have HW6 : Kp (Below w2.heap.size w2 w6) := ⟨HW5.out.trans (hb6.mono HW5.out.size)⟩
        have HB6 : Kp (Below w.heap.size w w6) := ⟨HB2.out.trans (HW6.out.mono HB2.out.size)⟩
        have HE6 : Kp _ := ⟨HE5.out.next hb6 (Nat.le_refl _)⟩
        have HG6 : Kp _ := ⟨hbs6⟩
        have HRx : Kp _ := ⟨Blk.range (off := 0) (n := 4) HX6.out rfl⟩
        have HRy : Kp _ := ⟨Blk.range (off := 0) (n := 4) HY6.out rfl⟩
        have HLx : Kp _ := ⟨HX6.out.lt⟩
        have HLy : Kp _ := ⟨HY6.out.lt⟩
        have HRw : Kp (∀ W, Below w6.heap.size w6 W → Rs W W.heap.size A n c D m e r) := ⟨fun W h => HRv.out W (HW6.out.trans (h.mono HW6.out.size))⟩
        have HQw : Kp (∀ W, Below w6.heap.size w6 W → Rs W W.heap.size A2 n2 c2 D2 m2 e2 q) := ⟨fun W h => HQv.out W (HW6.out.trans (h.mono HW6.out.size))⟩
        have HEw : Kp (∀ W, Below w6.heap.size w6 W → Bs W W.heap.size A5 N5 c5 L) := ⟨fun W h => HE6.out.next h (Nat.le_refl _)⟩
        have HGw : Kp (∀ W, Below w6.heap.size w6 W → Bs W W.heap.size A6 N6 c6 L) := ⟨fun W h => HG6.out.next h (Nat.le_refl _)⟩
        obtain ⟨t, ht⟩ : ∃ t, decide (Rt r) = t := ⟨_, rfl⟩
        obtain ⟨s, hs⟩ : ∃ s, slotI r.sl a = s := ⟨_, rfl⟩
        obtain ⟨sb, hsb⟩ : ∃ s, sameB r q = s := ⟨_, rfl⟩
        have HT : Kp _ := ⟨ht⟩
        have HSl : Kp _ := ⟨hs⟩
        have HSb : Kp _ := ⟨hsb⟩
        have HN5 : Kp (n ≤ 1000000 ∧ m ≤ 1000000) := ⟨by have := HSm.out; omega⟩
        clear hbs6 hb6 HX5 HY5 HW5 HE5 HR5 HK5 HE6 HG6 HRv HQv HKv ht hs hsb HL HF
        go_wp2_with fail
        refine wp_region_held_drew (S := fun W => Below w6.heap.size w6 W) (by kernel_rfl) ((Below.refl _ _).drew) (fun hHeld => ?_)
        generalize w6.drew = wS at *
        refine wpAnyH_take (i := 0) (oi := ⟨some 39, _, _, _, _, _⟩) (v := ?_) rfl (by kernel_rfl) (by kernel_rfl) (by kernel_rfl) (fun _ _ _ h => h) (Or.inl ⟨by rfl, by intro w hSw; go_simp; try rfl⟩) (by assumption) ?_
        try simp only [Act.put, List.setIfInBounds_toArray, List.set_cons_zero, List.set_cons_succ]
        refine wpAnyH_take (i := 1) (oi := ⟨some 40, _, _, _, _, _⟩) (v := ?_) rfl (by kernel_rfl) (by kernel_rfl) (by kernel_rfl) (fun _ _ _ h => h) (Or.inl ⟨by rfl, by intro w hSw; go_simp; try rfl⟩) (by assumption) ?_
        try simp only [Act.put, List.setIfInBounds_toArray, List.set_cons_zero, List.set_cons_succ]
        refine wpAnyH_ready (rs := [2]) (by kernel_rfl) (by simp) ?_
        refine AllReadyH.cons (o := ⟨some 41, _, _, _, _, _⟩) rfl (fun K hK => ?_) AllReadyH.nil
        go_simp
        refine (same00_any true A5 A6 N5 c5 N6 c6 L L wS (HEw.out wS hHeld) (HGw.out wS hHeld) (by simp)).mono ?_
        rintro e w51 ⟨rfl, hb'⟩
        refine hK.out _ _ (hHeld.trans (hb'.mono hHeld.size)) (fun hHeld2 => ?_)
        clear hb'
        clear hK K hHeld
        have hHeld := hHeld2
        clear hHeld2
        try simp only [Act.put, List.setIfInBounds_toArray, List.set_cons_zero, List.set_cons_succ]
        refine wpAnyH_take (i := 3) (oi := ⟨some 42, _, _, _, _, _⟩) (v := ?_) rfl (by kernel_rfl) (by kernel_rfl) (by kernel_rfl) (fun _ _ _ h => h) (Or.inl ⟨by rfl, by intro w hSw; go_simp; try rfl⟩) (by assumption) ?_
        try simp only [Act.put, List.setIfInBounds_toArray, List.set_cons_zero, List.set_cons_succ]
        refine wpAnyH_take (i := 4) (oi := ⟨some 43, _, _, _, _, _⟩) (v := ?_) rfl (by kernel_rfl) (by kernel_rfl) (by kernel_rfl) (fun _ _ _ h => h) (Or.inl ⟨by rfl, by intro w hSw; go_simp; try rfl⟩) (by assumption) ?_
        try simp only [Act.put, List.setIfInBounds_toArray, List.set_cons_zero, List.set_cons_succ]
        refine wpAnyH_take (i := 5) (oi := ⟨some 44, _, _, _, _, _⟩) (v := ?_) rfl (by kernel_rfl) (by kernel_rfl) (by kernel_rfl) (fun _ _ _ h => h) (Or.inl ⟨by rfl, by intro w hSw; go_simp; try rfl⟩) (by assumption) ?_
        try simp only [Act.put, List.setIfInBounds_toArray, List.set_cons_zero, List.set_cons_succ]
        refine wpAnyH_take (i := 6) (oi := ⟨some 45, _, _, _, _, _⟩) (v := ?_) rfl (by kernel_rfl) (by kernel_rfl) (by kernel_rfl) (fun _ _ _ h => h) (Or.inl ⟨by rfl, by intro w hSw; go_simp; try rfl⟩) (by assumption) ?_
        try simp only [Act.put, List.setIfInBounds_toArray, List.set_cons_zero, List.set_cons_succ]
        refine wpAnyH_take (i := 7) (oi := ⟨some 46, _, _, _, _, _⟩) (v := ?_) rfl (by kernel_rfl) (by kernel_rfl) (by kernel_rfl) (fun _ _ _ h => h) (Or.inl ⟨by rfl, by intro w hSw; go_simp; try rfl⟩) (by assumption) ?_
        try simp only [Act.put, List.setIfInBounds_toArray, List.set_cons_zero, List.set_cons_succ]
        refine wpAnyH_take (i := 8) (oi := ⟨some 47, _, _, _, _, _⟩) (v := ?_) rfl (by kernel_rfl) (by kernel_rfl) (by kernel_rfl) (fun _ _ _ h => h) (Or.inl ⟨by rfl, by intro w hSw; go_simp; try rfl⟩) (by assumption) ?_
        try simp only [Act.put, List.setIfInBounds_toArray, List.set_cons_zero, List.set_cons_succ]
        refine wpAnyH_take (i := 9) (oi := ⟨some 48, _, _, _, _, _⟩) (v := _) rfl (by kernel_rfl) (by kernel_rfl) (by kernel_rfl) (fun _ _ _ h => h) (yieldsIf_load_mid (by rfl) _ (.tmp 5) rfl _ _ rfl (rcL r.num r.blk A n c D m e) _ (fun W hW => range_below HRx.out hW (HLx.out)) rwSeal.ty rwSeal.row rwSeal.size) (by assumption) ?_
        try simp only [Act.put, List.setIfInBounds_toArray, List.set_cons_zero, List.set_cons_succ]
        refine wpAnyH_take (i := 11) (oi := ⟨some 50, _, _, _, _, _⟩) (v := _) rfl (by kernel_rfl) (by kernel_rfl) (by kernel_rfl) (fun _ _ _ h => h) (yieldsIf_load_mid (by rfl) _ (.tmp 5) rfl _ _ rfl (rcL r.num r.blk A n c D m e) _ (fun W hW => range_below HRx.out hW (HLx.out)) rwSeal.ty rwSeal.row rwSeal.size) (by assumption) ?_
        try simp only [Act.put, List.setIfInBounds_toArray, List.set_cons_zero, List.set_cons_succ]
        refine wpAnyH_ready (rs := [10]) (by kernel_rfl) (by simp) ?_
        refine AllReadyH.cons (o := ⟨some 49, _, _, _, _, _⟩) rfl (fun K hK => ?_) AllReadyH.nil
        go_simp
        refine (right_as t r A n c D m e w51 (HRw.out w51 hHeld) HT.out).mono ?_
        rintro e w52 ⟨rfl, hb'⟩
        refine hK.out _ _ (hHeld.trans (hb'.mono hHeld.size)) (fun hHeld2 => ?_)
        clear hb'
        clear hK K hHeld
        have hHeld := hHeld2
        clear hHeld2
        try simp only [Act.put, List.setIfInBounds_toArray, List.set_cons_zero, List.set_cons_succ]
        refine wpAnyH_ready (rs := [12]) (by kernel_rfl) (by simp) ?_
        refine AllReadyH.cons (o := ⟨some 51, _, _, _, _, _⟩) rfl (fun K hK => ?_) AllReadyH.nil
        go_simp
        refine (refright_as t r A n c D m e w52 (HRw.out w52 hHeld) HN5.out.1 HT.out).mono ?_
        rintro e w53 ⟨rfl, hb'⟩
        refine hK.out _ _ (hHeld.trans (hb'.mono hHeld.size)) (fun hHeld2 => ?_)
        clear hb'
        clear hK K hHeld
        have hHeld := hHeld2
        clear hHeld2
        try simp only [Act.put, List.setIfInBounds_toArray, List.set_cons_zero, List.set_cons_succ]
        refine wpAnyH_take (i := 13) (oi := ⟨some 52, _, _, _, _, _⟩) (v := ?_) rfl (by kernel_rfl) (by kernel_rfl) (by kernel_rfl) (fun _ _ _ h => h) (Or.inl ⟨by rfl, by intro w hSw; go_simp; try rfl⟩) (by assumption) ?_
        try simp only [Act.put, List.setIfInBounds_toArray, List.set_cons_zero, List.set_cons_succ]
        refine wpAnyH_take (i := 14) (oi := ⟨some 53, _, _, _, _, _⟩) (v := ?_) rfl (by kernel_rfl) (by kernel_rfl) (by kernel_rfl) (fun _ _ _ h => h) (Or.inl ⟨by rfl, by intro w hSw; go_simp; try rfl⟩) (by assumption) ?_
        try simp only [Act.put, List.setIfInBounds_toArray, List.set_cons_zero, List.set_cons_succ]
        refine wpAnyH_take (i := 15) (oi := ⟨some 54, _, _, _, _, _⟩) (v := ?_) rfl (by kernel_rfl) (by kernel_rfl) (by kernel_rfl) (fun _ _ _ h => h) (Or.inl ⟨by rfl, by intro w hSw; go_simp; try rfl⟩) (by assumption) ?_
        try simp only [Act.put, List.setIfInBounds_toArray, List.set_cons_zero, List.set_cons_succ]
        refine wpAnyH_take (i := 16) (oi := ⟨some 55, _, _, _, _, _⟩) (v := _) rfl (by kernel_rfl) (by kernel_rfl) (by kernel_rfl) (fun _ _ _ h => h) (yieldsIf_load_mid (by rfl) _ (.tmp 5) rfl _ _ rfl (rcL r.num r.blk A n c D m e) _ (fun W hW => range_below HRx.out hW (HLx.out)) rwSeal.ty rwSeal.row rwSeal.size) (by assumption) ?_
        try simp only [Act.put, List.setIfInBounds_toArray, List.set_cons_zero, List.set_cons_succ]
        refine wpAnyH_take (i := 17) (oi := ⟨some 56, _, _, _, _, _⟩) (v := ?_) rfl (by kernel_rfl) (by kernel_rfl) (by kernel_rfl) (fun _ _ _ h => h) (Or.inl ⟨by rfl, by intro w hSw; go_simp; try rfl⟩) (by assumption) ?_
        try simp only [Act.put, List.setIfInBounds_toArray, List.set_cons_zero, List.set_cons_succ]
        refine wpAnyH_take (i := 19) (oi := ⟨some 58, _, _, _, _, _⟩) (v := _) rfl (by kernel_rfl) (by kernel_rfl) (by kernel_rfl) (fun _ _ _ h => h) (yieldsIf_load_mid (by rfl) _ (.tmp 5) rfl _ _ rfl (rcL r.num r.blk A n c D m e) _ (fun W hW => range_below HRx.out hW (HLx.out)) rwSeal.ty rwSeal.row rwSeal.size) (by assumption) ?_
        try simp only [Act.put, List.setIfInBounds_toArray, List.set_cons_zero, List.set_cons_succ]
        refine wpAnyH_take (i := 20) (oi := ⟨some 59, _, _, _, _, _⟩) (v := ?_) rfl (by kernel_rfl) (by kernel_rfl) (by kernel_rfl) (fun _ _ _ h => h) (Or.inl ⟨by rfl, by intro w hSw; go_simp; try rfl⟩) (by assumption) ?_
        try simp only [Act.put, List.setIfInBounds_toArray, List.set_cons_zero, List.set_cons_succ]
        refine wpAnyH_ready (rs := [18]) (by kernel_rfl) (by simp) ?_
        refine AllReadyH.cons (o := ⟨some 57, _, _, _, _, _⟩) rfl (fun K hK => ?_) AllReadyH.nil
        go_simp
        refine (slot_as s r A n c D m e a w53 (HRw.out w53 hHeld) HAa.out HSl.out).mono ?_
        rintro e w54 ⟨rfl, hb'⟩
        refine hK.out _ _ (hHeld.trans (hb'.mono hHeld.size)) (fun hHeld2 => ?_)
        clear hb'
        clear hK K hHeld
        have hHeld := hHeld2
        clear hHeld2
        try simp only [Act.put, List.setIfInBounds_toArray, List.set_cons_zero, List.set_cons_succ]
        refine wpAnyH_ready (rs := [21]) (by kernel_rfl) (by simp) ?_
        refine AllReadyH.cons (o := ⟨some 60, _, _, _, _, _⟩) rfl (fun K hK => ?_) AllReadyH.nil
        go_simp
        refine (refslot_as s r A n c D m e a w54 (HRw.out w54 hHeld) HAa.out HSl.out).mono ?_
        rintro e w55 ⟨rfl, hb'⟩
        refine hK.out _ _ (hHeld.trans (hb'.mono hHeld.size)) (fun hHeld2 => ?_)
        clear hb'
        clear hK K hHeld
        have hHeld := hHeld2
        clear hHeld2
        try simp only [Act.put, List.setIfInBounds_toArray, List.set_cons_zero, List.set_cons_succ]
        refine wpAnyH_take (i := 22) (oi := ⟨some 61, _, _, _, _, _⟩) (v := ?_) rfl (by kernel_rfl) (by kernel_rfl) (by kernel_rfl) (fun _ _ _ h => h) (Or.inl ⟨by rfl, by intro w hSw; go_simp; try rfl⟩) (by assumption) ?_
        try simp only [Act.put, List.setIfInBounds_toArray, List.set_cons_zero, List.set_cons_succ]
        refine wpAnyH_take (i := 23) (oi := ⟨some 62, _, _, _, _, _⟩) (v := ?_) rfl (by kernel_rfl) (by kernel_rfl) (by kernel_rfl) (fun _ _ _ h => h) (Or.inl ⟨by rfl, by intro w hSw; go_simp; try rfl⟩) (by assumption) ?_
        try simp only [Act.put, List.setIfInBounds_toArray, List.set_cons_zero, List.set_cons_succ]
        refine wpAnyH_take (i := 24) (oi := ⟨some 63, _, _, _, _, _⟩) (v := ?_) rfl (by kernel_rfl) (by kernel_rfl) (by kernel_rfl) (fun _ _ _ h => h) (Or.inl ⟨by rfl, by intro w hSw; go_simp; try rfl⟩) (by assumption) ?_
        try simp only [Act.put, List.setIfInBounds_toArray, List.set_cons_zero, List.set_cons_succ]
        refine wpAnyH_take (i := 25) (oi := ⟨some 64, _, _, _, _, _⟩) (v := _) rfl (by kernel_rfl) (by kernel_rfl) (by kernel_rfl) (fun _ _ _ h => h) (yieldsIf_load_mid (by rfl) _ (.tmp 5) rfl _ _ rfl (rcL r.num r.blk A n c D m e) _ (fun W hW => range_below HRx.out hW (HLx.out)) rwSeal.ty rwSeal.row rwSeal.size) (by assumption) ?_
        try simp only [Act.put, List.setIfInBounds_toArray, List.set_cons_zero, List.set_cons_succ]
        refine wpAnyH_take (i := 26) (oi := ⟨some 65, _, _, _, _, _⟩) (v := ?_) rfl (by kernel_rfl) (by kernel_rfl) (by kernel_rfl) (fun _ _ _ h => h) (Or.inl ⟨by rfl, by intro w hSw; go_simp; try rfl⟩) (by assumption) ?_
        try simp only [Act.put, List.setIfInBounds_toArray, List.set_cons_zero, List.set_cons_succ]
        refine wpAnyH_take (i := 28) (oi := ⟨some 67, _, _, _, _, _⟩) (v := _) rfl (by kernel_rfl) (by kernel_rfl) (by kernel_rfl) (fun _ _ _ h => h) (yieldsIf_load_mid (by rfl) _ (.tmp 5) rfl _ _ rfl (rcL r.num r.blk A n c D m e) _ (fun W hW => range_below HRx.out hW (HLx.out)) rwSeal.ty rwSeal.row rwSeal.size) (by assumption) ?_
        try simp only [Act.put, List.setIfInBounds_toArray, List.set_cons_zero, List.set_cons_succ]
        refine wpAnyH_take (i := 29) (oi := ⟨some 68, _, _, _, _, _⟩) (v := ?_) rfl (by kernel_rfl) (by kernel_rfl) (by kernel_rfl) (fun _ _ _ h => h) (Or.inl ⟨by rfl, by intro w hSw; go_simp; try rfl⟩) (by assumption) ?_
        try simp only [Act.put, List.setIfInBounds_toArray, List.set_cons_zero, List.set_cons_succ]
        refine wpAnyH_ready (rs := [27]) (by kernel_rfl) (by simp) ?_
        refine AllReadyH.cons (o := ⟨some 66, _, _, _, _, _⟩) rfl (fun K hK => ?_) AllReadyH.nil
        go_simp
        refine (flip_any r A n c D m e a w55 (HRw.out w55 hHeld) HAa.out (by have := HN5.out; omega) HN5.out.2).mono ?_
        rintro e w56 ⟨A8, c8, D8, e8, rfl, hr8, hb'⟩
        refine hK.out _ _ (hHeld.trans (hb'.mono hHeld.size)) (fun hHeld2 => ?_)
        have HF8 : Kp _ := ⟨hr8⟩
        clear hr8
        clear hb'
        clear hK K hHeld
        have hHeld := hHeld2
        clear hHeld2
        try simp only [Act.put, List.setIfInBounds_toArray, List.set_cons_zero, List.set_cons_succ]
        refine wpAnyH_ready (rs := [30]) (by kernel_rfl) (by simp) ?_
        refine AllReadyH.cons (o := ⟨some 69, _, _, _, _, _⟩) rfl (fun K hK => ?_) AllReadyH.nil
        go_simp
        refine (refflip_any r A n c D m e a w56 (HRw.out w56 hHeld) HAa.out HN5.out.1).mono ?_
        rintro e w57 ⟨A9, c9, rfl, hr9, hb'⟩
        refine hK.out _ _ (hHeld.trans (hb'.mono hHeld.size)) (fun hHeld2 => ?_)
        replace HF8 : Kp _ := ⟨HF8.out.next hb' (Nat.le_refl _)⟩
        have HF9 : Kp _ := ⟨hr9⟩
        clear hr9
        clear hb'
        clear hK K hHeld
        have hHeld := hHeld2
        clear hHeld2
        try simp only [Act.put, List.setIfInBounds_toArray, List.set_cons_zero, List.set_cons_succ]
        refine wpAnyH_ready (rs := [31]) (by kernel_rfl) (by simp) ?_
        refine AllReadyH.cons (o := ⟨some 70, _, _, _, _, _⟩) rfl (fun K hK => ?_) AllReadyH.nil
        go_simp
        refine (refsame_as true (flipR r a) (flipR r a) A8 n c8 D8 m e8 A9 n c9 D m e w57 HF8.out HF9.out (sameB_rfl _)).mono ?_
        rintro e w58 ⟨rfl, hb'⟩
        refine hK.out _ _ (hHeld.trans (hb'.mono hHeld.size)) (fun hHeld2 => ?_)
        clear hb'
        clear hK K hHeld
        have hHeld := hHeld2
        clear hHeld2
        try simp only [Act.put, List.setIfInBounds_toArray, List.set_cons_zero, List.set_cons_succ]
        refine wpAnyH_take (i := 32) (oi := ⟨some 71, _, _, _, _, _⟩) (v := ?_) rfl (by kernel_rfl) (by kernel_rfl) (by kernel_rfl) (fun _ _ _ h => h) (Or.inl ⟨by rfl, by intro w hSw; go_simp; try rfl⟩) (by assumption) ?_
        try simp only [Act.put, List.setIfInBounds_toArray, List.set_cons_zero, List.set_cons_succ]
        refine wpAnyH_take (i := 33) (oi := ⟨some 72, _, _, _, _, _⟩) (v := ?_) rfl (by kernel_rfl) (by kernel_rfl) (by kernel_rfl) (fun _ _ _ h => h) (Or.inl ⟨by rfl, by intro w hSw; go_simp; try rfl⟩) (by assumption) ?_
        try simp only [Act.put, List.setIfInBounds_toArray, List.set_cons_zero, List.set_cons_succ]
        refine wpAnyH_take (i := 34) (oi := ⟨some 73, _, _, _, _, _⟩) (v := _) rfl (by kernel_rfl) (by kernel_rfl) (by kernel_rfl) (fun _ _ _ h => h) (yieldsIf_load_mid (by rfl) _ (.tmp 5) rfl _ _ rfl (rcL r.num r.blk A n c D m e) _ (fun W hW => range_below HRx.out hW (HLx.out)) rwSeal.ty rwSeal.row rwSeal.size) (by assumption) ?_
        try simp only [Act.put, List.setIfInBounds_toArray, List.set_cons_zero, List.set_cons_succ]
        refine wpAnyH_take (i := 35) (oi := ⟨some 74, _, _, _, _, _⟩) (v := _) rfl (by kernel_rfl) (by kernel_rfl) (by kernel_rfl) (fun _ _ _ h => h) (yieldsIf_load_mid (by rfl) _ (.tmp 6) rfl _ _ rfl (rcL q.num q.blk A2 n2 c2 D2 m2 e2) _ (fun W hW => range_below HRy.out hW (HLy.out)) rwSeal.ty rwSeal.row rwSeal.size) (by assumption) ?_
        try simp only [Act.put, List.setIfInBounds_toArray, List.set_cons_zero, List.set_cons_succ]
        refine wpAnyH_take (i := 37) (oi := ⟨some 76, _, _, _, _, _⟩) (v := _) rfl (by kernel_rfl) (by kernel_rfl) (by kernel_rfl) (fun _ _ _ h => h) (yieldsIf_load_mid (by rfl) _ (.tmp 5) rfl _ _ rfl (rcL r.num r.blk A n c D m e) _ (fun W hW => range_below HRx.out hW (HLx.out)) rwSeal.ty rwSeal.row rwSeal.size) (by assumption) ?_
        try simp only [Act.put, List.setIfInBounds_toArray, List.set_cons_zero, List.set_cons_succ]
        refine wpAnyH_take (i := 38) (oi := ⟨some 77, _, _, _, _, _⟩) (v := _) rfl (by kernel_rfl) (by kernel_rfl) (by kernel_rfl) (fun _ _ _ h => h) (yieldsIf_load_mid (by rfl) _ (.tmp 6) rfl _ _ rfl (rcL q.num q.blk A2 n2 c2 D2 m2 e2) _ (fun W hW => range_below HRy.out hW (HLy.out)) rwSeal.ty rwSeal.row rwSeal.size) (by assumption) ?_
        try simp only [Act.put, List.setIfInBounds_toArray, List.set_cons_zero, List.set_cons_succ]
        refine wpAnyH_ready (rs := [36]) (by kernel_rfl) (by simp) ?_
        refine AllReadyH.cons (o := ⟨some 75, _, _, _, _, _⟩) rfl (fun K hK => ?_) AllReadyH.nil
        go_simp
        refine (same_as sb r q A n c D m e A2 n2 c2 D2 m2 e2 w58 (HRw.out w58 hHeld) (HQw.out w58 hHeld) HSb.out).mono ?_
        rintro e w59 ⟨rfl, hb'⟩
        refine hK.out _ _ (hHeld.trans (hb'.mono hHeld.size)) (fun hHeld2 => ?_)
        clear hb'
        clear hK K hHeld
        have hHeld := hHeld2
        clear hHeld2
        try simp only [Act.put, List.setIfInBounds_toArray, List.set_cons_zero, List.set_cons_succ]
        refine wpAnyH_ready (rs := [39]) (by kernel_rfl) (by simp) ?_
        refine AllReadyH.cons (o := ⟨some 78, _, _, _, _, _⟩) rfl (fun K hK => ?_) AllReadyH.nil
        go_simp
        refine (refsame_as sb r q A n c D m e A2 n2 c2 D2 m2 e2 w59 (HRw.out w59 hHeld) (HQw.out w59 hHeld) HSb.out).mono ?_
        rintro e w60 ⟨rfl, hb'⟩
        refine hK.out _ _ (hHeld.trans (hb'.mono hHeld.size)) (fun hHeld2 => ?_)
        clear hb'
        clear hK K hHeld
        have hHeld := hHeld2
        clear hHeld2
        try simp only [Act.put, List.setIfInBounds_toArray, List.set_cons_zero, List.set_cons_succ]
        refine wpAnyH_take (i := 40) (oi := ⟨some 79, _, _, _, _, _⟩) (v := ?_) rfl (by kernel_rfl) (by kernel_rfl) (by kernel_rfl) (fun _ _ _ h => h) (Or.inl ⟨by rfl, by intro w hSw; go_simp; try rfl⟩) (by assumption) ?_
        try simp only [Act.put, List.setIfInBounds_toArray, List.set_cons_zero, List.set_cons_succ]
        refine wpAnyH_take (i := 41) (oi := ⟨some 80, _, _, _, _, _⟩) (v := ?_) rfl (by kernel_rfl) (by kernel_rfl) (by kernel_rfl) (fun _ _ _ h => h) (Or.inl ⟨by rfl, by intro w hSw; go_simp; try rfl⟩) (by assumption) ?_
        try simp only [Act.put, List.setIfInBounds_toArray, List.set_cons_zero, List.set_cons_succ]
        refine wpAnyH_take (i := 42) (oi := ⟨some 81, _, _, _, _, _⟩) (v := ?_) rfl (by kernel_rfl) (by kernel_rfl) (by kernel_rfl) (fun _ _ _ h => h) (Or.inl ⟨by rfl, by intro w hSw; go_simp; try rfl⟩) (by assumption) ?_
        try simp only [Act.put, List.setIfInBounds_toArray, List.set_cons_zero, List.set_cons_succ]
        refine wpAnyH_ready (rs := [43]) (by kernel_rfl) (by simp) ?_
        refine AllReadyH.cons (o := ⟨some 82, _, _, _, _, _⟩) rfl (fun K hK => ?_) AllReadyH.nil
        go_simp
        refine (known8_any w60).mono ?_
        rintro e w61 ⟨rfl, hb'⟩
        refine hK.out _ _ (hHeld.trans (hb'.mono hHeld.size)) (fun hHeld2 => ?_)
        clear hb'
        clear hK K hHeld
        have hHeld := hHeld2
        clear hHeld2
        try simp only [Act.put, List.setIfInBounds_toArray, List.set_cons_zero, List.set_cons_succ]
        refine wpAnyH_take (i := 44) (oi := ⟨some 83, _, _, _, _, _⟩) (v := ?_) rfl (by kernel_rfl) (by kernel_rfl) (by kernel_rfl) (fun _ _ _ h => h) (Or.inl ⟨by rfl, by intro w hSw; go_simp; try rfl⟩) (by assumption) ?_
        try simp only [Act.put, List.setIfInBounds_toArray, List.set_cons_zero, List.set_cons_succ]
        refine wpAnyH_take (i := 45) (oi := ⟨some 8, _, _, _, _, _⟩) (v := ?_) rfl (by kernel_rfl) (by kernel_rfl) (by kernel_rfl) (fun _ _ _ h => h) (Or.inl ⟨by rfl, by intro w hSw; go_simp; try rfl⟩) (by assumption) ?_
        try simp only [Act.put, List.setIfInBounds_toArray, List.set_cons_zero, List.set_cons_succ]
        refine wpAnyH_done (by kernel_rfl) ?_ _
        have HBe : Kp (Below w.heap.size w w61) := ⟨HB6.out.trans (hHeld.mono HB6.out.size)⟩
        clear hHeld
        go_wp2
        go_ret
        exact ⟨rfl, HBe.out⟩
end Go.Proofs.Ytadpfbjpkbpanaa
