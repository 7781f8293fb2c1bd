/- The law EntryWide. -/
import Derived.Test.YtaedlaeflliibaaEnD
import Derived.Test.YtaedlaeflliibaaLw14
import Derived.Test.YtaedlaeflliibaaSame
namespace Go.Proofs.Ytaedlaeflliibaa
open Go.RowKit Go.Deep

section
variable {P : Program} {w : World} {ops : Array Oper} {rest : List Oper} {o : Oper} {a : Act} {Q : Exit → Act → World → Prop} {t e : TypeId} {i : TypeInfo}
/-- x[:hi] of things of two cells -/
theorem wpList_cut2_h (hg : Region.wanted o (yielded ops a.tmps) = true) (hty : P.underlying t = some (.slice e)) (hi : P.info? e = some i) (hs : i.size = 2) (x hh : Operand) (ho : o.op = .slice t x none (some hh) none)
    {A : Option Addr} {n c : Nat} (hx : a.eval x = .slice A n c) {k : IntKind} {I : Int} (hhi : a.eval hh = .int k I) (r : Nat) (hI : I = r) (hr : r ≤ c)
    (h : wpList P ops Q rest (a.put o.dst (.slice A r c)) w) : wpList P ops Q (o :: rest) a w := by
  subst hI
  refine wpList_step fun K hK => ?_
  rw [if_pos hg]
  have ht' : P.underlying t = some (.slice (P.elem t)) := by rw [elem_of hty]; exact hty
  have hrun := run_slice_h (P := P) (w := w) t A n c ht' k (r : Int) (by omega) (by omega)
  rw [elem_of hty, size_two hi hs] at hrun
  unfold Oper.wp
  cases A <;> simp [execOp, ho, hx, hhi, run_sliceAt_slice (P := P) (w := w) t _ _ _ _ ht', hrun, Result.andThen, sliced, Addr.add] <;> exact hK _ _ h
end
theorem right_take {l : List En} (h : rightE l = true) (k : Nat) : rightE (l.take k) = true := by
  have hall := right_all h
  unfold rightE at h ⊢
  simp only [Bool.and_eq_true, decide_eq_true_eq] at h ⊢
  refine ⟨⟨by rw [List.length_take]; omega, (riseL_up _).2 (((riseL_up _).1 h.1.2).sublist (List.take_sublist _ _))⟩, List.all_eq_true.2 fun x hx => hall.2 x (List.mem_of_mem_take hx)⟩
theorem encL_take {l : List En} (h : ∀ x ∈ l, x.1.length ≤ 27) (k : Nat) (hk : k ≤ l.length) : (encL l).take (32 * k) = encL (l.take k) := by
  have e : encL l = encL (l.take k) ++ encL (l.drop k) := by
    unfold encL
    rw [← List.flatten_append, ← List.map_append, List.take_append_drop]
  have hl : (encL (l.take k)).length = 32 * k := by rw [encL_len fun x hx => h x (List.mem_of_mem_take hx), List.length_take]; omega
  rw [e, List.take_append_of_le_length (by omega), List.take_of_length_le (by omega)]
set_option maxRecDepth 100000 in
set_option maxHeartbeats 8000000 in
theorem law_entryWide (A : Option Addr) (n c : Nat) (l : List En) (w : World) (ha : Ens w w.heap.size A n c l ∧ n ≤ 5864062014634) :
    Calls Try.prog 9 #[.slice A n c] w fun e w' => e = .returned (.bool true) ∧ Below w.heap.size w w' := by
  have hn := ha.2
  have HI : Kp _ := ⟨ha.1⟩
  have HL : Kp _ := ⟨ha.1.len⟩
  clear ha
  go_enter Try.func9, Try.ntmps9
  go_wp2_with fail
  refine (reflong_any A n c l _ _ HI.out).mono ?_
  rintro e w2 ⟨⟨q, rfl⟩, hw'⟩
  subst hw'
  by_cases hq : 1500 < q
  · have hqd : decide (1500 < q) = true := decide_eq_true hq
    go_wp2_with fail
    refine (known14_any _).mono ?_
    rintro e w3 ⟨rfl, hb3⟩
    go_wp2
    go_ret
    exact ⟨rfl, hb3⟩
  have hqd : decide (1500 < q) = false := decide_eq_false hq
  have HEn : Kp _ := ⟨encode_any A n c l w2 HI.out⟩
  cases hr : rightE l with
  | false =>
    have HC : Kp (encC l = 2 ∧ encR l = []) := ⟨by unfold encC encR; rw [hr]; exact ⟨rfl, rfl⟩⟩
    rw [HC.out.1, HC.out.2] at HEn
    go_wp2_with fail
    refine HEn.out.mono ?_
    rintro e w3 ⟨A3, n3, c3, rfl, h3, hb3⟩
    have hn3 : n3 = 0 := h3.len.symm
    subst hn3
    have HB3 : Kp _ := ⟨hb3⟩
    clear h3 hb3 HEn hn
    go_wp2_with fail
    refine (known14_any _).mono ?_
    rintro e w4 ⟨rfl, hb4⟩
    go_wp2
    go_ret
    exact ⟨rfl, HB3.out.trans (hb4.mono HB3.out.size)⟩
  | true =>
    have HC : Kp (encC l = 0 ∧ encR l = encL l) := ⟨by unfold encC encR; rw [hr]; exact ⟨rfl, rfl⟩⟩
    rw [HC.out.1, HC.out.2] at HEn
    have hall := right_all hr
    have hb27 : ∀ x ∈ l, x.1.length ≤ 27 := fun x hx => (okE_b (hall.2 x hx)).1
    have hlen := encL_len hb27
    rw [HL.out] at hlen
    have hn560 : n ≤ 560 := by rw [← HL.out]; exact hall.1
    by_cases h0 : n = 0
    · subst h0
      go_wp2_with fail
      refine HEn.out.mono ?_
      rintro e w3 ⟨A3, n3, c3, rfl, h3, hb3⟩
      have hn3 : n3 = 0 := by rw [← h3.len, hlen]
      subst hn3
      have HB3 : Kp _ := ⟨hb3⟩
      clear h3 hb3 HEn hn hlen hb27 hall
      go_wp2_with fail
      refine (known14_any _).mono ?_
      rintro e w4 ⟨rfl, hb4⟩
      go_wp2
      go_ret
      exact ⟨rfl, HB3.out.trans (hb4.mono HB3.out.size)⟩
    · obtain ⟨m, rfl⟩ : ∃ m, n = m + 1 := ⟨n - 1, by omega⟩
      have HT : Kp (rightE (l.take m) = true) := ⟨right_take hr m⟩
      have HEt : Kp ((encL l).take (32 * m) = encL (l.take m)) := ⟨encL_take hb27 m (by rw [HL.out]; omega)⟩
      have HD1 : Kp _ := ⟨dec_enc HT.out⟩
      have HD2 : Kp (decC ((encL l).take (32 * m + 31)) = 4) := ⟨by
        unfold decC
        rw [decOk_odd (by rw [List.length_take, hlen]; omega)]; rfl⟩
      have HC2 : Kp (encC (l.take m) = 0 ∧ encR (l.take m) = encL (l.take m)) := ⟨by unfold encC encR; rw [HT.out]; exact ⟨rfl, rfl⟩⟩
      have hm559 : m ≤ 559 := by omega
      go_wp2_with fail
      refine HEn.out.mono ?_
      rintro e w3 ⟨A3, n3, c3, rfl, h3, hb3⟩
      obtain rfl : n3 = 32 * (m + 1) := by rw [← h3.len, hlen]
      have HB3 : Kp _ := ⟨hb3⟩
      have HS3 : Kp _ := ⟨h3⟩
      clear h3 hb3 HEn hn hlen hb27 hall
      obtain ⟨ie, hi1, _, hi2, _⟩ := infE
      have hmi : ((m + 1 : Nat) : Int) - 1 = (m : Int) := by omega
      have HNn : Kp (m ≤ c) := ⟨by have := HI.out.cap; omega⟩
      have HIu : Kp _ := ⟨HI.out.upto (Nat.le_succ m)⟩
      have HI3 : Kp _ := ⟨HIu.out.next HB3.out (Nat.le_refl _)⟩
      have HE3 : Kp _ := ⟨encode_any A m c (l.take m) w3 HI3.out⟩
      rw [HC2.out.1, HC2.out.2] at HE3
      go_wp2_with (refine wpList_cut2_h rfl Try.underlying22 hi1 hi2 _ _ rfl rfl rfl m (by go_num) HNn.out ?_)
      refine HE3.out.mono ?_
      rintro e w4 ⟨A4, n4, c4, rfl, h4, hb4⟩
      have HB4 : Kp (Below w2.heap.size w2 w4) := ⟨HB3.out.trans (hb4.mono HB3.out.size)⟩
      have HS4 : Kp _ := ⟨h4⟩
      have HS34 : Kp _ := ⟨HS3.out.next hb4 (Nat.le_refl _)⟩
      have h32 : ((32 * (m + 1) : Nat) : Int) - 32 = ((32 * m : Nat) : Int) := by omega
      have h31 : ((32 * (m + 1) : Nat) : Int) - 1 = ((32 * m + 31 : Nat) : Int) := by omega
      clear h4 hb4 HE3 HI3 HB3 HS3
      go_wp2_with (refine wpList_cut_h el8 rfl _ _ rfl rfl HS34.out .i64 _ (32 * m) rfl (by go_num) (by omega) ?_)
      intro A5 hcut
      rw [HEt.out] at hcut
      have HD5 : Kp _ := ⟨decode_any A5 (32 * m) c3 _ w4 hcut⟩
      rw [HD1.out.1, HD1.out.2] at HD5
      clear hcut
      go_wp2_with fail
      refine HD5.out.mono ?_
      rintro e w5 ⟨A6, n6, c6, rfl, h6, hb6⟩
      have HB5 : Kp (Below w2.heap.size w2 w5) := ⟨HB4.out.trans (hb6.mono HB4.out.size)⟩
      have HM5 : Kp _ := ⟨h6⟩
      have HS45 : Kp _ := ⟨HS4.out.next hb6 (Nat.le_refl _)⟩
      have HS35 : Kp _ := ⟨HS34.out.next hb6 (Nat.le_refl _)⟩
      clear h6 hb6 HD5 HS34 HS4 HB4
      go_wp2_with (refine wpList_cut_h el8 rfl _ _ rfl rfl HS35.out .i64 _ (32 * m + 31) rfl (by go_num) (by omega) ?_)
      intro A7 hcut
      have HD7 : Kp _ := ⟨decode_any A7 (32 * m + 31) c3 _ w5 hcut⟩
      rw [HD2.out] at HD7
      clear hcut
      go_wp2_with fail
      refine HD7.out.mono ?_
      rintro e w6 ⟨A8, n8, c8, rfl, _, hb8⟩
      have HB6 : Kp (Below w2.heap.size w2 w6) := ⟨HB5.out.trans (hb8.mono HB5.out.size)⟩
      have HM6 : Kp _ := ⟨HM5.out.next hb8 (Nat.le_refl _)⟩
      have HS46 : Kp _ := ⟨HS45.out.next hb8 (Nat.le_refl _)⟩
      have HS36 : Kp _ := ⟨HS35.out.next hb8 (Nat.le_refl _)⟩
      have HI6 : Kp _ := ⟨HIu.out.next HB6.out (Nat.le_refl _)⟩
      clear hb8 HD7 HM5 HS45 HS35 HB5
      go_wp2_with (refine wpList_cut_h_g el8 (by rfl) _ _ rfl rfl HS36.out .i64 _ (32 * m) rfl (by go_num) (by omega) ?_)
      intro A9 hcut
      rw [HEt.out] at hcut
      go_wp2_with fail
      refine (same_any _ _ _ _ _ _ _ _ w6 _ _ HS46.out hcut).mono ?_
      rintro e w7 ⟨rfl, hw7⟩
      subst hw7
      have hbe : (encL (l.take m) == encL (l.take m)) = true := by simp
      rw [hbe]
      go_wp2_with (refine wpList_cut2_h (by rfl) Try.underlying22 hi1 hi2 _ _ rfl rfl rfl m (by go_num) HNn.out ?_)
      refine (same_yes _ _ _ _ _ _ _ w6 HM6.out HI6.out).mono ?_
      rintro e w8 ⟨rfl, hb8⟩
      have HB8 : Kp (Below w2.heap.size w2 w8) := ⟨HB6.out.trans (hb8.mono HB6.out.size)⟩
      clear hb8 hcut HM6 HS46 HS36 HI6 HB6
      go_wp2_with fail
      refine (known14_any _).mono ?_
      rintro e w9 ⟨rfl, hb9⟩
      go_wp2
      go_ret
      exact ⟨rfl, HB8.out.trans (hb9.mono HB8.out.size)⟩
end Go.Proofs.Ytaedlaeflliibaa
