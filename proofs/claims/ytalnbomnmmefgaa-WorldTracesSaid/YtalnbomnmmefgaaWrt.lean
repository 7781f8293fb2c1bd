/- The contract of World's Write. -/
import Derived.Test.YtalnbomnmmefgaaRead
import Derived.Test.YtalnbomnmmefgaaLay
import Derived.Test.YtalnbomnmmefgaaPad6
namespace Go.Proofs.Ytalnbomnmmefgaa
open Go.RowKit

/-- what a slot has, written -/
def wroteL (t : Wd) (x : Int × Int) (l : List UInt8) : List UInt8 := laid (padL (l.take 272) 272) (t.sl x) (layK t 272)
def writeW (t : Wd) (x : Int × Int) (l : List UInt8) : Wd :=
  if thereW t x = true then { layW { t with tr := t.tr ++ [⟨2, x.1, x.2, l⟩] } 272 with sl := fun y => if y = x then wroteL t x l else t.sl y } else t
def writeB (t : Wd) (x : Int × Int) : Bool := thereW t x && decide (layK t 272 = 272)
theorem int_beq (a b : Nat) : ((a : Int) == (b : Int)) = decide (a = b) := by
  rw [Bool.eq_iff_iff]
  simp only [beq_iff_eq, decide_eq_true_eq]
  omega
theorem pad272 (l : List UInt8) : (padL (l.take 272) 272).length = 272 := by rw [padL_length]; simp; omega
section
variable {O M : Nat → Prop} {b : Nat} {ad : Ad} {t : Wd} {p : Int × Int → Option Nat} {L : List Hd4} {w w' : World}
/-- a slot is written, and power taken -/
theorem wrote_parts (h : Parts w O M b ad t p L) {x : Int × Int} {g : Nat} (hg : p x = some g) (h2 : Two b g w w') {n : Nat} {new : List UInt8} (hb : Blk w' b 75 (wdCells ad (layW t n))) (hk : Blk w' g 78 (cells8 new)) (hl : new.length = 272) :
    Parts w' O M b ad { layW t n with sl := fun y => if y = x then new else t.sl y } p L ∧ Nx w O w' O := by
  have hOg := h.slots.own x g hg
  have C : Chg O w w' := ⟨h2.os, h2.tape, h2.output, by rw [h2.size]; exact Nat.le_refl _, fun k _ hn => h2.block k (fun e => hn (e ▸ h.ob)) (fun e => hn (e ▸ hOg))⟩
  have hlt := fun k hk => h.lt k (h.sub k hk)
  have gr := (h.slots.blk x g hg).row
  have e1 : (layW t n).n = t.n ∧ (layW t n).s0 = t.s0 ∧ (layW t n).s1 = t.s1 ∧ (layW t n).lies = t.lies ∧ (layW t n).nl = t.nl ∧ (layW t n).tr = t.tr ∧ (layW t n).ctr = t.ctr ∧ (layW t n).reads = t.reads ∧ (layW t n).left ≤ 1000000 := by
    have hp := h.pow
    unfold layW
    split
    · split
      · refine ⟨rfl, rfl, rfl, rfl, rfl, rfl, rfl, rfl, ?_⟩
        simp only
        omega
      · exact ⟨rfl, rfl, rfl, rfl, rfl, rfl, rfl, rfl, by simp⟩
    · exact ⟨rfl, rfl, rfl, rfl, rfl, rfl, rfl, rfl, hp⟩
  obtain ⟨q1, q2, q3, q4, q5, q6, q7, q8, q9⟩ := e1
  refine ⟨⟨h.sub, fun k hk => Nat.lt_of_lt_of_le (h.lt k hk) C.size, h.ob, hb, ?_, ?_, ?_, ?_, ?_, by show (layW t n).n ≤ _; rw [q1]; exact h.big, q9, by show (layW t n).ctr < _; rw [q7]; exact h.num, by show (layW t n).reads ≤ _; rw [q8]; exact h.read, h.two⟩, Nx.same C hlt⟩
  · show Sl w' O ad.ms (layW t n).n _ p
    rw [q1]
    have hms : w'.heap[ad.ms]? = w.heap[ad.ms]? := h2.block _ (fun e => (show IsMapB w ad.ms from h.slots.map.heap).ne h.blk.row e) (fun e => (show IsMapB w ad.ms from h.slots.map.heap).ne gr e)
    refine ⟨h.slots.om, h.slots.map.stay hms, h.slots.has, h.slots.own, fun y k hy => ?_, fun y k hy => ?_, h.slots.inj⟩
    · by_cases hyx : y = x
      · subst hyx
        rw [hg] at hy
        obtain rfl := Option.some.inj hy
        simp only [if_true]
        exact hk
      · simp only [if_neg hyx]
        have hkg : k ≠ g := fun e => hyx (h.slots.inj y x k hy (e ▸ hg))
        exact ⟨(h2.block k ((h.slots.blk y k hy).row.ne h.blk.row (by decide)) hkg).trans (h.slots.blk y k hy).heap⟩
    · by_cases hyx : y = x
      · simp only [if_pos hyx]; exact hl
      · simp only [if_neg hyx]; exact h.slots.len y k hy
  · show Li w' O M ad.ml (layW t n).lies (layW t n).nl
    rw [q4, q5]
    exact h.lies.stay (fun _ h => h) (fun k _ hkk => h2.block k (hkk.ne h.blk.row) (hkk.ne gr)) C h.sub (fun _ h => .inl h)
  · show BsV w' M ad.v0 (layW t n).s0
    rw [q2]; exact h.seal0.chg C h.sub (fun _ h => .inl h)
  · show BsV w' M ad.v1 (layW t n).s1
    rw [q3]; exact h.seal1.chg C h.sub (fun _ h => .inl h)
  · show Tc w' O M ad.vt (layW t n).tr L
    rw [q6]
    exact h.trace.stay (fun _ h => h) (fun k _ hkk => h2.block k (hkk.ne h.blk.row (by decide)) (hkk.ne gr (by decide))) C h.sub (fun _ h => .inl h)

set_option maxRecDepth 100000 in
set_option maxHeartbeats 1000000 in
theorem write_any (h : Parts w O M b ad t p L) (x y : Int) (hx : okP (x, y)) (A : Option Addr) (n c : Nat) (l : List UInt8) (ha : BsM w M A n c l) (hlen : t.tr.length ≤ 1000000) :
    Calls Try.prog 12 #[.pointer (some ⟨b, 0, none⟩), .int .i64 x, .int .i64 y, .slice A n c] w fun e w' => ∃ ad' L' O', e = .returned (.bool (writeB t (x, y))) ∧ Parts w' O' (Or2 M O') b ad' (writeW t (x, y) l) p L' ∧ Nx w O w' O' := by
  have HP : Kp _ := ⟨h⟩
  have HX : Kp _ := ⟨hx⟩
  have HA : Kp _ := ⟨ha⟩
  have hn := ha.fit
  by_cases hth : thereW t (x, y) = true
  · obtain ⟨g, hg, hs⟩ := slot_there h hth
    have HG : Kp _ := ⟨hg⟩
    have HT : Kp (writeW t (x, y) l = { layW { t with tr := t.tr ++ [⟨2, x, y, l⟩] } 272 with sl := fun z => if z = (x, y) then wroteL t (x, y) l else t.sl z } ∧ writeB t (x, y) = decide (layK t 272 = 272)) := ⟨by unfold writeW writeB; rw [if_pos hth, hth]; exact ⟨rfl, rfl⟩⟩
    clear h hx ha hth hg
    go_enter Try.func12, Try.ntmps12
    go_wp2_with fail
    refine (slot_any HP.out x y HX.out).mono ?_
    rintro e w1 ⟨rfl, rfl⟩
    rw [hs]
    go_wp2_with fail
    refine (note_any HP.out ⟨2, x, y, l⟩ ⟨.inr (.inl rfl), HX.out.1, HX.out.2⟩ A n c HA.out.bs hn hlen).mono ?_
    rintro e w2 ⟨rfl, ad2, L2, O2, P2, N2⟩
    have HP2 : Kp _ := ⟨P2⟩
    have HA2 : Kp _ := ⟨HA.out.nx HP.out.sub N2⟩
    have HN2 : Kp _ := ⟨N2⟩
    obtain ⟨k, hk⟩ : ∃ k, k = min n 272 := ⟨_, rfl⟩
    have hkn : k ≤ n := by omega
    have HTk : Kp (l.take k = l.take 272) := ⟨by
      have hl := HA.out.bs.len
      rcases Nat.le_total n 272 with h1 | h1
      · rw [List.take_of_length_le (by omega), List.take_of_length_le (by omega)]
      · rw [hk, Nat.min_eq_right h1]⟩
    have HK : Kp _ := ⟨hk⟩
    have HCut : Kp _ := ⟨(HA2.out.cutH hkn)⟩
    clear P2 N2 hk
    rcases (by have := HK.out; omega : ((n : Int) ≤ 272 ∧ k = n) ∨ (272 < (n : Int) ∧ k = 272)) with ⟨hc, hkk⟩ | ⟨hc, hkk⟩
    · have HKK : Kp _ := ⟨hkk⟩
      clear hkk
      go_wp2_with (with_reducible refine wpList_cut_h (o := ⟨some 26, _, _, _, _, _⟩) el8 rfl (.tmp 22) (.tmp 25) rfl rfl HA2.out.bs .i64 _ k rfl (by have := HKK.out; omega) hkn ?_)
      intro A3 hb3
      have HB3 : Kp _ := ⟨hb3⟩
      clear hb3 hc HKK
      go_wp2_with fail
      refine (pad6_any A3 k c 272 (l.take k) w2 HB3.out (by omega) (by omega)).mono ?_
      rw [HTk.out, pad272 l]
      rintro e w3 ⟨rfl, hk3, hb3⟩
      have P3 := HP2.out.below hb3
      have HP3 : Kp _ := ⟨P3⟩
      have HN3 : Kp _ := ⟨HN2.out.below hb3⟩
      have HK3 : Kp _ := ⟨hk3⟩
      have hbg : b ≠ g := P3.blk.row.ne (P3.slots.blk _ g HG.out).row (by decide)
      have hblt : b < w2.heap.size := HP2.out.blk.lt
      have hglt : g < w2.heap.size := (HP2.out.slots.blk _ g HG.out).lt
      have HTs : Kp (BsT w3 b g (some ⟨w2.heap.size, 0, none⟩) 272 272 (padL (l.take 272) 272)) := ⟨⟨hk3.bytes (o := 0) hk3.lt (by rw [List.drop_zero, List.take_of_length_le (by rw [cells8_length, pad272]; exact Nat.le_refl _)]) (pad272 l) 272 (Nat.le_refl _) (by simp only [maxLen]; omega), fun ad hA _ => by
        obtain rfl := Option.some.inj hA
        exact ⟨by simp; omega, by simp; omega⟩⟩⟩
      have HD3 : Kp (Blk w3.drew b 75 (wdCells ad2 { t with tr := t.tr ++ [⟨2, x, y, l⟩] }) ∧ Blk w3.drew g 78 (cells8 (t.sl (x, y))) ∧ BsT w3.drew b g (some ⟨w2.heap.size, 0, none⟩) 272 272 (padL (l.take 272) 272)) := ⟨P3.blk.drew, (P3.slots.blk _ g HG.out).drew, ⟨HTs.out.bs.drew, HTs.out.apart⟩⟩
      have HL3 : Kp ((t.sl (x, y)).length = 272) := ⟨P3.slots.len _ g HG.out⟩
      have HPd : Kp _ := ⟨P3.below (Below.refl w3.heap.size w3).drew⟩
      have HNd : Kp _ := ⟨HN3.out.below (Below.refl w3.heap.size w3).drew⟩
      have hsl := contents_slice g
      clear P3 hb3 hk3 HK3 HTs HP3 HN3
      go_wp2_with fail
      refine wp_region_any (by kernel_rfl) ?_
      change wpAny _ _ _ _ _ _ _ w3.drew
      generalize w3.drew = wS at *
      refine wpAny_take (i := 0) (oi := ⟨some 28, _, _, _, _, _⟩) (v := ?_) rfl (by kernel_rfl) (by kernel_rfl) (by kernel_rfl) (fun _ _ _ h => h) (Or.inl ⟨by rfl, by intro w; go_simp; try rfl⟩) ?_
      try simp only [Act.put, List.setIfInBounds_toArray, List.set_cons_zero, List.set_cons_succ]
      refine wpAny_take (i := 1) (oi := ⟨some 29, _, _, _, _, _⟩) (v := ?_) rfl (by kernel_rfl) (by kernel_rfl) (by kernel_rfl) (fun _ _ _ h => h) (Or.inl ⟨by rfl, by intro w; go_simp; try rfl⟩) ?_
      try simp only [Act.put, List.setIfInBounds_toArray, List.set_cons_zero, List.set_cons_succ]
      refine wpAny_take (i := 2) (oi := ⟨some 30, _, _, _, _, _⟩) (v := ?_) rfl (by kernel_rfl) (by kernel_rfl) (by kernel_rfl) (fun _ _ _ h => h) (Or.inl ⟨by rfl, by intro w; go_simp; try rfl⟩) ?_
      try simp only [Act.put, List.setIfInBounds_toArray, List.set_cons_zero, List.set_cons_succ]
      refine wpAny_take (i := 3) (oi := ⟨some 31, _, _, _, _, _⟩) (v := ?_) rfl (by kernel_rfl) (by kernel_rfl) (by kernel_rfl) (fun _ _ _ h => h) (Or.inl ⟨by rfl, by intro w; go_simp; try rfl⟩) ?_
      try simp only [Act.put, List.setIfInBounds_toArray, List.set_cons_zero, List.set_cons_succ]
      refine wpAny_take (i := 4) (oi := ⟨some 32, _, _, _, _, _⟩) (v := ?_) rfl (by kernel_rfl) (by kernel_rfl) (by kernel_rfl) (fun _ _ _ h => h) (Or.inl ⟨by rfl, by intro w; go_simp; try rfl⟩) ?_
      try simp only [Act.put, List.setIfInBounds_toArray, List.set_cons_zero, List.set_cons_succ]
      refine wpAny_take (i := 5) (oi := ⟨some 33, _, _, _, _, _⟩) (v := ?_) rfl (by kernel_rfl) (by kernel_rfl) (by kernel_rfl) (fun _ _ _ h => h) (Or.inl ⟨by rfl, by intro w; go_simp; try rfl⟩) ?_
      try simp only [Act.put, List.setIfInBounds_toArray, List.set_cons_zero, List.set_cons_succ]
      refine wpAny_take (i := 6) (oi := ⟨some 34, _, _, _, _, _⟩) (v := ?_) rfl (by kernel_rfl) (by kernel_rfl) (by kernel_rfl) (fun _ _ _ h => h) (Or.inl ⟨by rfl, by intro w; go_simp; try rfl⟩) ?_
      try simp only [Act.put, List.setIfInBounds_toArray, List.set_cons_zero, List.set_cons_succ]
      refine wpAny_take (i := 8) (oi := ⟨some 36, _, _, _, _, _⟩) (v := ?_) rfl (by kernel_rfl) (by kernel_rfl) (by kernel_rfl) (fun _ _ _ h => h) (Or.inl ⟨by rfl, by intro w; go_simp; try rfl⟩) ?_
      try simp only [Act.put, List.setIfInBounds_toArray, List.set_cons_zero, List.set_cons_succ]
      refine wpAny_take (i := 9) (oi := ⟨some 37, _, _, _, _, _⟩) (v := ?_) rfl (by kernel_rfl) (by kernel_rfl) (by kernel_rfl) (fun _ _ _ h => h) (Or.inl ⟨by rfl, by intro w; go_simp; try rfl⟩) ?_
      try simp only [Act.put, List.setIfInBounds_toArray, List.set_cons_zero, List.set_cons_succ]
      refine wpAny_ready (rs := [7]) (by kernel_rfl) (by simp) ?_
      refine AllReady.cons (o := ⟨some 35, _, _, _, _, _⟩) rfl (fun K hK => ?_) AllReady.nil
      go_simp
      refine (lay_any b g hbg ad2 { t with tr := t.tr ++ [⟨2, x, y, l⟩] } 78 (some ⟨w2.heap.size, 0, none⟩) 272 272 272 272 (padL (l.take 272) 272) (t.sl (x, y)) wS HD3.out.1 HPd.out.pow HD3.out.2.1 HL3.out HD3.out.2.2 (Nat.le_refl _) (by omega)).mono ?_
      rintro e w61 ⟨rfl, hbq, hgq, h2q⟩
      have HR : Kp _ := ⟨wrote_parts HPd.out HG.out h2q hbq hgq (by rw [laid_length _ _ _ (by rw [pad272]; exact layK_le _ _) (by rw [HL3.out]; exact layK_le _ _)]; exact HL3.out)⟩
      clear hbq hgq h2q
      refine hK _ _ ?_
      clear hK K
      try simp only [Act.put, List.setIfInBounds_toArray, List.set_cons_zero, List.set_cons_succ]
      refine wpAny_take (i := 10) (oi := ⟨some 38, _, _, _, _, _⟩) (v := ?_) rfl (by kernel_rfl) (by kernel_rfl) (by kernel_rfl) (fun _ _ _ h => h) (Or.inl ⟨by rfl, by intro w; go_simp; try rfl⟩) ?_
      try simp only [Act.put, List.setIfInBounds_toArray, List.set_cons_zero, List.set_cons_succ]
      refine wpAny_take (i := 11) (oi := ⟨some 8, _, _, _, _, _⟩) (v := ?_) rfl (by kernel_rfl) (by kernel_rfl) (by kernel_rfl) (fun _ _ _ h => h) (Or.inl ⟨by rfl, by intro w; go_simp; try rfl⟩) ?_
      try simp only [Act.put, List.setIfInBounds_toArray, List.set_cons_zero, List.set_cons_succ]
      refine wpAny_done (by kernel_rfl) ?_ _
      go_wp2
      go_ret
      rw [HT.out.1, HT.out.2]
      refine ⟨?_, ad2, L2, O2, HR.out.1, HNd.out.trans HR.out.2⟩
      show Ending.returned (.bool (((layK t 272 : Nat) : Int) == ((272 : Nat) : Int))) = _
      rw [int_beq]
    · have HKK : Kp _ := ⟨hkk⟩
      clear hkk
      go_wp2_with (with_reducible refine wpList_cut_h (o := ⟨some 26, _, _, _, _, _⟩) el8 rfl (.tmp 22) (.tmp 25) rfl rfl HA2.out.bs .i64 _ k rfl (by have := HKK.out; omega) hkn ?_)
      intro A3 hb3
      have HB3 : Kp _ := ⟨hb3⟩
      clear hb3 hc HKK
      go_wp2_with fail
      refine (pad6_any A3 k c 272 (l.take k) w2 HB3.out (by omega) (by omega)).mono ?_
      rw [HTk.out, pad272 l]
      rintro e w3 ⟨rfl, hk3, hb3⟩
      have P3 := HP2.out.below hb3
      have HP3 : Kp _ := ⟨P3⟩
      have HN3 : Kp _ := ⟨HN2.out.below hb3⟩
      have HK3 : Kp _ := ⟨hk3⟩
      have hbg : b ≠ g := P3.blk.row.ne (P3.slots.blk _ g HG.out).row (by decide)
      have hblt : b < w2.heap.size := HP2.out.blk.lt
      have hglt : g < w2.heap.size := (HP2.out.slots.blk _ g HG.out).lt
      have HTs : Kp (BsT w3 b g (some ⟨w2.heap.size, 0, none⟩) 272 272 (padL (l.take 272) 272)) := ⟨⟨hk3.bytes (o := 0) hk3.lt (by rw [List.drop_zero, List.take_of_length_le (by rw [cells8_length, pad272]; exact Nat.le_refl _)]) (pad272 l) 272 (Nat.le_refl _) (by simp only [maxLen]; omega), fun ad hA _ => by
        obtain rfl := Option.some.inj hA
        exact ⟨by simp; omega, by simp; omega⟩⟩⟩
      have HD3 : Kp (Blk w3.drew b 75 (wdCells ad2 { t with tr := t.tr ++ [⟨2, x, y, l⟩] }) ∧ Blk w3.drew g 78 (cells8 (t.sl (x, y))) ∧ BsT w3.drew b g (some ⟨w2.heap.size, 0, none⟩) 272 272 (padL (l.take 272) 272)) := ⟨P3.blk.drew, (P3.slots.blk _ g HG.out).drew, ⟨HTs.out.bs.drew, HTs.out.apart⟩⟩
      have HL3 : Kp ((t.sl (x, y)).length = 272) := ⟨P3.slots.len _ g HG.out⟩
      have HPd : Kp _ := ⟨P3.below (Below.refl w3.heap.size w3).drew⟩
      have HNd : Kp _ := ⟨HN3.out.below (Below.refl w3.heap.size w3).drew⟩
      have hsl := contents_slice g
      clear P3 hb3 hk3 HK3 HTs HP3 HN3
      go_wp2_with fail
      refine wp_region_any (by kernel_rfl) ?_
      change wpAny _ _ _ _ _ _ _ w3.drew
      generalize w3.drew = wS at *
      refine wpAny_take (i := 0) (oi := ⟨some 28, _, _, _, _, _⟩) (v := ?_) rfl (by kernel_rfl) (by kernel_rfl) (by kernel_rfl) (fun _ _ _ h => h) (Or.inl ⟨by rfl, by intro w; go_simp; try rfl⟩) ?_
      try simp only [Act.put, List.setIfInBounds_toArray, List.set_cons_zero, List.set_cons_succ]
      refine wpAny_take (i := 1) (oi := ⟨some 29, _, _, _, _, _⟩) (v := ?_) rfl (by kernel_rfl) (by kernel_rfl) (by kernel_rfl) (fun _ _ _ h => h) (Or.inl ⟨by rfl, by intro w; go_simp; try rfl⟩) ?_
      try simp only [Act.put, List.setIfInBounds_toArray, List.set_cons_zero, List.set_cons_succ]
      refine wpAny_take (i := 2) (oi := ⟨some 30, _, _, _, _, _⟩) (v := ?_) rfl (by kernel_rfl) (by kernel_rfl) (by kernel_rfl) (fun _ _ _ h => h) (Or.inl ⟨by rfl, by intro w; go_simp; try rfl⟩) ?_
      try simp only [Act.put, List.setIfInBounds_toArray, List.set_cons_zero, List.set_cons_succ]
      refine wpAny_take (i := 3) (oi := ⟨some 31, _, _, _, _, _⟩) (v := ?_) rfl (by kernel_rfl) (by kernel_rfl) (by kernel_rfl) (fun _ _ _ h => h) (Or.inl ⟨by rfl, by intro w; go_simp; try rfl⟩) ?_
      try simp only [Act.put, List.setIfInBounds_toArray, List.set_cons_zero, List.set_cons_succ]
      refine wpAny_take (i := 4) (oi := ⟨some 32, _, _, _, _, _⟩) (v := ?_) rfl (by kernel_rfl) (by kernel_rfl) (by kernel_rfl) (fun _ _ _ h => h) (Or.inl ⟨by rfl, by intro w; go_simp; try rfl⟩) ?_
      try simp only [Act.put, List.setIfInBounds_toArray, List.set_cons_zero, List.set_cons_succ]
      refine wpAny_take (i := 5) (oi := ⟨some 33, _, _, _, _, _⟩) (v := ?_) rfl (by kernel_rfl) (by kernel_rfl) (by kernel_rfl) (fun _ _ _ h => h) (Or.inl ⟨by rfl, by intro w; go_simp; try rfl⟩) ?_
      try simp only [Act.put, List.setIfInBounds_toArray, List.set_cons_zero, List.set_cons_succ]
      refine wpAny_take (i := 6) (oi := ⟨some 34, _, _, _, _, _⟩) (v := ?_) rfl (by kernel_rfl) (by kernel_rfl) (by kernel_rfl) (fun _ _ _ h => h) (Or.inl ⟨by rfl, by intro w; go_simp; try rfl⟩) ?_
      try simp only [Act.put, List.setIfInBounds_toArray, List.set_cons_zero, List.set_cons_succ]
      refine wpAny_take (i := 8) (oi := ⟨some 36, _, _, _, _, _⟩) (v := ?_) rfl (by kernel_rfl) (by kernel_rfl) (by kernel_rfl) (fun _ _ _ h => h) (Or.inl ⟨by rfl, by intro w; go_simp; try rfl⟩) ?_
      try simp only [Act.put, List.setIfInBounds_toArray, List.set_cons_zero, List.set_cons_succ]
      refine wpAny_take (i := 9) (oi := ⟨some 37, _, _, _, _, _⟩) (v := ?_) rfl (by kernel_rfl) (by kernel_rfl) (by kernel_rfl) (fun _ _ _ h => h) (Or.inl ⟨by rfl, by intro w; go_simp; try rfl⟩) ?_
      try simp only [Act.put, List.setIfInBounds_toArray, List.set_cons_zero, List.set_cons_succ]
      refine wpAny_ready (rs := [7]) (by kernel_rfl) (by simp) ?_
      refine AllReady.cons (o := ⟨some 35, _, _, _, _, _⟩) rfl (fun K hK => ?_) AllReady.nil
      go_simp
      refine (lay_any b g hbg ad2 { t with tr := t.tr ++ [⟨2, x, y, l⟩] } 78 (some ⟨w2.heap.size, 0, none⟩) 272 272 272 272 (padL (l.take 272) 272) (t.sl (x, y)) wS HD3.out.1 HPd.out.pow HD3.out.2.1 HL3.out HD3.out.2.2 (Nat.le_refl _) (by omega)).mono ?_
      rintro e w61 ⟨rfl, hbq, hgq, h2q⟩
      have HR : Kp _ := ⟨wrote_parts HPd.out HG.out h2q hbq hgq (by rw [laid_length _ _ _ (by rw [pad272]; exact layK_le _ _) (by rw [HL3.out]; exact layK_le _ _)]; exact HL3.out)⟩
      clear hbq hgq h2q
      refine hK _ _ ?_
      clear hK K
      try simp only [Act.put, List.setIfInBounds_toArray, List.set_cons_zero, List.set_cons_succ]
      refine wpAny_take (i := 10) (oi := ⟨some 38, _, _, _, _, _⟩) (v := ?_) rfl (by kernel_rfl) (by kernel_rfl) (by kernel_rfl) (fun _ _ _ h => h) (Or.inl ⟨by rfl, by intro w; go_simp; try rfl⟩) ?_
      try simp only [Act.put, List.setIfInBounds_toArray, List.set_cons_zero, List.set_cons_succ]
      refine wpAny_take (i := 11) (oi := ⟨some 8, _, _, _, _, _⟩) (v := ?_) rfl (by kernel_rfl) (by kernel_rfl) (by kernel_rfl) (fun _ _ _ h => h) (Or.inl ⟨by rfl, by intro w; go_simp; try rfl⟩) ?_
      try simp only [Act.put, List.setIfInBounds_toArray, List.set_cons_zero, List.set_cons_succ]
      refine wpAny_done (by kernel_rfl) ?_ _
      go_wp2
      go_ret
      rw [HT.out.1, HT.out.2]
      refine ⟨?_, ad2, L2, O2, HR.out.1, HNd.out.trans HR.out.2⟩
      show Ending.returned (.bool (((layK t 272 : Nat) : Int) == ((272 : Nat) : Int))) = _
      rw [int_beq]
  · have hs := slot_none h hth
    have HT : Kp (writeW t (x, y) l = t ∧ writeB t (x, y) = false) := ⟨by unfold writeW writeB; rw [if_neg hth, show thereW t (x, y) = false by simpa using hth]; exact ⟨rfl, rfl⟩⟩
    clear h hx hth ha
    go_enter Try.func12, Try.ntmps12
    go_wp2_with fail
    refine (slot_any HP.out x y HX.out).mono ?_
    rintro e w1 ⟨rfl, rfl⟩
    rw [hs]
    go_wp2
    go_ret
    rw [HT.out.1, HT.out.2]
    exact ⟨ad, L, O, rfl, HP.out.stayO, HP.out.nx⟩
end
end Go.Proofs.Ytalnbomnmmefgaa
