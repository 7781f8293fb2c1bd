/- The contracts of right, with what it asks of each, and of the document's Right. -/
import Derived.Test.YtaedlaeflliibaaEnL
import Derived.Deep.QuietTactic
namespace Go.Proofs.Ytaedlaeflliibaa
open Go.RowKit

set_option maxHeartbeats 1000000 in
theorem wrong_any (x : En) (w : World) (hx : EnOk x) :
    Calls Try.prog 41 #[.agg (enOne x).toArray] w fun e w' => e = .returned (.bool (!okE x)) ∧ Below w.heap.size w w' := by
  obtain ⟨⟨nm, z⟩, rfl⟩ : ∃ y, x = y := ⟨_, rfl⟩
  have HN : Kp _ := ⟨hx.len⟩
  obtain ⟨b, hb⟩ : ∃ b, b = okE (nm, z) := ⟨_, rfl⟩
  rw [← hb]
  have HB : Kp (b = ((okNm nm && decide (1 ≤ z)) && decide (z ≤ 65535))) := ⟨hb⟩
  clear hb hx
  go_enter Try.func41, Try.ntmps41
  go_wp2_with (with_reducible refine wpList_box (o := ⟨some 1, _, _, _, _, _⟩) (cs := enOne (nm, z)) rfl (.tmp 0) rfl rfl ?_)
  intro w1 hk1 hb1 hs1
  have HK1 : Kp _ := ⟨hk1⟩
  have HB1 : Kp _ := ⟨hb1⟩
  have c0 : w1.cell? ⟨w.heap.size, 0, none⟩ = some (.string ⟨nm.toArray⟩) := hk1.cell? 0
  clear hk1 hb1 hs1
  have HCn : Kp _ := ⟨named_any nm w1 HN.out⟩
  cases hq : okNm nm with
  | false =>
    rw [hq] at HCn
    have HB3 : Kp (b = false) := ⟨by rw [HB.out, hq]; rfl⟩
    go_wp2_with (go_at_call 25; refine HCn.out.mono ?_; rintro e w2 ⟨rfl, hb2⟩)
    have HB2 : Kp (Below w.heap.size w w2) := ⟨HB1.out.trans (hb2.mono HB1.out.size)⟩
    go_wp2
    go_ret
    exact ⟨by rw [HB3.out]; rfl, HB2.out⟩
  | true =>
    rw [hq] at HCn
    by_cases h1 : z < 1
    · have HB3 : Kp (b = false) := ⟨by rw [HB.out, hq, decide_eq_false (by omega)]; rfl⟩
      go_wp2_with (go_at_call 25; refine HCn.out.mono ?_; rintro e w2 ⟨rfl, hb2⟩; have c1 : w2.cell? ⟨w.heap.size, 1, none⟩ = some (.int .i64 z) := (HK1.out.below hb2 HK1.out.lt).cell? 1)
      have HB2 : Kp (Below w.heap.size w w2) := ⟨HB1.out.trans (hb2.mono HB1.out.size)⟩
      go_wp2
      go_ret
      exact ⟨by rw [HB3.out]; rfl, HB2.out⟩
    · by_cases h2 : 65535 < z
      · have HB3 : Kp (b = false) := ⟨by rw [HB.out, hq, decide_eq_false (by omega : ¬ z ≤ 65535), Bool.and_false]⟩
        go_wp2_with (go_at_call 25; refine HCn.out.mono ?_; rintro e w2 ⟨rfl, hb2⟩; have c1 : w2.cell? ⟨w.heap.size, 1, none⟩ = some (.int .i64 z) := (HK1.out.below hb2 HK1.out.lt).cell? 1)
        have HB2 : Kp (Below w.heap.size w w2) := ⟨HB1.out.trans (hb2.mono HB1.out.size)⟩
        go_wp2
        go_ret
        exact ⟨by rw [HB3.out]; rfl, HB2.out⟩
      · have HB3 : Kp (b = true) := ⟨by rw [HB.out, hq, decide_eq_true (by omega : 1 ≤ z), decide_eq_true (by omega : z ≤ 65535)]; rfl⟩
        go_wp2_with (go_at_call 25; refine HCn.out.mono ?_; rintro e w2 ⟨rfl, hb2⟩; have c1 : w2.cell? ⟨w.heap.size, 1, none⟩ = some (.int .i64 z) := (HK1.out.below hb2 HK1.out.lt).cell? 1)
        have HB2 : Kp (Below w.heap.size w w2) := ⟨HB1.out.trans (hb2.mono HB1.out.size)⟩
        go_wp2
        go_ret
        exact ⟨by rw [HB3.out]; simp; omega, HB2.out⟩
set_option maxHeartbeats 1000000 in
theorem indexfunc_any (A : Option Addr) (n c : Nat) (l : List En) (w : World) (ha : Ens w w.heap.size A n c l) :
    Calls Try.prog 57 #[.slice A n c, .func (.func 41) #[] #[]] w fun e w' => (∃ z : Int, e = .returned (.int .i64 z) ∧ (decide (0 ≤ z) = l.any fun x => !okE x)) ∧ Below w.heap.size w w' := by
  have hle := ha.le
  have HL : Kp _ := ⟨ha.len⟩
  have HI : Kp _ := ⟨ha⟩
  obtain ⟨b, hb⟩ : ∃ b, b = l.any fun x => !okE x := ⟨_, rfl⟩
  rw [← hb]
  have HB : Kp _ := ⟨hb⟩
  clear ha hb
  go_enter Try.func57, Try.ntmps57
  go_wp2
  go_loopw [5, 8] (fun _ i wr => ∃ k : Nat, k ≤ n ∧ i = .int .i64 k ∧ Kp (Below w.heap.size w wr) ∧ Kp ((l.take k).any (fun x => !okE x) = false)) (fun _ i _ => n - (intOf i).toNat)
  case atStart => exact ⟨0, Nat.zero_le _, rfl, ⟨Below.refl _ _⟩, ⟨by simp⟩⟩
  case round =>
    obtain ⟨k, hk, rfl, HW, HR⟩ := hrel
    by_cases hlt : k < n
    · obtain ⟨b1, o1, rfl, _, c0, c1⟩ := (HI.out.below HW.out).at hlt
      have hki : k < l.length := by rw [HL.out]; exact hlt
      have HO : Kp _ := ⟨HI.out.ok _ (List.getElem_mem hki)⟩
      have HS : Kp _ := ⟨any_take_succ (fun x => !okE x) l k hki⟩
      have HA : Kp ((!okE l[k]) = true → l.any (fun x => !okE x) = true) := ⟨fun h => any_of_at _ l k hki h⟩
      have hc := wrong_any l[k] wr HO.out
      obtain ⟨⟨nm, z⟩, hx⟩ : ∃ x, l[k] = x := ⟨_, rfl⟩
      rw [hx] at c0 c1 HS HA hc
      have HC : Kp _ := ⟨hc⟩
      clear hx HO hc
      simp only at c0 c1
      cases hq : okE (nm, z) with
      | false =>
        have HB3 : Kp (b = true) := ⟨by rw [HB.out]; exact HA.out (by rw [hq]; rfl)⟩
        rw [hq] at HC
        go_wp2_with (go_at_call 41; refine HC.out.mono ?_; rintro e w2 ⟨rfl, hb2⟩)
        have HW2 : Kp (Below w.heap.size w w2) := ⟨HW.out.trans (hb2.mono HW.out.size)⟩
        go_wp2
        go_ret
        exact ⟨⟨_, rfl, by rw [HB3.out]; simp⟩, HW2.out⟩
      | true =>
        have HS3 : Kp ((l.take (k + 1)).any (fun x => !okE x) = false) := ⟨by rw [HS.out, HR.out, hq]; rfl⟩
        rw [hq] at HC
        go_wp2_with (go_at_call 41; refine HC.out.mono ?_; rintro e w2 ⟨rfl, hb2⟩)
        have HW2 : Kp (Below w.heap.size w w2) := ⟨HW.out.trans (hb2.mono HW.out.size)⟩
        go_wp2
        go_roundw
        case rel => exact ⟨k + 1, by omega, by go_num, HW2, HS3⟩
        case measure => simp [intOf]; omega
    · have HB3 : Kp (b = false) := ⟨by
        have h := HR.out
        rw [List.take_of_length_le (by have := HL.out; omega)] at h
        rw [HB.out, h]⟩
      go_wp2
      go_ret
      exact ⟨⟨_, rfl, by rw [HB3.out]; rfl⟩, HW.out⟩
set_option maxHeartbeats 1000000 in
theorem right_any (A : Option Addr) (n c : Nat) (l : List En) (w : World) (ha : Ens w w.heap.size A n c l) :
    Calls Try.prog 29 #[.slice A n c] w fun e w' => e = .returned (.bool (rightE l)) ∧ Below w.heap.size w w' := by
  have hle := ha.le
  have HL : Kp _ := ⟨ha.len⟩
  have HI : Kp _ := ⟨ha⟩
  obtain ⟨b, hb⟩ : ∃ b, b = rightE l := ⟨_, rfl⟩
  rw [← hb]
  have HB : Kp (b = ((decide (n ≤ 560) && riseL l) && l.all okE)) := ⟨by rw [hb, rightE, ha.len]⟩
  clear ha hb
  have HA : Kp (l.all okE = !(l.any fun x => !okE x)) := ⟨by
    rw [List.not_any_eq_all_not]; simp⟩
  go_enter Try.func29, Try.ntmps29
  by_cases hn : n ≤ 560
  · have hni : (n : Int) ≤ 560 := by omega
    have HR1 : Kp _ := ⟨rise_any A n c l w w.heap.size HI.out⟩
    cases hr : riseL l with
    | false =>
      rw [hr] at HR1
      have HB3 : Kp (b = false) := ⟨by rw [HB.out, hr]; simp⟩
      go_wp2_with (go_at_call 42; refine HR1.out.mono ?_; rintro e w1 ⟨rfl, hb1⟩)
      have HW1 : Kp _ := ⟨hb1 w.heap.size⟩
      go_wp2
      go_ret
      exact ⟨by rw [HB3.out]; rfl, HW1.out⟩
    | true =>
      rw [hr] at HR1
      go_wp2_with (first | (go_at_call 42; refine HR1.out.mono ?_; rintro e w1 ⟨rfl, hb1⟩) | (go_at_call 43; go_in))
      have HW1 : Kp _ := ⟨hb1 w.heap.size⟩
      have HI1 : Kp _ := ⟨HI.out.next (hb1 _) (Nat.le_refl _)⟩
      clear hb1
      go_wp2_with (go_at_call 57; refine (indexfunc_any A n c l _ HI1.out).mono ?_; rintro e w2 ⟨⟨z, rfl, hz⟩, hb2⟩)
      have HW2 : Kp (Below w.heap.size w w2) := ⟨HW1.out.trans (hb2.mono HW1.out.size)⟩
      have HB3 : Kp (b = !(l.any fun x => !okE x)) := ⟨by rw [HB.out, hr, decide_eq_true hn, HA.out]; rfl⟩
      clear hb2
      go_wp2
      go_ret
      exact ⟨by rw [HB3.out]; rfl, HW2.out⟩
  · have hni : ¬ (n : Int) ≤ 560 := by omega
    have HB3 : Kp (b = false) := ⟨by rw [HB.out, decide_eq_false hn]; rfl⟩
    go_wp2
    go_ret
    exact ⟨by rw [HB3.out]; rfl, Below.refl _ _⟩
end Go.Proofs.Ytaedlaeflliibaa
