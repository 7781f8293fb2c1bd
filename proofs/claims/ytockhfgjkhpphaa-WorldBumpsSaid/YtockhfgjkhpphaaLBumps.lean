/- The walk of WorldBumps. -/
import Derived.Test.YtockhfgjkhpphaaDid2
import Derived.Test.YtockhfgjkhpphaaWtP
import Derived.Deep.LoopGhost
namespace Go.Proofs.Ytockhfgjkhpphaa
open Go.RowKit

theorem tell_ctr (t : Wd) (a b c : Int) (l : List UInt8) : (tellW t a b c l).ctr = t.ctr := rfl
theorem did_ctr (t : Wd) (d : Dd) (h9 : d.kind ≠ 9) : (d.kind = 5 → didB t d = true → (didW t d).ctr = t.ctr + 1 ∧ (didW t d).lost = false) ∧ (¬ (d.kind = 5 ∧ didB t d = true) → (didW t d).ctr = t.ctr) := by
  have hB : bumpB t = true → (bumpW t).ctr = t.ctr + 1 ∧ (bumpW t).lost = false := fun h => by
    unfold bumpB at h
    simp only [Bool.and_eq_true, Bool.not_eq_true', decide_eq_true_eq] at h
    unfold bumpW
    rw [if_neg (by rw [h.1]; decide), if_neg (by omega), if_pos h.2.2]
    refine ⟨rfl, ?_⟩
    show (takeW t).lost = false
    have ht := h.2.2
    unfold takeOk at ht
    unfold takeW
    by_cases hl : t.lim = true
    · rw [hl] at ht
      rw [if_pos hl, if_neg (by simp at ht; omega)]
      exact h.1
    · rw [if_neg hl]; exact h.1
  have hB2 : bumpB t = false → (bumpW t).ctr = t.ctr := fun h => by
    unfold bumpB at h
    unfold bumpW
    split
    · rfl
    · split
      · rfl
      · rename_i h1 h2
        split
        · rename_i h3
          rw [h3, decide_eq_true (by omega)] at h
          simp at h
          exact absurd h h1
        · exact (takeW_same t).2.2.2.2.2.2.2.1
  refine ⟨fun h5 hb => ?_, fun hn => ?_⟩
  · have e1 : didW t d = bumpW t := by unfold didW; rw [h5]; simp
    have e2 : didB t d = bumpB t := by unfold didB; rw [h5]; simp
    rw [e1]
    exact hB (by rw [← e2]; exact hb)
  · by_cases h5 : d.kind = 5
    · have e1 : didW t d = bumpW t := by unfold didW; rw [h5]; simp
      have e2 : didB t d = bumpB t := by unfold didB; rw [h5]; simp
      rw [e1]
      refine hB2 ?_
      have : ¬ bumpB t = true := fun h => hn ⟨h5, by rw [e2]; exact h⟩
      simpa using this
    · unfold didW
      split
      · unfold readW; split <;> rfl
      · split
        · by_cases hth : thereW t (d.pl, d.sl) = true
          · exact (write_fields hth).2.2.1
          · unfold writeW; rw [if_neg hth]
        · split
          · unfold lookW; split <;> rfl
          · split
            · unfold sealedW
              split
              · split
                · exact (layW_same _ _).2.2.2.2.2.2.2.1
                · exact (layW_same _ _).2.2.2.2.2.2.2.1
              · rfl
            · split
              · unfold lieW; split <;> rfl
              · split
                · unfold armW; split <;> rfl
                · split
                  · rfl
                  · rfl

set_option maxRecDepth 100000 in
set_option maxHeartbeats 8000000 in
theorem wbumps (N : Nat) (A : Option Addr) (m c : Nat) (ds : List Dd) (w : World) (hN : N < 18446744073709551616) (hD : Dos w w.heap.size A m c ds) (hsm : dsmall ds = true) (hb : ∀ x ∈ ds, x.bs.length ≤ 140737488351232) :
    Calls Try.prog 7 #[.int .u64 (N : Int), .slice A m c] w fun e w' => e = .returned (.bool true) ∧ Below w.heap.size w w' := by
  have HD : Kp _ := ⟨hD⟩
  have HL : Kp _ := ⟨hD.len⟩
  have HB : Kp _ := ⟨hb⟩
  have HM : Kp (m ≤ 40 ∧ ∀ x ∈ ds, x.bs.length ≤ 3000) := ⟨by
    unfold dsmall at hsm
    simp only [Bool.and_eq_true, decide_eq_true_eq] at hsm
    exact ⟨by rw [← hD.len]; exact hsm.1, fun x hx => by have := dlong_mem ds x hx; omega⟩⟩
  have hm63 := hD.le
  clear hD hb
  go_enter Try.func7, Try.ntmps7
  go_wp2_with fail
  refine (small_any A m c ds w _ HD.out HB.out).mono ?_
  rintro e w0 ⟨rfl, rfl⟩
  rw [hsm]
  go_wp2_with fail
  refine (st_new (St.start w0) 3 (by omega)).mono ?_
  rintro e w1 ⟨b, rfl, S1⟩
  have H1 : Kp _ := ⟨S1⟩
  clear S1
  go_wp2_with fail
  refine (st_set H1.out N hN).mono ?_
  rintro e w2 ⟨rfl, S2⟩
  have H2 : Kp (∃ t, St w0 w2 1 [(b, t)] [] ∧ t.ctr = N) := ⟨_, S2, rfl⟩
  clear S2 H1
  go_wp2
  go_loopg [6, 7] m (fun gk v6 v7 wr => ∃ i L : Nat, i + gk = m ∧ v7 = .int .i64 i ∧ v6 = .int .u64 (L : Int) ∧ Kp (∃ t, St w0 wr (1 + i) [(b, t)] [] ∧ t.ctr = L))
  case atStart => exact ⟨0, N, by omega, rfl, rfl, H2⟩
  case round =>
    clear H2
    obtain ⟨i, L, hi, rfl, rfl, HI⟩ := hrel
    obtain ⟨t, S, hc⟩ := HI.out
    have HS : Kp _ := ⟨S⟩
    have HC : Kp _ := ⟨hc⟩
    have hm40 := HM.out.1
    clear S hc HI
    cases gk with
    | zero =>
      have hlt : ¬ ((i : Int) < (m : Int)) := by omega
      have hB := HS.out.below
      go_wp2_with fail
      refine (known6_any _).mono ?_
      rintro e w9 ⟨rfl, hB9⟩
      go_wp2
      go_ret
      exact ⟨rfl, hB.trans (hB9.mono hB.size)⟩
    | succ g2 =>
      have hlt : (i : Int) < (m : Int) := by omega
      have him : i < m := by omega
      have hid : i < ds.length := by rw [HL.out]; exact him
      obtain ⟨bd, od, A', n', c', hAe, hda⟩ := HD.out.at him
      obtain ⟨d, hd⟩ : ∃ d, d = ds[i]'hid := ⟨_, rfl⟩
      rw [← hd] at hda
      have HDk : Kp (DdOk d ∧ d.bs.length ≤ 3000) := ⟨by rw [hd]; exact ⟨HD.out.ok _ (List.getElem_mem hid), HM.out.2 _ (List.getElem_mem hid)⟩⟩
      have hdr : DdAt wr _ bd (od + i * 5) d A' n' c' := hda.keep (by
        obtain ⟨b9, o9, e9, h9, _⟩ := HD.out.cells (by omega)
        rw [hAe] at e9
        have := Option.some.inj e9
        injection this with e1 _ _
        rw [e1]; exact h9) (fun p hp => HS.out.below.cell hp)
      have q0 := hdr.kind
      have q1 := hdr.pl
      have q2 := hdr.sl
      have q3 := hdr.num
      have q4 := hdr.sli
      have HBy : Kp _ := ⟨hda.bytes⟩
      subst hAe
      clear hd hda hdr
      by_cases h9 : d.kind = 9
      · have h9i : (d.kind == 9) = true := by rw [beq_iff_eq]; exact h9
        have H9 : Kp _ := ⟨h9⟩
        clear h9
        go_wp2
        go_roundg g2
        case measure => omega
        case rel => exact ⟨i + 1, L, by omega, by go_num, rfl, ⟨t, HS.out.more (by omega), HC.out⟩⟩
      · have h9i : (d.kind == 9) = false := by rw [beq_eq_false_iff_ne]; exact h9
        have H9 : Kp _ := ⟨did_ctr t d h9⟩
        have HH : Kp _ := ⟨HS.out.hold HBy.out (by have := HBy.out.len; have := HDk.out.2; omega)⟩
        clear h9
        go_wp2_with fail
        refine (did_any HH.out (by omega) d HDk.out.1 A' n' c' (by simp)).mono ?_
        rintro e w3 ⟨A3, n3, c3, rfl, S3⟩
        have H3 : Kp _ := ⟨S3.forget (hs' := []) (fun x h => by cases h)⟩
        have hctr := S3.left.2
        have HQ : Kp (w3.cell? ⟨bd, od + i * 5, none⟩ = some (.int .i64 d.kind)) := ⟨by
          obtain ⟨b9, o9, e9, h9, _⟩ := HD.out.cells (by omega)
          have := Option.some.inj e9
          injection this with e1 _ _
          have hq := S3.below.cell (p := ⟨bd, od + i * 5, none⟩) (by show bd < _; rw [e1]; exact h9)
          have hq2 := HS.out.below.cell (p := ⟨bd, od + i * 5, none⟩) (by show bd < _; rw [e1]; exact h9)
          rw [hq, ← hq2]; exact q0⟩
        have q5 := HQ.out
        obtain ⟨t', ht'⟩ : ∃ t', t' = didW t d := ⟨_, rfl⟩
        obtain ⟨iB, hiB⟩ : ∃ iB, iB = didB t d := ⟨_, rfl⟩
        rw [← ht'] at H3 hctr H9
        rw [← hiB] at H9 ⊢
        clear S3 HS HH ht' hiB q0 q1 q2 q3 q4
        go_wp2_with fail
        refine (st_counter H3.out).mono ?_
        rintro e w4 ⟨rfl, rfl⟩
        go_wp2_with fail
        refine (st_dead H3.out).mono ?_
        rintro e w4 ⟨rfl, rfl⟩
        cases hlost : t'.lost
        · have e1 : ctrW t' = t'.ctr := by unfold ctrW; rw [hlost]; rfl
          rw [e1]
          by_cases h5 : d.kind = 5
          · have h5i : (d.kind == 5) = true := by rw [beq_iff_eq]; exact h5
            cases iB
            · have e2 : t'.ctr = L := by rw [H9.out.2 (fun h => by cases h.2), HC.out]
              have HT : Kp _ := ⟨e2⟩
              rw [e2] at hctr ⊢
              have hw : IntKind.u64.wrap ((L : Int) + 0) = (L : Int) := by rw [Int.add_zero, wrap_u64_nat, Nat.mod_eq_of_lt hctr]
              have hw2 : IntKind.u64.wrap (L : Int) = (L : Int) := by rw [wrap_u64_nat, Nat.mod_eq_of_lt hctr]
              have hneq : ((L : Int) != (L : Int)) = false := by simp
              have HCt : Kp _ := ⟨hctr⟩
              clear e1 e2 h5 hctr
              go_wp2
              go_roundg g2
              case measure => omega
              case rel => exact ⟨i + 1, L, by omega, by go_num, rfl, ⟨t', H3.out.more (by omega), HT.out⟩⟩
            · have e2 : t'.ctr = L + 1 := by rw [(H9.out.1 h5 rfl).1, HC.out]
              have HT : Kp _ := ⟨e2⟩
              rw [e2] at hctr ⊢
              have hcast : ((L + 1 : Nat) : Int) = (L : Int) + 1 := by omega
              have hw : IntKind.u64.wrap ((L : Int) + 1) = ((L + 1 : Nat) : Int) := by rw [← hcast, wrap_u64_nat, Nat.mod_eq_of_lt hctr]
              obtain ⟨L2, hL2⟩ : ∃ L2, L2 = L + 1 := ⟨_, rfl⟩
              rw [← hL2] at hw hcast ⊢
              have hneq : ((L2 : Int) != (L2 : Int)) = false := by simp
              have hnz : ((L2 : Int) == 0) = false := by rw [beq_eq_false_iff_ne]; omega
              have HCt : Kp _ := ⟨And.intro hctr hL2⟩
              clear e1 e2 h5 hctr hL2 hcast
              go_wp2
              go_roundg g2
              case measure => omega
              case rel => exact ⟨i + 1, L2, by omega, by go_num, rfl, ⟨t', H3.out.more (by omega), by rw [HT.out, HCt.out.2]⟩⟩
          · have h5i : (d.kind == 5) = false := by rw [beq_eq_false_iff_ne]; exact h5
            have e2 : t'.ctr = L := by rw [H9.out.2 (fun h => h5 h.1), HC.out]
            have HT : Kp _ := ⟨e2⟩
            rw [e2] at hctr ⊢
            have hw : IntKind.u64.wrap ((L : Int) + 0) = (L : Int) := by rw [Int.add_zero, wrap_u64_nat, Nat.mod_eq_of_lt hctr]
            have hw2 : IntKind.u64.wrap (L : Int) = (L : Int) := by rw [wrap_u64_nat, Nat.mod_eq_of_lt hctr]
            have hneq : ((L : Int) != (L : Int)) = false := by simp
            have HCt : Kp _ := ⟨hctr⟩
            clear e1 e2 h5 hctr
            go_wp2
            go_roundg g2
            case measure => omega
            case rel => exact ⟨i + 1, L, by omega, by go_num, rfl, ⟨t', H3.out.more (by omega), HT.out⟩⟩
        · have e1 : ctrW t' = 0 := by unfold ctrW; rw [hlost]; rfl
          rw [e1]
          have e2 : t'.ctr = L := by
            rw [H9.out.2 (fun h => by
              have := (H9.out.1 h.1 h.2).2
              rw [hlost] at this; cases this), HC.out]
          have HT : Kp _ := ⟨e2⟩
          clear e1 e2 hctr
          go_wp2
          go_roundg g2
          case measure => omega
          case rel => exact ⟨i + 1, L, by omega, by go_num, rfl, ⟨t', H3.out.more (by omega), HT.out⟩⟩
set_option maxHeartbeats 1000000 in
theorem law_worldBumps (x : Int) (A : Option Addr) (m c : Nat) (ds : List Dd) (w : World) (hx : (Lit.int .u64 x).wf = true) (hD : Dos w w.heap.size A m c ds ∧ ∀ x ∈ ds, x.bs.length ≤ 140737488351232) :
    Calls Try.prog 7 #[.int .u64 x, .slice A m c] w fun e w' => e = .returned (.bool true) ∧ Below w.heap.size w w' := by
  have hx2 : 0 ≤ x ∧ x ≤ 18446744073709551615 := by simpa [Lit.wf, IntKind.min, IntKind.max, IntKind.signed, IntKind.bits] using hx
  obtain ⟨N, rfl⟩ := Int.eq_ofNat_of_zero_le hx2.1
  cases hsm : dsmall ds
  · have HD : Kp _ := ⟨hD⟩
    clear hD hx hx2
    go_enter Try.func7, Try.ntmps7
    go_wp2_with fail
    refine (small_any A m c ds w _ HD.out.1 HD.out.2).mono ?_
    rintro e w0 ⟨rfl, rfl⟩
    rw [hsm]
    go_wp2_with fail
    refine (known6_any _).mono ?_
    rintro e w1 ⟨rfl, hB1⟩
    go_wp2
    go_ret
    exact ⟨rfl, hB1⟩
  · exact wbumps N A m c ds w (by omega) hD.1 hsm hD.2
end Go.Proofs.Ytockhfgjkhpphaa
