/- The contract of the document's Decode. -/
import Derived.Test.YtaedlaeflliibaaEnA
import Derived.Test.YtaedlaeflliibaaEnD
import Derived.Test.YtaedlaeflliibaaEnM
import Derived.Test.YtaedlaeflliibaaEnU
import Derived.Deep.CutBlock
namespace Go.Proofs.Ytaedlaeflliibaa
open Go.RowKit Go.Deep

section
set_option maxRecDepth 100000
set_option maxHeartbeats 8000000
theorem refdecode_any (A : Option Addr) (n c : Nat) (b : List UInt8) (w : World) (hb : Bs w w.heap.size A n c b) (hn : n ≤ 4294967296) :
    Calls Try.prog 16 #[.slice A n c] w fun e w' => ∃ A' n' c', e = .returned (.tuple #[.slice A' n' c', .int .i64 (decC b)]) ∧ Ens w' w'.heap.size A' n' c' (decR b) ∧ Below w.heap.size w w' := by
  have HL : Kp (b.length = n) := ⟨hb.len⟩
  have HBs : Kp (∀ W, Below w.heap.size w W → Bs W w.heap.size A n c b) := ⟨fun W h => hb.below h⟩
  have HNo : Kp (∀ k, k < pcs n → chk b k = false → decC b = 4 ∧ decR b = []) := ⟨fun k hk h => by
    have e : decOk b = false := by rw [← refOk_eq]; exact chk_no (by rw [HL.out]; exact hk) h
    unfold decC decR; rw [e]; exact ⟨rfl, rfl⟩⟩
  have HNo2 : Kp ((∀ k, k < pcs n → chk b k = true) → rightE (entsE b) = false → decC b = 4 ∧ decR b = []) := ⟨fun h hr => by
    have e : decOk b = false := by rw [← refOk_eq, chk_yes (by rw [HL.out]; exact h)]; exact hr
    unfold decC decR; rw [e]; exact ⟨rfl, rfl⟩⟩
  have HYes : Kp ((∀ k, k < pcs n → chk b k = true) → rightE (entsE b) = true → decC b = 0 ∧ decR b = entsE b) := ⟨fun h hr => by
    have e : decOk b = true := by rw [← refOk_eq, chk_yes (by rw [HL.out]; exact h)]; exact hr
    unfold decC decR; rw [e]; exact ⟨rfl, rfl⟩⟩
  have HPc : Kp (pcs n = (n + 31) / 32) := ⟨rfl⟩
  have HEn : Kp (entsE b = entsK b (pcs n)) := ⟨by unfold entsE; rw [HL.out]⟩
  obtain ⟨pn, hpn⟩ : ∃ x, x = pcs n := ⟨_, rfl⟩
  rw [← hpn] at HNo HNo2 HYes HPc HEn
  clear hb hpn
  go_enter Try.func16, Try.ntmps16
  go_wp2_with fail
  go_loopg [4, 5] pn (fun gk v4 v5 wr => ∃ k i : Nat, k + gk = pn ∧ Kp (i = 32 * k) ∧ v5 = .int .i64 i ∧ Kp (wr.ownsRow w.heap.size 39 2 v4 k (enCells (entsK b k))) ∧ Kp (Below w.heap.size w wr) ∧ Kp (∀ j, j < k → chk b j = true))
  case atStart => exact ⟨0, 0, by omega, ⟨rfl⟩, rfl, ⟨own2E_nil _ _ _⟩, ⟨Below.refl _ _⟩, ⟨fun j hj => absurd hj (by omega)⟩⟩
  case round =>
    obtain ⟨k, i, hkg, Hi, rfl, HK, HW, HC⟩ := hrel
    cases gk with
    | zero =>
      have hend : ¬ ((i : Int) < (n : Int)) := by have := Hi.out; have := HPc.out; omega
      have hk : k = pn := by omega
      subst hk
      rw [← HEn.out] at HK
      obtain ⟨A9, c9, rfl, h9⟩ := Ens.of_own HK.out (tell_ok b (List.range (pcs b.length)))
      have H9 : Kp _ := ⟨h9⟩
      clear h9 HK
      cases hr : rightE (entsE b) with
      | false =>
        have HR : Kp _ := ⟨HNo2.out HC.out hr⟩
        have HRt : Kp _ := ⟨refright_any A9 k c9 (entsE b) wr wr.heap.size H9.out⟩
        rw [hr] at HRt
        clear hr
        go_wp2_with fail
        refine HRt.out.mono ?_
        rintro e w2 ⟨rfl, hb2⟩
        go_wp2
        go_ret2
        exact ⟨none, 0, 0, by rw [HR.out.1]; rfl, by rw [HR.out.2]; exact Ens.zero _ _, HW.out.trans (hb2 _)⟩
      | true =>
        have HR : Kp _ := ⟨HYes.out HC.out hr⟩
        have HRt : Kp _ := ⟨refright_any A9 k c9 (entsE b) wr wr.heap.size H9.out⟩
        rw [hr] at HRt
        clear hr
        go_wp2_with fail
        refine HRt.out.mono ?_
        rintro e w2 ⟨rfl, hb2⟩
        have H10 : Kp _ := ⟨H9.out.next (hb2 _) (Nat.le_refl _)⟩
        have HB2 : Kp (Below w.heap.size w w2) := ⟨HW.out.trans (hb2 _)⟩
        clear H9 hb2
        go_wp2
        go_ret2
        exact ⟨_, _, _, by rw [HR.out.1]; rfl, by rw [HR.out.2]; exact H10.out, HB2.out⟩
    | succ g2 =>
      have hkp : k < pn := by omega
      have hlt : i < n := by have := Hi.out; have := HPc.out; omega
      have hgo : (i : Int) < (n : Int) := by omega
      by_cases h32 : i + 32 ≤ n
      · have hin : ¬ ((n : Int) < (i : Int) + 32) := by omega
        have HB1 : Kp _ := ⟨HBs.out wr HW.out⟩
        obtain ⟨bb, oo, rfl, hbb, hc0⟩ := HB1.out.cell hlt
        have hgd : ∀ j (hj : j < b.length), b[j] = b.getD j 0 := fun j hj => by rw [List.getD_eq_getElem?_getD, List.getElem?_eq_getElem hj]; rfl
        have HGd : Kp _ := ⟨hgd⟩
        rw [hgd, Hi.out] at hc0
        rw [← Hi.out] at hc0
        obtain ⟨q, hq⟩ : ∃ q, q = (b.getD (32 * k) 0).toNat := ⟨_, rfl⟩
        have hc1 : wr.cell? ⟨bb, oo + i, none⟩ = some (.int .u8 (q : Int)) := by rw [hc0, hq, Hi.out]
        have Hq : Kp (q = (b.getD (32 * k) 0).toNat) := ⟨hq⟩
        have hq8 : q < 256 := by rw [hq]; exact UInt8.toNat_lt _
        clear hc0 hgd hq
        by_cases h27 : q ≤ 27
        · have hqi : ¬ ((27 : Int) < (q : Int)) := by omega
          have hqw : IntKind.i64.wrap (q : Int) = (q : Int) := by rw [IntKind.wrap_i64]; omega
          go_wp2_with fail
          clear hc1
          have hi63 : i + 60 ≤ 4294967356 := by omega
          have HMo : Kp (∀ t, t < 27 - q → b.getD (32 * k + 1 + q + t) 0 ≠ 0 → decC b = 4 ∧ decR b = []) := ⟨fun t ht hz => HNo.out k hkp (chk_more (t := t) (by rw [← Hq.out]; exact ht) (by rw [← Hq.out]; exact hz))⟩
          have HAl : Kp ((∀ t, t < 27 - q → b.getD (32 * k + 1 + q + t) 0 = 0) → chk b k = true) := ⟨fun h => chk_all (by rw [HL.out, ← Hi.out]; exact h32) (by rw [← Hq.out]; exact h27) (fun t ht => by rw [← Hq.out] at ht ⊢; exact h t ht)⟩
          have HRd : Kp (rdE (pcOf b k) = ((b.take (i + 1 + q)).drop (i + 1), ((getN ((b.take (i + 32)).drop (i + 28)) : Nat) : Int))) := ⟨by
            have h := rd_ref (b := b) (k := k) (by rw [HL.out, ← Hi.out]; exact h32) (by rw [← Hq.out]; exact h27)
            rw [← Hq.out, ← Hi.out] at h; exact h⟩
          clear hqi hq8
          go_loopg [7] (27 - q) (fun gk v7 wi => ∃ t j : Nat, t + gk = 27 - q ∧ Kp (j = i + 1 + q + t) ∧ v7 = .int .i64 j ∧ wi = wr ∧ Kp (∀ s, s < t → b.getD (32 * k + 1 + q + s) 0 = 0))
          case atStart => exact ⟨0, i + 1 + q, by omega, ⟨rfl⟩, by go_num, rfl, ⟨fun s hs => absurd hs (by omega)⟩⟩
          case round =>
            obtain ⟨t, j, htg, Hj, rfl, hwi, HZ⟩ := hrel
            subst hwi
            cases gk with
            | zero =>
              have hend : ¬ ((j : Int) < (i : Int) + 28) := by have := Hj.out; omega
              have HCk : Kp (chk b k = true) := ⟨HAl.out (fun s hs => HZ.out s (by omega))⟩
              clear HMo HAl HZ
              have HKd : Kp _ := ⟨own2_below HK.out ((Below.refl _ _).drew)⟩
              have HEq : Kp (entsK b (k + 1) = entsK b k ++ [rdE (pcOf b k)]) := ⟨entsK_next b k⟩
              obtain ⟨nm, hnm⟩ : ∃ x, x = (b.take (i + 1 + q)).drop (i + 1) := ⟨_, rfl⟩
              obtain ⟨rn, hrn⟩ : ∃ x, x = (b.take (i + 32)).drop (i + 28) := ⟨_, rfl⟩
              obtain ⟨r, hr⟩ : ∃ x, x = getN rn := ⟨_, rfl⟩
              rw [← hnm, ← hrn, ← hr] at HRd
              rw [HRd.out] at HEq
              have hr32 : r < 4294967296 := by
                have h := getN_lt rn
                have e : rn.length = 4 := by rw [hrn]; simp; have := HL.out; omega
                rw [e] at h; rw [hr]; omega
              have hcv : IntKind.i64.wrap (r : Int) = (r : Int) := by rw [IntKind.wrap_i64]; omega
              have HOkE : Kp (EnOk (nm, (r : Int))) := ⟨by rw [← HRd.out]; exact rdE_ok _⟩
              have HZb : Kp _ := ⟨built_en nm (r : Int)⟩
              have HGt : Kp (∀ W {A' : Option Addr} {d : Nat}, Bs W w.heap.size A' 4 d rn → Calls Try.prog 36 #[.slice A' 4 d] W fun e w' => e = .returned (.int .u64 (r : Int)) ∧ w' = W) := ⟨fun W {A' d} h => by
                refine (refget_any A' 4 d rn W w.heap.size h).mono fun e w' hh => ⟨?_, hh.2.symm⟩
                rw [hh.1, ← hr, Nat.mod_eq_of_lt (by omega)]⟩
              have Hnm : Kp _ := ⟨hnm⟩
              have Hrn : Kp _ := ⟨hrn⟩
              obtain ⟨A6, hA6⟩ : ∃ x, (if c = i + 1 then (some ⟨bb, oo, none⟩ : Option Addr) else (some ⟨bb, oo, none⟩ : Option Addr).map (·.add (i + 1))) = x := ⟨_, rfl⟩
              obtain ⟨A7, hA7⟩ : ∃ x, (if c = i + 28 then (some ⟨bb, oo, none⟩ : Option Addr) else (some ⟨bb, oo, none⟩ : Option Addr).map (·.add (i + 28))) = x := ⟨_, rfl⟩
              have hq6 : i + 1 + q - (i + 1) = q := by omega
              have hq7 : i + 32 - (i + 28) = 4 := by omega
              have hcn : n ≤ c := HB1.out.cap
              have HT6 : Kp (∀ W, Below w.heap.size w W → Bs W w.heap.size A6 q (c - (i + 1)) nm) := ⟨fun W h => by
                have h2 := (HBs.out W h).cut (i := i + 1) (k := i + 1 + q) (by omega) (by omega)
                rw [hA6, hq6, ← Hnm.out] at h2; exact h2⟩
              have HT7 : Kp (∀ W, Below w.heap.size w W → Bs W w.heap.size A7 4 (c - (i + 28)) rn) := ⟨fun W h => by
                have h2 := (HBs.out W h).cut (i := i + 28) (k := i + 32) (by omega) (by omega)
                rw [hA7, hq7, ← Hrn.out] at h2; exact h2⟩
              have hk9 : k ≤ 4294967296 := by have := HPc.out; omega
              clear hnm hrn hr HB1 HRd
              go_upto_region 13 with fail
              have hw0 : IntKind.i64.wrap ((i : Int) + 1) = (i : Int) + 1 := by rw [IntKind.wrap_i64]; omega
              have hw1 : IntKind.i64.wrap ((i : Int) + 1 + (q : Int)) = (i : Int) + 1 + (q : Int) := by rw [IntKind.wrap_i64]; omega
              have hw2 : IntKind.i64.wrap ((i : Int) + 28) = (i : Int) + 28 := by rw [IntKind.wrap_i64]; omega
              have hw3 : IntKind.i64.wrap ((i : Int) + 32) = (i : Int) + 32 := by rw [IntKind.wrap_i64]; omega
              refine wp_region_held_drew (S := fun WW => Below w.heap.size w WW) (by kernel_rfl) (HW.out.drew) (fun hHeld => ?_)
              generalize wr.drew = wS at *
              refine wpAnyH_take (i := 0) (oi := ⟨some 46, _, _, _, _, _⟩) (v := ?_) rfl (by kernel_rfl) (by kernel_rfl) (by kernel_rfl) (fun _ _ _ h => h) (Or.inl ⟨by rfl, by intro w hSw; go_simp; try rfl⟩) (by assumption) ?_
              try simp only [Act.put, List.setIfInBounds_toArray, List.set_cons_zero, List.set_cons_succ]
              refine wpAnyH_take (i := 1) (oi := ⟨some 47, _, _, _, _, _⟩) (v := ?_) rfl (by kernel_rfl) (by kernel_rfl) (by kernel_rfl) (fun _ _ _ h => h) (Or.inl ⟨by rfl, by intro w hSw; go_simp; try rfl⟩) (by assumption) ?_
              try simp only [Act.put, List.setIfInBounds_toArray, List.set_cons_zero, List.set_cons_succ]
              refine wpAnyH_take (i := 2) (oi := ⟨some 48, _, _, _, _, _⟩) (v := ?_) rfl (by kernel_rfl) (by kernel_rfl) (by kernel_rfl) (fun _ _ _ h => h) (Or.inl ⟨by rfl, by intro w hSw; go_simp; try rfl⟩) (by assumption) ?_
              try simp only [Act.put, List.setIfInBounds_toArray, List.set_cons_zero, List.set_cons_succ]
              refine wpAnyH_take (i := 3) (oi := ⟨some 49, _, _, _, _, _⟩) (v := ?_) rfl (by kernel_rfl) (by kernel_rfl) (by kernel_rfl) (fun _ _ _ h => h) (Or.inl ⟨by rfl, by intro w hSw; go_simp; try rfl⟩) (by assumption) ?_
              try simp only [Act.put, List.setIfInBounds_toArray, List.set_cons_zero, List.set_cons_succ]
              refine wpAnyH_take (i := 4) (oi := ⟨some 50, _, _, _, _, _⟩) (v := ?_) rfl (by kernel_rfl) (by kernel_rfl) (by kernel_rfl) (fun _ _ _ h => h) (Or.inl ⟨by rfl, by intro w hSw; go_simp; try rfl⟩) (by assumption) ?_
              try simp only [Act.put, List.setIfInBounds_toArray, List.set_cons_zero, List.set_cons_succ]
              refine wpAnyH_take (i := 5) (oi := ⟨some 51, _, _, _, _, _⟩) (v := ?_) rfl (by kernel_rfl) (by kernel_rfl) (by kernel_rfl) (fun _ _ _ h => h) (Or.inl ⟨by rfl, by intro w hSw; go_simp; try rfl⟩) (by assumption) ?_
              try simp only [Act.put, List.setIfInBounds_toArray, List.set_cons_zero, List.set_cons_succ]
              refine wpAnyH_take (i := 6) (oi := ⟨some 52, _, _, _, _, _⟩) (v := ?_) rfl (by kernel_rfl) (by kernel_rfl) (by kernel_rfl) (fun _ _ _ h => h) (Or.inl ⟨by rfl, by intro w hSw; go_simp; try rfl⟩) (by assumption) ?_
              try simp only [Act.put, List.setIfInBounds_toArray, List.set_cons_zero, List.set_cons_succ]
              refine wpAnyH_take (i := 7) (oi := ⟨some 53, _, _, _, _, _⟩) (v := ?_) rfl (by kernel_rfl) (by kernel_rfl) (by kernel_rfl) (fun _ _ _ h => h) (Or.inl ⟨by rfl, by intro w hSw; go_simp; try rfl⟩) (by assumption) ?_
              try simp only [Act.put, List.setIfInBounds_toArray, List.set_cons_zero, List.set_cons_succ]
              refine wpAnyH_take (i := 8) (oi := ⟨some 54, _, _, _, _, _⟩) (v := _) rfl (by kernel_rfl) (by kernel_rfl) (by kernel_rfl) (fun _ _ _ h => h) (yieldsIf_cut_lh rfl _ _ _ rfl rfl rfl rfl (i + 1) (i + 1 + q) (by omega) (by omega) (by omega) (by omega) hA6 hq6 rfl) (by assumption) ?_
              try simp only [Act.put, List.setIfInBounds_toArray, List.set_cons_zero, List.set_cons_succ]
              refine wpAnyH_take (i := 9) (oi := ⟨some 55, _, _, _, _, _⟩) (v := _) rfl (by kernel_rfl) (by kernel_rfl) (by kernel_rfl) (fun _ _ _ h => h) (yieldsIf_text rfl _ rfl rfl (fun W h => HT6.out W h)) (by assumption) ?_
              try simp only [Act.put, List.setIfInBounds_toArray, List.set_cons_zero, List.set_cons_succ]
              refine wpAnyH_take (i := 10) (oi := ⟨some 56, _, _, _, _, _⟩) (v := ?_) rfl (by kernel_rfl) (by kernel_rfl) (by kernel_rfl) (fun _ _ _ h => h) (Or.inl ⟨by rfl, by intro w hSw; go_simp; try rfl⟩) (by assumption) ?_
              try simp only [Act.put, List.setIfInBounds_toArray, List.set_cons_zero, List.set_cons_succ]
              refine wpAnyH_take (i := 11) (oi := ⟨some 57, _, _, _, _, _⟩) (v := ?_) rfl (by kernel_rfl) (by kernel_rfl) (by kernel_rfl) (fun _ _ _ h => h) (Or.inl ⟨by rfl, by intro w hSw; go_simp; try rfl⟩) (by assumption) ?_
              try simp only [Act.put, List.setIfInBounds_toArray, List.set_cons_zero, List.set_cons_succ]
              refine wpAnyH_take (i := 12) (oi := ⟨some 58, _, _, _, _, _⟩) (v := ?_) rfl (by kernel_rfl) (by kernel_rfl) (by kernel_rfl) (fun _ _ _ h => h) (Or.inl ⟨by rfl, by intro w hSw; go_simp; try rfl⟩) (by assumption) ?_
              try simp only [Act.put, List.setIfInBounds_toArray, List.set_cons_zero, List.set_cons_succ]
              refine wpAnyH_take (i := 13) (oi := ⟨some 59, _, _, _, _, _⟩) (v := ?_) rfl (by kernel_rfl) (by kernel_rfl) (by kernel_rfl) (fun _ _ _ h => h) (Or.inl ⟨by rfl, by intro w hSw; go_simp; try rfl⟩) (by assumption) ?_
              try simp only [Act.put, List.setIfInBounds_toArray, List.set_cons_zero, List.set_cons_succ]
              refine wpAnyH_take (i := 14) (oi := ⟨some 60, _, _, _, _, _⟩) (v := ?_) rfl (by kernel_rfl) (by kernel_rfl) (by kernel_rfl) (fun _ _ _ h => h) (Or.inl ⟨by rfl, by intro w hSw; go_simp; try rfl⟩) (by assumption) ?_
              try simp only [Act.put, List.setIfInBounds_toArray, List.set_cons_zero, List.set_cons_succ]
              refine wpAnyH_take (i := 15) (oi := ⟨some 61, _, _, _, _, _⟩) (v := _) rfl (by kernel_rfl) (by kernel_rfl) (by kernel_rfl) (fun _ _ _ h => h) (yieldsIf_cut_lh rfl _ _ _ rfl rfl rfl rfl (i + 28) (i + 32) (by omega) (by omega) (by omega) (by omega) hA7 hq7 rfl) (by assumption) ?_
              try simp only [Act.put, List.setIfInBounds_toArray, List.set_cons_zero, List.set_cons_succ]
              refine wpAnyH_ready (rs := [16]) (by kernel_rfl) (by simp) ?_
              refine AllReadyH.cons (o := ⟨some 62, _, _, _, _, _⟩) rfl (fun K hK => ?_) AllReadyH.nil
              go_simp
              refine (HGt.out wS (HT7.out wS hHeld)).mono ?_
              rintro e w101 ⟨rfl, hw2⟩
              have hb' : Below wS.heap.size wS w101 := by rw [hw2]; exact Below.refl _ _
              replace HKd : Kp _ := ⟨own2_below HKd.out hb'⟩
              refine hK.out _ _ (hHeld.trans (hb'.mono hHeld.size)) (fun hHeld2 => ?_)
              clear hb' hw2
              clear hK K hHeld
              have hHeld := hHeld2
              clear hHeld2
              try simp only [Act.put, List.setIfInBounds_toArray, List.set_cons_zero, List.set_cons_succ]
              refine wpAnyH_take (i := 17) (oi := ⟨some 63, _, _, _, _, _⟩) (v := ?_) rfl (by kernel_rfl) (by kernel_rfl) (by kernel_rfl) (fun _ _ _ h => h) (Or.inl ⟨by rfl, by intro w hSw; go_simp; try rfl⟩) (by assumption) ?_
              try simp only [Act.put, List.setIfInBounds_toArray, List.set_cons_zero, List.set_cons_succ]
              refine wpAnyH_take (i := 18) (oi := ⟨some 64, _, _, _, _, _⟩) (v := _) rfl (by kernel_rfl) (by kernel_rfl) (by kernel_rfl) (fun _ _ _ h => h) (yieldsIf_buildE rfl 0 1 _ _ rfl rfl rfl HZb.out) (by assumption) ?_
              try simp only [Act.put, List.setIfInBounds_toArray, List.set_cons_zero, List.set_cons_succ]
              refine wpAnyH_ready (rs := [19]) (by kernel_rfl) (by simp) ?_
              refine AllReadyH.cons (o := ⟨some 65, _, _, _, _, _⟩) rfl (fun K hK => ?_) AllReadyH.nil
              refine step_buildEn rfl _ rfl (nm, (r : Int)) rfl ?_
              have hb' : Below w101.heap.size w101 (w101.alloc (.cells (enOne (nm, (r : Int))).toArray 39)) := (Below.refl _ _).alloc (Nat.le_refl _) _
              replace HKd : Kp _ := ⟨own2_below HKd.out hb'⟩
              have HNw : Kp _ := ⟨one_news w101 39 (nm, (r : Int))⟩
              obtain ⟨w102, hN⟩ : ∃ x, x = w101.alloc (.cells (enOne (nm, (r : Int))).toArray 39) := ⟨_, rfl⟩
              rw [← hN] at hb' HKd HNw ⊢
              obtain ⟨gz, hgz⟩ : ∃ g, g = w101.heap.size := ⟨_, rfl⟩
              have HNy : Kp (∀ j u, (enCells [(nm, (r : Int))])[j]? = some u → w102.cell? ((⟨gz, 0, none⟩ : Addr).add j) = some u) := ⟨HNw.out _ (by rw [hgz])⟩
              refine hK.out _ _ (hHeld.trans (hb'.mono hHeld.size)) (fun hHeld2 => ?_)
              rw [← hgz]
              clear hb' hN hgz HNw
              clear hK K hHeld
              have hHeld := hHeld2
              clear hHeld2
              try simp only [Act.put, List.setIfInBounds_toArray, List.set_cons_zero, List.set_cons_succ]
              refine wpAnyH_ready (rs := [20]) (by kernel_rfl) (by simp) ?_
              refine AllReadyH.cons (o := ⟨some 66, _, _, _, _, _⟩) rfl (fun K hK => ?_) AllReadyH.nil
              refine step_appE rfl _ _ rfl w.heap.size _ k (entsK b k) rfl HKd.out ⟨gz, 0, none⟩ 1 1 [(nm, (r : Int))] rfl rfl HNy.out (by omega) hHeld.size ?_
              intro v' w103 hown' hb'
              have HO5 : Kp (w103.ownsRow w.heap.size 39 2 v' (k + 1) (enCells (entsK b (k + 1)))) := ⟨by rw [HEq.out]; exact hown'⟩
              refine hK.out _ _ (hHeld.trans hb') (fun hHeld2 => ?_)
              clear hb' hown' HKd HNy
              clear hK K hHeld
              have hHeld := hHeld2
              clear hHeld2
              try simp only [Act.put, List.setIfInBounds_toArray, List.set_cons_zero, List.set_cons_succ]
              refine wpAnyH_take (i := 21) (oi := ⟨some 4, _, _, _, _, _⟩) (v := ?_) rfl (by kernel_rfl) (by kernel_rfl) (by kernel_rfl) (fun _ _ _ h => h) (Or.inl ⟨by rfl, by intro w hSw; go_simp; try rfl⟩) (by assumption) ?_
              try simp only [Act.put, List.setIfInBounds_toArray, List.set_cons_zero, List.set_cons_succ]
              refine wpAnyH_done (by kernel_rfl) ?_ _
              go_wp2
              go_roundg g2
              case measure => omega
              case rel => exact ⟨k + 1, i + 32, by omega, ⟨by have := Hi.out; omega⟩, by go_num, HO5, ⟨hHeld⟩, ⟨fun j hj => by
                by_cases hj1 : j < k
                · exact HC.out j hj1
                · obtain rfl : j = k := by omega
                  exact HCk.out⟩⟩
            | succ g3 =>
              have hjlt : (j : Int) < (i : Int) + 28 := by have := Hj.out; omega
              have hjn : j < n := by have := Hj.out; omega
              obtain ⟨b', o', e', _, hc0⟩ := HB1.out.cell hjn
              cases e'
              rw [HGd.out] at hc0
              obtain ⟨y, hy⟩ : ∃ y, y = (b.getD j 0).toNat := ⟨_, rfl⟩
              rw [← hy] at hc0
              have Hy : Kp (y = (b.getD (32 * k + 1 + q + t) 0).toNat) := ⟨by rw [hy, Hj.out, Hi.out]⟩
              clear hy
              by_cases hy0 : y = 0
              · subst hy0
                go_wp2
                go_roundg g3
                case measure => omega
                case rel => exact ⟨t + 1, j + 1, by omega, ⟨by have := Hj.out; omega⟩, by go_num, rfl, ⟨fun s hs => by
                  by_cases hs1 : s < t
                  · exact HZ.out s hs1
                  · obtain rfl : s = t := by omega
                    exact UInt8.toNat_inj.1 Hy.out.symm⟩⟩
              · have hyb : (((y : Nat) : Int) == 0) = false := by simp; omega
                have HR : Kp _ := ⟨HMo.out t (by omega) (fun e => hy0 (by rw [Hy.out, e]; rfl))⟩
                go_wp2
                go_ret2
                exact ⟨none, 0, 0, by rw [HR.out.1]; rfl, by rw [HR.out.2]; exact Ens.zero _ _, HW.out⟩
        · have hqi : (27 : Int) < (q : Int) := by omega
          have HR : Kp _ := ⟨HNo.out k hkp (chk_wide (by rw [← Hq.out]; omega))⟩
          go_wp2
          go_ret2
          exact ⟨none, 0, 0, by rw [HR.out.1]; rfl, by rw [HR.out.2]; exact Ens.zero _ _, HW.out⟩
      · have hin : (n : Int) < (i : Int) + 32 := by omega
        have HR : Kp _ := ⟨HNo.out k hkp (chk_short (by rw [HL.out, ← Hi.out]; omega))⟩
        go_wp2
        go_ret2
        exact ⟨none, 0, 0, by rw [HR.out.1]; rfl, by rw [HR.out.2]; exact Ens.zero _ _, HW.out⟩
end
end Go.Proofs.Ytaedlaeflliibaa
