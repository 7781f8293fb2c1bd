/- The law NodeBack. -/
import Derived.Test.YtmiobgongddaiaaLw13b
namespace Go.Proofs.Ytmiobgongddaiaa
open Go.RowKit Go.Shelf

theorem pointers_of_idx (l : List Int) (h : idxB l = true) : ptrE (idxN l) = 0 ∧ ptrA (idxN l) = l ++ List.replicate (64 - l.length) 0 := ⟨by unfold ptrE; rw [ptrK_idx l h]; rfl, ptrA_idx l h⟩
theorem idx_len {l : List Int} (h : idxB l = true) : l.length ≤ 64 := by
  unfold idxB at h
  rw [Bool.and_eq_true, decide_eq_true_eq] at h
  exact h.1
theorem ptr_none : ptrE [] = 4 ∧ ptrA [] = [] := by decide
theorem dec_none : decA [] = zero10 ∧ decE [] = 4 := by decide
section
set_option maxRecDepth 100000
set_option maxHeartbeats 8000000
theorem law_nodeBack (zs : List Int) (A : Option Addr) (n c : Nat) (l : List Int) (A' : Option Addr) (n' c' : Nat) (b : List UInt8) (w : World) (hl : zs.length = 10) (_hz : ∀ z ∈ zs, (Lit.int .i64 z).wf = true) (ha' : Zs w w.heap.size .i64 A n c l ∧ c * 8 ≤ 140737488351232) (hb' : Bs w w.heap.size A' n' c' b ∧ c' ≤ 140737488351232) :
    Calls Try.prog 6 #[.agg (cellsZ zs).toArray, .slice A n c, .slice A' n' c'] w fun e w' => e = .returned (.bool true) ∧ Below w.heap.size w w' := by
  have HA0 : Kp _ := ⟨ha'.1⟩
  have HBb0 : Kp _ := ⟨hb'.1⟩
  have HLen : Kp (l.length = n) := ⟨ha'.1.len⟩
  have hnA := ha'.1.le
  have hnB := hb'.1.le
  have HL : Kp (zs.length = 10) := ⟨hl⟩
  have HLc : Kp ((cellsZ zs).length = 10) := ⟨by rw [cellsZ_length]; exact hl⟩
  have HRun : Kp _ := ⟨fun W => run_eqN W zs zs hl hl⟩
  rw [show (zs == zs) = true from by simp] at HRun
  have HZero : Kp _ := ⟨fun W => run_eqN W zero10 zero10 rfl rfl⟩
  rw [show (zero10 == zero10) = true from by decide] at HZero
  have HbSame : Kp ((b == b) = true) := ⟨by simp⟩
  obtain ⟨ds, hds⟩ : ∃ ds, ds = decL wideN b := ⟨_, rfl⟩
  have HDs : Kp (ds = decL wideN b) := ⟨hds⟩
  have HLs : Kp (ds.length = 10) := ⟨by rw [hds, decL_length]; rfl⟩
  have HLd : Kp ((cellsZ ds).length = 10) := ⟨by rw [cellsZ_length]; exact HLs.out⟩
  clear hds ha' hb' hl
  obtain ⟨X, hX⟩ : ∃ X, X = w.heap.size := ⟨_, rfl⟩
  have hb1 : Below w.heap.size w (w.alloc (.cells (cellsZ zs).toArray 24)) := (Below.refl _ _).alloc (Nat.le_refl _) _
  have hk1 : Blk (w.alloc (.cells (cellsZ zs).toArray 24)) w.heap.size 24 (cellsZ zs) := Blk.new w _ _
  rw [← hX] at hk1
  have HX : Kp _ := ⟨hk1⟩
  have HBel : Kp _ := ⟨hb1⟩
  have HA : Kp _ := ⟨HA0.out.next hb1 (Nat.le_refl _)⟩
  have HBb : Kp _ := ⟨HBb0.out.next hb1 (Nat.le_refl _)⟩
  clear hb1 hk1 HA0 HBb0
  by_cases hbig : 64 < n ∨ (n ≤ 64 ∧ 400 < n')
  · rcases hbig with h1 | ⟨h1, h2⟩
    · have i1 : (64 : Int) < (n : Int) := by omega
      go_enter Try.func6, Try.ntmps6
      go_upto_region 1 with fail
      rw [← hX]
      generalize w.alloc (.cells (cellsZ zs).toArray 24) = w1 at *
      clear hX
      go_wp2_with fail
      refine (known13_any _).mono ?_
      rintro e x1 ⟨rfl, hb⟩
      have HBel9 : Kp _ := ⟨HBel.out.trans (hb.mono HBel.out.size)⟩
      clear hb
      go_wp2
      go_ret
      exact ⟨rfl, HBel9.out⟩
    · have i1 : ¬ ((64 : Int) < (n : Int)) := by omega
      have i2 : (400 : Int) < (n' : Int) := by omega
      go_enter Try.func6, Try.ntmps6
      go_upto_region 1 with fail
      rw [← hX]
      generalize w.alloc (.cells (cellsZ zs).toArray 24) = w1 at *
      clear hX
      go_wp2_with fail
      refine (known13_any _).mono ?_
      rintro e x1 ⟨rfl, hb⟩
      have HBel9 : Kp _ := ⟨HBel.out.trans (hb.mono HBel.out.size)⟩
      clear hb
      go_wp2
      go_ret
      exact ⟨rfl, HBel9.out⟩
  · have hn64 : n ≤ 64 := by omega
    have hn400 : n' ≤ 400 := by omega
    have i1 : ¬ ((64 : Int) < (n : Int)) := by omega
    have i2 : ¬ ((400 : Int) < (n' : Int)) := by omega
    clear hbig
    go_enter Try.func6, Try.ntmps6
    go_upto_region 3 with fail
    rw [← hX]
    generalize w.alloc (.cells (cellsZ zs).toArray 24) = w1 at *
    clear hX
    cases hok : okN zs with
    | true =>
      have hcall := encode_any zs HL.out w1
      unfold encE encA at hcall
      rw [hok] at hcall
      have hcr := fun W => right_any zs HL.out W
      rw [hok] at hcr
      have HCr : Kp _ := ⟨hcr⟩
      rw [if_pos rfl, if_pos rfl] at hcall
      have HDe : Kp (decA (encN zs) = zs ∧ decE (encN zs) = 0) := ⟨decA_enc zs HL.out hok, by unfold decE; rw [decB_enc zs HL.out hok]; rfl⟩
      have HLe : Kp ((encN zs).length = 64) := ⟨encN_length zs HL.out⟩
      have HCl : Kp _ := ⟨hcall⟩
      clear hcall hok hcr
      go_wp2_with (refine wpList_loadAll rwNd rfl _ rfl rfl HX.out HLc.out ?_)
      refine HCl.out.mono ?_
      rintro e x2 ⟨A5, n5, c5, rfl, hbs5, _, hb⟩
      have HB5 : Kp _ := ⟨hbs5⟩
      obtain rfl : n5 = 64 := by rw [← hbs5.len]; exact HLe.out
      clear hbs5 HCl
      replace HA : Kp _ := ⟨HA.out.next hb (Nat.le_refl _)⟩
      replace HBb : Kp _ := ⟨HBb.out.next hb (Nat.le_refl _)⟩
      replace HX : Kp _ := ⟨HX.out.below hb HX.out.lt⟩
      replace HBel : Kp _ := ⟨HBel.out.trans (hb.mono HBel.out.size)⟩
      clear hb
      have hcall := decode_any A5 _ c5 _ x2 HB5.out
      rw [HDe.out.1, HDe.out.2] at hcall
      have HCl : Kp _ := ⟨hcall⟩
      clear hcall HB5
      go_wp2_with fail
      refine (HCl.out).mono ?_
      rintro e x3 ⟨rfl, hb⟩
      replace HA : Kp _ := ⟨HA.out.next hb (Nat.le_refl _)⟩
      replace HBb : Kp _ := ⟨HBb.out.next hb (Nat.le_refl _)⟩
      replace HX : Kp _ := ⟨HX.out.below hb HX.out.lt⟩
      replace HBel : Kp _ := ⟨HBel.out.trans (hb.mono HBel.out.size)⟩
      clear hb
      clear HCl
      go_wp2_with (refine wpList_alloc tyNd rfl rfl ?_)
      intro x4 hk hbv _
      obtain ⟨Y, hV⟩ : ∃ V, V = x3.heap.size := ⟨_, rfl⟩
      rw [← hV] at hk ⊢
      have HY0 : Kp _ := ⟨hk⟩
      have HBv : Kp _ := ⟨hbv⟩
      have HVe : Kp (Y = x3.heap.size) := ⟨hV⟩
      clear hk hbv hV
      go_wp2_with (refine wpList_storeAll rwNd rfl _ _ rfl rfl HY0.out (n := 10) rfl (vs := cellsZ zs) HLc.out (cellsZ_one _) rfl ?_)
      intro x5 hk ho
      have HY : Kp _ := ⟨hk⟩
      have hb := HBv.out.trans (ho.below (by have := HVe.out; omega : x3.heap.size ≤ Y))
      clear hk ho HY0 HBv HVe
      replace HA : Kp _ := ⟨HA.out.next hb (Nat.le_refl _)⟩
      replace HBb : Kp _ := ⟨HBb.out.next hb (Nat.le_refl _)⟩
      replace HX : Kp _ := ⟨HX.out.below hb HX.out.lt⟩
      replace HBel : Kp _ := ⟨HBel.out.trans (hb.mono HBel.out.size)⟩
      clear hb
      have HCl : Kp _ := ⟨HCr.out x5⟩
      go_wp2_with (first | refine wpList_loadAll_g rwNd rfl (.tmp 3) rfl rfl HX.out HLc.out ?_ | refine wpList_loadAll_g rwNd rfl (.tmp 9) rfl rfl HY.out HLc.out ?_ | refine wpList_neq_g eqG rfl _ _ rfl rfl rfl (HRun.out _) ?_)
      refine HCl.out.mono ?_
      rintro e x6 ⟨rfl, hb⟩
      clear HCl HCr HY
      replace HA : Kp _ := ⟨HA.out.next hb (Nat.le_refl _)⟩
      replace HBb : Kp _ := ⟨HBb.out.next hb (Nat.le_refl _)⟩
      replace HBel : Kp _ := ⟨HBel.out.trans (hb.mono HBel.out.size)⟩
      clear hb
      clear HX
      cases hidx : idxB l with
      | true =>
        have hci := index_any A n c l x6 HA.out
        unfold idxE idxA at hci
        rw [hidx, if_pos rfl, if_pos rfl] at hci
        have HCl : Kp _ := ⟨hci⟩
        clear hci
        have HCl2 : Kp _ := ⟨pointers_of_idx l hidx⟩
        have HLl : Kp (l.length ≤ 64) := ⟨idx_len hidx⟩
        clear hidx
        go_wp2_with fail
        refine HCl.out.mono ?_
        rintro e x7 ⟨A6, n6, c6, rfl, hbs6, _, hb⟩
        have HB6 : Kp _ := ⟨hbs6⟩
        clear hbs6 HCl
        replace HA : Kp _ := ⟨HA.out.next hb (Nat.le_refl _)⟩
        replace HBb : Kp _ := ⟨HBb.out.next hb (Nat.le_refl _)⟩
        replace HBel : Kp _ := ⟨HBel.out.trans (hb.mono HBel.out.size)⟩
        clear hb
        have hcall := pointers_any A6 n6 c6 _ x7 HB6.out
        rw [HCl2.out.1, HCl2.out.2] at hcall
        have HCl : Kp _ := ⟨hcall⟩
        clear hcall
        go_wp2_with fail
        refine HCl.out.mono ?_
        rintro e x8 ⟨A7, n7, c7, rfl, hz7, hb⟩
        have HZ7 : Kp _ := ⟨hz7⟩
        clear HCl HB6
        obtain rfl : n7 = 64 := by rw [← hz7.len]; simp; have := HLl.out; omega
        clear hz7
        replace HA : Kp _ := ⟨HA.out.next hb (Nat.le_refl _)⟩
        replace HBb : Kp _ := ⟨HBb.out.next hb (Nat.le_refl _)⟩
        replace HBel : Kp _ := ⟨HBel.out.trans (hb.mono HBel.out.size)⟩
        clear hb
        have hn64' : n ≤ 64 := hn64
        have HTk : Kp ((((l ++ List.replicate (64 - l.length) 0).take n) == l) = true) := ⟨by rw [show n = l.length from HLen.out.symm, List.take_append_of_le_length (Nat.le_refl _), List.take_of_length_le (Nat.le_refl _)]; simp⟩
        go_wp2_with (refine wpList_cutZ_g elI rfl _ _ rfl rfl HZ7.out _ _ n rfl rfl hn64' ?_)
        intro A8 hz8
        have hcall := sameints_any A8 A n c7 n c _ l x8 _ _ hz8 HA.out
        rw [HTk.out] at hcall
        have HCl : Kp _ := ⟨hcall⟩
        clear hz8 hcall
        go_wp2_with fail
        refine HCl.out.mono ?_
        rintro e x9 ⟨rfl, hb⟩
        clear HCl HZ7 HTk
        replace HA : Kp _ := ⟨HA.out.next hb (Nat.le_refl _)⟩
        replace HBb : Kp _ := ⟨HBb.out.next hb (Nat.le_refl _)⟩
        replace HBel : Kp _ := ⟨HBel.out.trans (hb.mono HBel.out.size)⟩
        clear hb
        cases hdec : decB b with
        | true =>
          have HDa : Kp (decA b = ds ∧ decE b = 0) := ⟨by unfold decA decE; rw [hdec, ← HDs.out]; exact ⟨rfl, rfl⟩⟩
          have hd : okN ds = true ∧ encN ds = b := by
            have h := hdec
            unfold decB at h
            rw [← HDs.out, Bool.and_eq_true, Bool.and_eq_true, beq_iff_eq] at h
            exact ⟨h.2.1, h.2.2⟩
          have HEd : Kp (∀ W, Calls Try.prog 12 #[.agg (cellsZ ds).toArray] W fun e w' => ∃ A n c, e = .returned (.tuple #[.slice A n c, .int .i64 0]) ∧ Bs w' w'.heap.size A n c b ∧ n ≤ 64 ∧ Below W.heap.size W w') := ⟨fun W => by
            have h := encode_any ds HLs.out W
            unfold encE encA at h
            rw [hd.1, if_pos rfl, if_pos rfl, hd.2] at h
            exact h⟩
          have HRd : Kp (∀ W, Calls Try.prog 17 #[.agg (cellsZ ds).toArray] W fun e w' => e = .returned (.bool true) ∧ Below W.heap.size W w') := ⟨fun W => by
            have h := right_any ds HLs.out W
            rwa [hd.1] at h⟩
          clear hd hdec
          have HCl : Kp _ := ⟨decode_any A' n' c' b x9 HBb.out⟩
          rw [HDa.out.1, HDa.out.2] at HCl
          go_wp2_with fail
          refine (HCl.out).mono ?_
          rintro e x10 ⟨rfl, hb⟩
          replace HBb : Kp _ := ⟨HBb.out.next hb (Nat.le_refl _)⟩
          replace HBel : Kp _ := ⟨HBel.out.trans (hb.mono HBel.out.size)⟩
          clear hb
          clear HCl
          go_wp2_with (refine wpList_alloc tyNd rfl rfl ?_)
          intro x11 hk hbv _
          obtain ⟨Z, hV⟩ : ∃ V, V = x10.heap.size := ⟨_, rfl⟩
          rw [← hV] at hk ⊢
          have HZ0 : Kp _ := ⟨hk⟩
          have HBv : Kp _ := ⟨hbv⟩
          have HVe : Kp (Z = x10.heap.size) := ⟨hV⟩
          clear hk hbv hV
          go_wp2_with (refine wpList_storeAll rwNd rfl _ _ rfl rfl HZ0.out (n := 10) rfl (vs := cellsZ ds) HLd.out (cellsZ_one _) rfl ?_)
          intro x12 hk ho
          have HZ : Kp _ := ⟨hk⟩
          have hb := HBv.out.trans (ho.below (by have := HVe.out; omega : x10.heap.size ≤ Z))
          clear hk ho HZ0 HBv HVe
          replace HBb : Kp _ := ⟨HBb.out.next hb (Nat.le_refl _)⟩
          replace HBel : Kp _ := ⟨HBel.out.trans (hb.mono HBel.out.size)⟩
          clear hb
          have HCl : Kp _ := ⟨HEd.out x12⟩
          go_wp2_with (refine wpList_loadAll rwNd rfl _ rfl rfl HZ.out HLd.out ?_)
          refine HCl.out.mono ?_
          rintro e x13 ⟨A5, n5, c5, rfl, hbs5, _, hb⟩
          have HB5 : Kp _ := ⟨hbs5⟩
          clear hbs5 HCl
          replace HBb : Kp _ := ⟨HBb.out.next hb (Nat.le_refl _)⟩
          replace HZ : Kp _ := ⟨HZ.out.below hb HZ.out.lt⟩
          replace HBel : Kp _ := ⟨HBel.out.trans (hb.mono HBel.out.size)⟩
          clear hb
          have HCl : Kp _ := ⟨HRd.out x13⟩
          go_wp2_with (refine wpList_loadAll_g rwNd rfl _ rfl rfl HZ.out HLd.out ?_)
          refine HCl.out.mono ?_
          rintro e x14 ⟨rfl, hb⟩
          clear HCl
          replace HBb : Kp _ := ⟨HBb.out.next hb (Nat.le_refl _)⟩
          replace HB5 : Kp _ := ⟨HB5.out.next hb (Nat.le_refl _)⟩
          replace HZ : Kp _ := ⟨HZ.out.below hb HZ.out.lt⟩
          replace HBel : Kp _ := ⟨HBel.out.trans (hb.mono HBel.out.size)⟩
          clear hb
          have hsm := same_any A5 A' n5 c5 n' c' b b x14 _ _ HB5.out HBb.out
          rw [HbSame.out] at hsm
          have HCl : Kp _ := ⟨hsm⟩
          clear hsm
          go_wp2_with fail
          refine HCl.out.mono ?_
          rintro e x99 ⟨rfl, rfl⟩
          clear HCl
          go_wp2_with fail
          refine (known13_any _).mono ?_
          rintro e x15 ⟨rfl, hb⟩
          have HBel9 : Kp _ := ⟨HBel.out.trans (hb.mono HBel.out.size)⟩
          clear hb
          go_wp2
          go_ret
          exact ⟨rfl, HBel9.out⟩
        | false =>
          have HDa : Kp (decA b = zero10 ∧ decE b = 4) := ⟨by unfold decA decE; rw [hdec]; exact ⟨rfl, rfl⟩⟩
          clear hdec
          have HCl : Kp _ := ⟨decode_any A' n' c' b x9 HBb.out⟩
          rw [HDa.out.1, HDa.out.2] at HCl
          go_wp2_with fail
          refine (HCl.out).mono ?_
          rintro e x16 ⟨rfl, hb⟩
          replace HBb : Kp _ := ⟨HBb.out.next hb (Nat.le_refl _)⟩
          replace HBel : Kp _ := ⟨HBel.out.trans (hb.mono HBel.out.size)⟩
          clear hb
          clear HCl
          go_wp2_with (refine wpList_alloc tyNd rfl rfl ?_)
          intro x17 hk hbv _
          obtain ⟨Z, hV⟩ : ∃ V, V = x16.heap.size := ⟨_, rfl⟩
          rw [← hV] at hk ⊢
          have HZ0 : Kp _ := ⟨hk⟩
          have HBv : Kp _ := ⟨hbv⟩
          have HVe : Kp (Z = x16.heap.size) := ⟨hV⟩
          clear hk hbv hV
          go_wp2_with (refine wpList_storeAll rwNd rfl _ _ rfl rfl HZ0.out (n := 10) rfl (vs := cellsZ zero10) rfl (cellsZ_one _) rfl ?_)
          intro x18 hk ho
          have HZ : Kp _ := ⟨hk⟩
          have hb := HBv.out.trans (ho.below (by have := HVe.out; omega : x16.heap.size ≤ Z))
          clear hk ho HZ0 HBv HVe
          replace HBb : Kp _ := ⟨HBb.out.next hb (Nat.le_refl _)⟩
          replace HBel : Kp _ := ⟨HBel.out.trans (hb.mono HBel.out.size)⟩
          clear hb
          go_wp2_with (first | refine wpList_loadAll rwNd rfl _ rfl rfl HZ.out rfl ?_ | refine wpList_build0 rfl rfl built_zero ?_ | refine wpList_eql_g eqG rfl _ _ rfl rfl rfl (HZero.out _) ?_)
          refine (known13_any _).mono ?_
          rintro e x19 ⟨rfl, hb⟩
          have HBel9 : Kp _ := ⟨HBel.out.trans (hb.mono HBel.out.size)⟩
          clear hb
          go_wp2
          go_ret
          exact ⟨rfl, HBel9.out⟩
      | false =>
        have hci := index_any A n c l x6 HA.out
        unfold idxE idxA at hci
        rw [hidx, if_neg (by decide), if_neg (by decide)] at hci
        have HCl : Kp _ := ⟨hci⟩
        clear hci
        clear hidx
        go_wp2_with fail
        refine HCl.out.mono ?_
        rintro e x20 ⟨A6, n6, c6, rfl, hbs6, _, hb⟩
        have HB6 : Kp _ := ⟨hbs6⟩
        clear hbs6 HCl
        replace HA : Kp _ := ⟨HA.out.next hb (Nat.le_refl _)⟩
        replace HBb : Kp _ := ⟨HBb.out.next hb (Nat.le_refl _)⟩
        replace HBel : Kp _ := ⟨HBel.out.trans (hb.mono HBel.out.size)⟩
        clear hb
        have hcall := pointers_any A6 n6 c6 _ x20 HB6.out
        rw [ptr_none.1, ptr_none.2] at hcall
        have HCl : Kp _ := ⟨hcall⟩
        clear hcall
        go_wp2_with fail
        refine HCl.out.mono ?_
        rintro e x21 ⟨A7, n7, c7, rfl, hz7, hb⟩
        have HZ7 : Kp _ := ⟨hz7⟩
        clear HCl HB6
        clear hz7
        replace HA : Kp _ := ⟨HA.out.next hb (Nat.le_refl _)⟩
        replace HBb : Kp _ := ⟨HBb.out.next hb (Nat.le_refl _)⟩
        replace HBel : Kp _ := ⟨HBel.out.trans (hb.mono HBel.out.size)⟩
        clear hb
        clear HZ7
        cases hdec : decB b with
        | true =>
          have HDa : Kp (decA b = ds ∧ decE b = 0) := ⟨by unfold decA decE; rw [hdec, ← HDs.out]; exact ⟨rfl, rfl⟩⟩
          have hd : okN ds = true ∧ encN ds = b := by
            have h := hdec
            unfold decB at h
            rw [← HDs.out, Bool.and_eq_true, Bool.and_eq_true, beq_iff_eq] at h
            exact ⟨h.2.1, h.2.2⟩
          have HEd : Kp (∀ W, Calls Try.prog 12 #[.agg (cellsZ ds).toArray] W fun e w' => ∃ A n c, e = .returned (.tuple #[.slice A n c, .int .i64 0]) ∧ Bs w' w'.heap.size A n c b ∧ n ≤ 64 ∧ Below W.heap.size W w') := ⟨fun W => by
            have h := encode_any ds HLs.out W
            unfold encE encA at h
            rw [hd.1, if_pos rfl, if_pos rfl, hd.2] at h
            exact h⟩
          have HRd : Kp (∀ W, Calls Try.prog 17 #[.agg (cellsZ ds).toArray] W fun e w' => e = .returned (.bool true) ∧ Below W.heap.size W w') := ⟨fun W => by
            have h := right_any ds HLs.out W
            rwa [hd.1] at h⟩
          clear hd hdec
          have HCl : Kp _ := ⟨decode_any A' n' c' b x21 HBb.out⟩
          rw [HDa.out.1, HDa.out.2] at HCl
          go_wp2_with fail
          refine (HCl.out).mono ?_
          rintro e x22 ⟨rfl, hb⟩
          replace HBb : Kp _ := ⟨HBb.out.next hb (Nat.le_refl _)⟩
          replace HBel : Kp _ := ⟨HBel.out.trans (hb.mono HBel.out.size)⟩
          clear hb
          clear HCl
          go_wp2_with (refine wpList_alloc tyNd rfl rfl ?_)
          intro x23 hk hbv _
          obtain ⟨Z, hV⟩ : ∃ V, V = x22.heap.size := ⟨_, rfl⟩
          rw [← hV] at hk ⊢
          have HZ0 : Kp _ := ⟨hk⟩
          have HBv : Kp _ := ⟨hbv⟩
          have HVe : Kp (Z = x22.heap.size) := ⟨hV⟩
          clear hk hbv hV
          go_wp2_with (refine wpList_storeAll rwNd rfl _ _ rfl rfl HZ0.out (n := 10) rfl (vs := cellsZ ds) HLd.out (cellsZ_one _) rfl ?_)
          intro x24 hk ho
          have HZ : Kp _ := ⟨hk⟩
          have hb := HBv.out.trans (ho.below (by have := HVe.out; omega : x22.heap.size ≤ Z))
          clear hk ho HZ0 HBv HVe
          replace HBb : Kp _ := ⟨HBb.out.next hb (Nat.le_refl _)⟩
          replace HBel : Kp _ := ⟨HBel.out.trans (hb.mono HBel.out.size)⟩
          clear hb
          have HCl : Kp _ := ⟨HEd.out x24⟩
          go_wp2_with (refine wpList_loadAll rwNd rfl _ rfl rfl HZ.out HLd.out ?_)
          refine HCl.out.mono ?_
          rintro e x25 ⟨A5, n5, c5, rfl, hbs5, _, hb⟩
          have HB5 : Kp _ := ⟨hbs5⟩
          clear hbs5 HCl
          replace HBb : Kp _ := ⟨HBb.out.next hb (Nat.le_refl _)⟩
          replace HZ : Kp _ := ⟨HZ.out.below hb HZ.out.lt⟩
          replace HBel : Kp _ := ⟨HBel.out.trans (hb.mono HBel.out.size)⟩
          clear hb
          have HCl : Kp _ := ⟨HRd.out x25⟩
          go_wp2_with (refine wpList_loadAll_g rwNd rfl _ rfl rfl HZ.out HLd.out ?_)
          refine HCl.out.mono ?_
          rintro e x26 ⟨rfl, hb⟩
          clear HCl
          replace HBb : Kp _ := ⟨HBb.out.next hb (Nat.le_refl _)⟩
          replace HB5 : Kp _ := ⟨HB5.out.next hb (Nat.le_refl _)⟩
          replace HZ : Kp _ := ⟨HZ.out.below hb HZ.out.lt⟩
          replace HBel : Kp _ := ⟨HBel.out.trans (hb.mono HBel.out.size)⟩
          clear hb
          have hsm := same_any A5 A' n5 c5 n' c' b b x26 _ _ HB5.out HBb.out
          rw [HbSame.out] at hsm
          have HCl : Kp _ := ⟨hsm⟩
          clear hsm
          go_wp2_with fail
          refine HCl.out.mono ?_
          rintro e x99 ⟨rfl, rfl⟩
          clear HCl
          go_wp2_with fail
          refine (known13_any _).mono ?_
          rintro e x27 ⟨rfl, hb⟩
          have HBel9 : Kp _ := ⟨HBel.out.trans (hb.mono HBel.out.size)⟩
          clear hb
          go_wp2
          go_ret
          exact ⟨rfl, HBel9.out⟩
        | false =>
          have HDa : Kp (decA b = zero10 ∧ decE b = 4) := ⟨by unfold decA decE; rw [hdec]; exact ⟨rfl, rfl⟩⟩
          clear hdec
          have HCl : Kp _ := ⟨decode_any A' n' c' b x21 HBb.out⟩
          rw [HDa.out.1, HDa.out.2] at HCl
          go_wp2_with fail
          refine (HCl.out).mono ?_
          rintro e x28 ⟨rfl, hb⟩
          replace HBb : Kp _ := ⟨HBb.out.next hb (Nat.le_refl _)⟩
          replace HBel : Kp _ := ⟨HBel.out.trans (hb.mono HBel.out.size)⟩
          clear hb
          clear HCl
          go_wp2_with (refine wpList_alloc tyNd rfl rfl ?_)
          intro x29 hk hbv _
          obtain ⟨Z, hV⟩ : ∃ V, V = x28.heap.size := ⟨_, rfl⟩
          rw [← hV] at hk ⊢
          have HZ0 : Kp _ := ⟨hk⟩
          have HBv : Kp _ := ⟨hbv⟩
          have HVe : Kp (Z = x28.heap.size) := ⟨hV⟩
          clear hk hbv hV
          go_wp2_with (refine wpList_storeAll rwNd rfl _ _ rfl rfl HZ0.out (n := 10) rfl (vs := cellsZ zero10) rfl (cellsZ_one _) rfl ?_)
          intro x30 hk ho
          have HZ : Kp _ := ⟨hk⟩
          have hb := HBv.out.trans (ho.below (by have := HVe.out; omega : x28.heap.size ≤ Z))
          clear hk ho HZ0 HBv HVe
          replace HBb : Kp _ := ⟨HBb.out.next hb (Nat.le_refl _)⟩
          replace HBel : Kp _ := ⟨HBel.out.trans (hb.mono HBel.out.size)⟩
          clear hb
          go_wp2_with (first | refine wpList_loadAll rwNd rfl _ rfl rfl HZ.out rfl ?_ | refine wpList_build0 rfl rfl built_zero ?_ | refine wpList_eql_g eqG rfl _ _ rfl rfl rfl (HZero.out _) ?_)
          refine (known13_any _).mono ?_
          rintro e x31 ⟨rfl, hb⟩
          have HBel9 : Kp _ := ⟨HBel.out.trans (hb.mono HBel.out.size)⟩
          clear hb
          go_wp2
          go_ret
          exact ⟨rfl, HBel9.out⟩
    | false =>
      have hcall := encode_any zs HL.out w1
      unfold encE encA at hcall
      rw [hok] at hcall
      have hcr := fun W => right_any zs HL.out W
      rw [hok] at hcr
      have HCr : Kp _ := ⟨hcr⟩
      rw [if_neg (by decide), if_neg (by decide)] at hcall
      have HCl : Kp _ := ⟨hcall⟩
      clear hcall hok hcr
      go_wp2_with (refine wpList_loadAll rwNd rfl _ rfl rfl HX.out HLc.out ?_)
      refine HCl.out.mono ?_
      rintro e x32 ⟨A5, n5, c5, rfl, hbs5, _, hb⟩
      have HB5 : Kp _ := ⟨hbs5⟩
      clear hbs5 HCl
      replace HA : Kp _ := ⟨HA.out.next hb (Nat.le_refl _)⟩
      replace HBb : Kp _ := ⟨HBb.out.next hb (Nat.le_refl _)⟩
      replace HX : Kp _ := ⟨HX.out.below hb HX.out.lt⟩
      replace HBel : Kp _ := ⟨HBel.out.trans (hb.mono HBel.out.size)⟩
      clear hb
      have hcall := decode_any A5 _ c5 _ x32 HB5.out
      rw [dec_none.1, dec_none.2] at hcall
      have HCl : Kp _ := ⟨hcall⟩
      clear hcall HB5
      go_wp2_with fail
      refine (HCl.out).mono ?_
      rintro e x33 ⟨rfl, hb⟩
      replace HA : Kp _ := ⟨HA.out.next hb (Nat.le_refl _)⟩
      replace HBb : Kp _ := ⟨HBb.out.next hb (Nat.le_refl _)⟩
      replace HX : Kp _ := ⟨HX.out.below hb HX.out.lt⟩
      replace HBel : Kp _ := ⟨HBel.out.trans (hb.mono HBel.out.size)⟩
      clear hb
      clear HCl
      go_wp2_with (refine wpList_alloc tyNd rfl rfl ?_)
      intro x34 hk hbv _
      obtain ⟨Y, hV⟩ : ∃ V, V = x33.heap.size := ⟨_, rfl⟩
      rw [← hV] at hk ⊢
      have HY0 : Kp _ := ⟨hk⟩
      have HBv : Kp _ := ⟨hbv⟩
      have HVe : Kp (Y = x33.heap.size) := ⟨hV⟩
      clear hk hbv hV
      go_wp2_with (refine wpList_storeAll rwNd rfl _ _ rfl rfl HY0.out (n := 10) rfl (vs := cellsZ zero10) rfl (cellsZ_one _) rfl ?_)
      intro x35 hk ho
      have HY : Kp _ := ⟨hk⟩
      have hb := HBv.out.trans (ho.below (by have := HVe.out; omega : x33.heap.size ≤ Y))
      clear hk ho HY0 HBv HVe
      replace HA : Kp _ := ⟨HA.out.next hb (Nat.le_refl _)⟩
      replace HBb : Kp _ := ⟨HBb.out.next hb (Nat.le_refl _)⟩
      replace HX : Kp _ := ⟨HX.out.below hb HX.out.lt⟩
      replace HBel : Kp _ := ⟨HBel.out.trans (hb.mono HBel.out.size)⟩
      clear hb
      have HCl : Kp _ := ⟨HCr.out x35⟩
      go_wp2_with (refine wpList_loadAll_g rwNd rfl (.tmp 3) rfl rfl HX.out HLc.out ?_)
      refine HCl.out.mono ?_
      rintro e x36 ⟨rfl, hb⟩
      clear HCl HCr HY
      replace HA : Kp _ := ⟨HA.out.next hb (Nat.le_refl _)⟩
      replace HBb : Kp _ := ⟨HBb.out.next hb (Nat.le_refl _)⟩
      replace HBel : Kp _ := ⟨HBel.out.trans (hb.mono HBel.out.size)⟩
      clear hb
      clear HX
      cases hidx : idxB l with
      | true =>
        have hci := index_any A n c l x36 HA.out
        unfold idxE idxA at hci
        rw [hidx, if_pos rfl, if_pos rfl] at hci
        have HCl : Kp _ := ⟨hci⟩
        clear hci
        have HCl2 : Kp _ := ⟨pointers_of_idx l hidx⟩
        have HLl : Kp (l.length ≤ 64) := ⟨idx_len hidx⟩
        clear hidx
        go_wp2_with fail
        refine HCl.out.mono ?_
        rintro e x37 ⟨A6, n6, c6, rfl, hbs6, _, hb⟩
        have HB6 : Kp _ := ⟨hbs6⟩
        clear hbs6 HCl
        replace HA : Kp _ := ⟨HA.out.next hb (Nat.le_refl _)⟩
        replace HBb : Kp _ := ⟨HBb.out.next hb (Nat.le_refl _)⟩
        replace HBel : Kp _ := ⟨HBel.out.trans (hb.mono HBel.out.size)⟩
        clear hb
        have hcall := pointers_any A6 n6 c6 _ x37 HB6.out
        rw [HCl2.out.1, HCl2.out.2] at hcall
        have HCl : Kp _ := ⟨hcall⟩
        clear hcall
        go_wp2_with fail
        refine HCl.out.mono ?_
        rintro e x38 ⟨A7, n7, c7, rfl, hz7, hb⟩
        have HZ7 : Kp _ := ⟨hz7⟩
        clear HCl HB6
        obtain rfl : n7 = 64 := by rw [← hz7.len]; simp; have := HLl.out; omega
        clear hz7
        replace HA : Kp _ := ⟨HA.out.next hb (Nat.le_refl _)⟩
        replace HBb : Kp _ := ⟨HBb.out.next hb (Nat.le_refl _)⟩
        replace HBel : Kp _ := ⟨HBel.out.trans (hb.mono HBel.out.size)⟩
        clear hb
        have hn64' : n ≤ 64 := hn64
        have HTk : Kp ((((l ++ List.replicate (64 - l.length) 0).take n) == l) = true) := ⟨by rw [show n = l.length from HLen.out.symm, List.take_append_of_le_length (Nat.le_refl _), List.take_of_length_le (Nat.le_refl _)]; simp⟩
        go_wp2_with (refine wpList_cutZ_g elI rfl _ _ rfl rfl HZ7.out _ _ n rfl rfl hn64' ?_)
        intro A8 hz8
        have hcall := sameints_any A8 A n c7 n c _ l x38 _ _ hz8 HA.out
        rw [HTk.out] at hcall
        have HCl : Kp _ := ⟨hcall⟩
        clear hz8 hcall
        go_wp2_with fail
        refine HCl.out.mono ?_
        rintro e x39 ⟨rfl, hb⟩
        clear HCl HZ7 HTk
        replace HA : Kp _ := ⟨HA.out.next hb (Nat.le_refl _)⟩
        replace HBb : Kp _ := ⟨HBb.out.next hb (Nat.le_refl _)⟩
        replace HBel : Kp _ := ⟨HBel.out.trans (hb.mono HBel.out.size)⟩
        clear hb
        cases hdec : decB b with
        | true =>
          have HDa : Kp (decA b = ds ∧ decE b = 0) := ⟨by unfold decA decE; rw [hdec, ← HDs.out]; exact ⟨rfl, rfl⟩⟩
          have hd : okN ds = true ∧ encN ds = b := by
            have h := hdec
            unfold decB at h
            rw [← HDs.out, Bool.and_eq_true, Bool.and_eq_true, beq_iff_eq] at h
            exact ⟨h.2.1, h.2.2⟩
          have HEd : Kp (∀ W, Calls Try.prog 12 #[.agg (cellsZ ds).toArray] W fun e w' => ∃ A n c, e = .returned (.tuple #[.slice A n c, .int .i64 0]) ∧ Bs w' w'.heap.size A n c b ∧ n ≤ 64 ∧ Below W.heap.size W w') := ⟨fun W => by
            have h := encode_any ds HLs.out W
            unfold encE encA at h
            rw [hd.1, if_pos rfl, if_pos rfl, hd.2] at h
            exact h⟩
          have HRd : Kp (∀ W, Calls Try.prog 17 #[.agg (cellsZ ds).toArray] W fun e w' => e = .returned (.bool true) ∧ Below W.heap.size W w') := ⟨fun W => by
            have h := right_any ds HLs.out W
            rwa [hd.1] at h⟩
          clear hd hdec
          have HCl : Kp _ := ⟨decode_any A' n' c' b x39 HBb.out⟩
          rw [HDa.out.1, HDa.out.2] at HCl
          go_wp2_with fail
          refine (HCl.out).mono ?_
          rintro e x40 ⟨rfl, hb⟩
          replace HBb : Kp _ := ⟨HBb.out.next hb (Nat.le_refl _)⟩
          replace HBel : Kp _ := ⟨HBel.out.trans (hb.mono HBel.out.size)⟩
          clear hb
          clear HCl
          go_wp2_with (refine wpList_alloc tyNd rfl rfl ?_)
          intro x41 hk hbv _
          obtain ⟨Z, hV⟩ : ∃ V, V = x40.heap.size := ⟨_, rfl⟩
          rw [← hV] at hk ⊢
          have HZ0 : Kp _ := ⟨hk⟩
          have HBv : Kp _ := ⟨hbv⟩
          have HVe : Kp (Z = x40.heap.size) := ⟨hV⟩
          clear hk hbv hV
          go_wp2_with (refine wpList_storeAll rwNd rfl _ _ rfl rfl HZ0.out (n := 10) rfl (vs := cellsZ ds) HLd.out (cellsZ_one _) rfl ?_)
          intro x42 hk ho
          have HZ : Kp _ := ⟨hk⟩
          have hb := HBv.out.trans (ho.below (by have := HVe.out; omega : x40.heap.size ≤ Z))
          clear hk ho HZ0 HBv HVe
          replace HBb : Kp _ := ⟨HBb.out.next hb (Nat.le_refl _)⟩
          replace HBel : Kp _ := ⟨HBel.out.trans (hb.mono HBel.out.size)⟩
          clear hb
          have HCl : Kp _ := ⟨HEd.out x42⟩
          go_wp2_with (refine wpList_loadAll rwNd rfl _ rfl rfl HZ.out HLd.out ?_)
          refine HCl.out.mono ?_
          rintro e x43 ⟨A5, n5, c5, rfl, hbs5, _, hb⟩
          have HB5 : Kp _ := ⟨hbs5⟩
          clear hbs5 HCl
          replace HBb : Kp _ := ⟨HBb.out.next hb (Nat.le_refl _)⟩
          replace HZ : Kp _ := ⟨HZ.out.below hb HZ.out.lt⟩
          replace HBel : Kp _ := ⟨HBel.out.trans (hb.mono HBel.out.size)⟩
          clear hb
          have HCl : Kp _ := ⟨HRd.out x43⟩
          go_wp2_with (refine wpList_loadAll_g rwNd rfl _ rfl rfl HZ.out HLd.out ?_)
          refine HCl.out.mono ?_
          rintro e x44 ⟨rfl, hb⟩
          clear HCl
          replace HBb : Kp _ := ⟨HBb.out.next hb (Nat.le_refl _)⟩
          replace HB5 : Kp _ := ⟨HB5.out.next hb (Nat.le_refl _)⟩
          replace HZ : Kp _ := ⟨HZ.out.below hb HZ.out.lt⟩
          replace HBel : Kp _ := ⟨HBel.out.trans (hb.mono HBel.out.size)⟩
          clear hb
          have hsm := same_any A5 A' n5 c5 n' c' b b x44 _ _ HB5.out HBb.out
          rw [HbSame.out] at hsm
          have HCl : Kp _ := ⟨hsm⟩
          clear hsm
          go_wp2_with fail
          refine HCl.out.mono ?_
          rintro e x99 ⟨rfl, rfl⟩
          clear HCl
          go_wp2_with fail
          refine (known13_any _).mono ?_
          rintro e x45 ⟨rfl, hb⟩
          have HBel9 : Kp _ := ⟨HBel.out.trans (hb.mono HBel.out.size)⟩
          clear hb
          go_wp2
          go_ret
          exact ⟨rfl, HBel9.out⟩
        | false =>
          have HDa : Kp (decA b = zero10 ∧ decE b = 4) := ⟨by unfold decA decE; rw [hdec]; exact ⟨rfl, rfl⟩⟩
          clear hdec
          have HCl : Kp _ := ⟨decode_any A' n' c' b x39 HBb.out⟩
          rw [HDa.out.1, HDa.out.2] at HCl
          go_wp2_with fail
          refine (HCl.out).mono ?_
          rintro e x46 ⟨rfl, hb⟩
          replace HBb : Kp _ := ⟨HBb.out.next hb (Nat.le_refl _)⟩
          replace HBel : Kp _ := ⟨HBel.out.trans (hb.mono HBel.out.size)⟩
          clear hb
          clear HCl
          go_wp2_with (refine wpList_alloc tyNd rfl rfl ?_)
          intro x47 hk hbv _
          obtain ⟨Z, hV⟩ : ∃ V, V = x46.heap.size := ⟨_, rfl⟩
          rw [← hV] at hk ⊢
          have HZ0 : Kp _ := ⟨hk⟩
          have HBv : Kp _ := ⟨hbv⟩
          have HVe : Kp (Z = x46.heap.size) := ⟨hV⟩
          clear hk hbv hV
          go_wp2_with (refine wpList_storeAll rwNd rfl _ _ rfl rfl HZ0.out (n := 10) rfl (vs := cellsZ zero10) rfl (cellsZ_one _) rfl ?_)
          intro x48 hk ho
          have HZ : Kp _ := ⟨hk⟩
          have hb := HBv.out.trans (ho.below (by have := HVe.out; omega : x46.heap.size ≤ Z))
          clear hk ho HZ0 HBv HVe
          replace HBb : Kp _ := ⟨HBb.out.next hb (Nat.le_refl _)⟩
          replace HBel : Kp _ := ⟨HBel.out.trans (hb.mono HBel.out.size)⟩
          clear hb
          go_wp2_with (first | refine wpList_loadAll rwNd rfl _ rfl rfl HZ.out rfl ?_ | refine wpList_build0 rfl rfl built_zero ?_ | refine wpList_eql_g eqG rfl _ _ rfl rfl rfl (HZero.out _) ?_)
          refine (known13_any _).mono ?_
          rintro e x49 ⟨rfl, hb⟩
          have HBel9 : Kp _ := ⟨HBel.out.trans (hb.mono HBel.out.size)⟩
          clear hb
          go_wp2
          go_ret
          exact ⟨rfl, HBel9.out⟩
      | false =>
        have hci := index_any A n c l x36 HA.out
        unfold idxE idxA at hci
        rw [hidx, if_neg (by decide), if_neg (by decide)] at hci
        have HCl : Kp _ := ⟨hci⟩
        clear hci
        clear hidx
        go_wp2_with fail
        refine HCl.out.mono ?_
        rintro e x50 ⟨A6, n6, c6, rfl, hbs6, _, hb⟩
        have HB6 : Kp _ := ⟨hbs6⟩
        clear hbs6 HCl
        replace HA : Kp _ := ⟨HA.out.next hb (Nat.le_refl _)⟩
        replace HBb : Kp _ := ⟨HBb.out.next hb (Nat.le_refl _)⟩
        replace HBel : Kp _ := ⟨HBel.out.trans (hb.mono HBel.out.size)⟩
        clear hb
        have hcall := pointers_any A6 n6 c6 _ x50 HB6.out
        rw [ptr_none.1, ptr_none.2] at hcall
        have HCl : Kp _ := ⟨hcall⟩
        clear hcall
        go_wp2_with fail
        refine HCl.out.mono ?_
        rintro e x51 ⟨A7, n7, c7, rfl, hz7, hb⟩
        have HZ7 : Kp _ := ⟨hz7⟩
        clear HCl HB6
        clear hz7
        replace HA : Kp _ := ⟨HA.out.next hb (Nat.le_refl _)⟩
        replace HBb : Kp _ := ⟨HBb.out.next hb (Nat.le_refl _)⟩
        replace HBel : Kp _ := ⟨HBel.out.trans (hb.mono HBel.out.size)⟩
        clear hb
        clear HZ7
        cases hdec : decB b with
        | true =>
          have HDa : Kp (decA b = ds ∧ decE b = 0) := ⟨by unfold decA decE; rw [hdec, ← HDs.out]; exact ⟨rfl, rfl⟩⟩
          have hd : okN ds = true ∧ encN ds = b := by
            have h := hdec
            unfold decB at h
            rw [← HDs.out, Bool.and_eq_true, Bool.and_eq_true, beq_iff_eq] at h
            exact ⟨h.2.1, h.2.2⟩
          have HEd : Kp (∀ W, Calls Try.prog 12 #[.agg (cellsZ ds).toArray] W fun e w' => ∃ A n c, e = .returned (.tuple #[.slice A n c, .int .i64 0]) ∧ Bs w' w'.heap.size A n c b ∧ n ≤ 64 ∧ Below W.heap.size W w') := ⟨fun W => by
            have h := encode_any ds HLs.out W
            unfold encE encA at h
            rw [hd.1, if_pos rfl, if_pos rfl, hd.2] at h
            exact h⟩
          have HRd : Kp (∀ W, Calls Try.prog 17 #[.agg (cellsZ ds).toArray] W fun e w' => e = .returned (.bool true) ∧ Below W.heap.size W w') := ⟨fun W => by
            have h := right_any ds HLs.out W
            rwa [hd.1] at h⟩
          clear hd hdec
          have HCl : Kp _ := ⟨decode_any A' n' c' b x51 HBb.out⟩
          rw [HDa.out.1, HDa.out.2] at HCl
          go_wp2_with fail
          refine (HCl.out).mono ?_
          rintro e x52 ⟨rfl, hb⟩
          replace HBb : Kp _ := ⟨HBb.out.next hb (Nat.le_refl _)⟩
          replace HBel : Kp _ := ⟨HBel.out.trans (hb.mono HBel.out.size)⟩
          clear hb
          clear HCl
          go_wp2_with (refine wpList_alloc tyNd rfl rfl ?_)
          intro x53 hk hbv _
          obtain ⟨Z, hV⟩ : ∃ V, V = x52.heap.size := ⟨_, rfl⟩
          rw [← hV] at hk ⊢
          have HZ0 : Kp _ := ⟨hk⟩
          have HBv : Kp _ := ⟨hbv⟩
          have HVe : Kp (Z = x52.heap.size) := ⟨hV⟩
          clear hk hbv hV
          go_wp2_with (refine wpList_storeAll rwNd rfl _ _ rfl rfl HZ0.out (n := 10) rfl (vs := cellsZ ds) HLd.out (cellsZ_one _) rfl ?_)
          intro x54 hk ho
          have HZ : Kp _ := ⟨hk⟩
          have hb := HBv.out.trans (ho.below (by have := HVe.out; omega : x52.heap.size ≤ Z))
          clear hk ho HZ0 HBv HVe
          replace HBb : Kp _ := ⟨HBb.out.next hb (Nat.le_refl _)⟩
          replace HBel : Kp _ := ⟨HBel.out.trans (hb.mono HBel.out.size)⟩
          clear hb
          have HCl : Kp _ := ⟨HEd.out x54⟩
          go_wp2_with (refine wpList_loadAll rwNd rfl _ rfl rfl HZ.out HLd.out ?_)
          refine HCl.out.mono ?_
          rintro e x55 ⟨A5, n5, c5, rfl, hbs5, _, hb⟩
          have HB5 : Kp _ := ⟨hbs5⟩
          clear hbs5 HCl
          replace HBb : Kp _ := ⟨HBb.out.next hb (Nat.le_refl _)⟩
          replace HZ : Kp _ := ⟨HZ.out.below hb HZ.out.lt⟩
          replace HBel : Kp _ := ⟨HBel.out.trans (hb.mono HBel.out.size)⟩
          clear hb
          have HCl : Kp _ := ⟨HRd.out x55⟩
          go_wp2_with (refine wpList_loadAll_g rwNd rfl _ rfl rfl HZ.out HLd.out ?_)
          refine HCl.out.mono ?_
          rintro e x56 ⟨rfl, hb⟩
          clear HCl
          replace HBb : Kp _ := ⟨HBb.out.next hb (Nat.le_refl _)⟩
          replace HB5 : Kp _ := ⟨HB5.out.next hb (Nat.le_refl _)⟩
          replace HZ : Kp _ := ⟨HZ.out.below hb HZ.out.lt⟩
          replace HBel : Kp _ := ⟨HBel.out.trans (hb.mono HBel.out.size)⟩
          clear hb
          have hsm := same_any A5 A' n5 c5 n' c' b b x56 _ _ HB5.out HBb.out
          rw [HbSame.out] at hsm
          have HCl : Kp _ := ⟨hsm⟩
          clear hsm
          go_wp2_with fail
          refine HCl.out.mono ?_
          rintro e x99 ⟨rfl, rfl⟩
          clear HCl
          go_wp2_with fail
          refine (known13_any _).mono ?_
          rintro e x57 ⟨rfl, hb⟩
          have HBel9 : Kp _ := ⟨HBel.out.trans (hb.mono HBel.out.size)⟩
          clear hb
          go_wp2
          go_ret
          exact ⟨rfl, HBel9.out⟩
        | false =>
          have HDa : Kp (decA b = zero10 ∧ decE b = 4) := ⟨by unfold decA decE; rw [hdec]; exact ⟨rfl, rfl⟩⟩
          clear hdec
          have HCl : Kp _ := ⟨decode_any A' n' c' b x51 HBb.out⟩
          rw [HDa.out.1, HDa.out.2] at HCl
          go_wp2_with fail
          refine (HCl.out).mono ?_
          rintro e x58 ⟨rfl, hb⟩
          replace HBb : Kp _ := ⟨HBb.out.next hb (Nat.le_refl _)⟩
          replace HBel : Kp _ := ⟨HBel.out.trans (hb.mono HBel.out.size)⟩
          clear hb
          clear HCl
          go_wp2_with (refine wpList_alloc tyNd rfl rfl ?_)
          intro x59 hk hbv _
          obtain ⟨Z, hV⟩ : ∃ V, V = x58.heap.size := ⟨_, rfl⟩
          rw [← hV] at hk ⊢
          have HZ0 : Kp _ := ⟨hk⟩
          have HBv : Kp _ := ⟨hbv⟩
          have HVe : Kp (Z = x58.heap.size) := ⟨hV⟩
          clear hk hbv hV
          go_wp2_with (refine wpList_storeAll rwNd rfl _ _ rfl rfl HZ0.out (n := 10) rfl (vs := cellsZ zero10) rfl (cellsZ_one _) rfl ?_)
          intro x60 hk ho
          have HZ : Kp _ := ⟨hk⟩
          have hb := HBv.out.trans (ho.below (by have := HVe.out; omega : x58.heap.size ≤ Z))
          clear hk ho HZ0 HBv HVe
          replace HBb : Kp _ := ⟨HBb.out.next hb (Nat.le_refl _)⟩
          replace HBel : Kp _ := ⟨HBel.out.trans (hb.mono HBel.out.size)⟩
          clear hb
          go_wp2_with (first | refine wpList_loadAll rwNd rfl _ rfl rfl HZ.out rfl ?_ | refine wpList_build0 rfl rfl built_zero ?_ | refine wpList_eql_g eqG rfl _ _ rfl rfl rfl (HZero.out _) ?_)
          refine (known13_any _).mono ?_
          rintro e x61 ⟨rfl, hb⟩
          have HBel9 : Kp _ := ⟨HBel.out.trans (hb.mono HBel.out.size)⟩
          clear hb
          go_wp2
          go_ret
          exact ⟨rfl, HBel9.out⟩
end
end Go.Proofs.Ytmiobgongddaiaa
