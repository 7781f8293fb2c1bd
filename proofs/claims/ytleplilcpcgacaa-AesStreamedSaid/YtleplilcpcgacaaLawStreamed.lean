/- The walk of AesStreamed. -/
import Derived.Test.YtleplilcpcgacaaLawStreams
import Derived.Deep.CutRange
namespace Go.Proofs.Ytleplilcpcgacaa
open Go.RowKit

theorem row_at2 {w : World} {L : Nat} {A : Option Addr} {n c : Nat} {l : List UInt8} (h : Bs w L A n c l) {i : Nat} (hi : i < n) : ∃ b o, A = some ⟨b, o, none⟩ ∧ w.cell? ⟨b, o + i, none⟩ = some (.int .u8 ((l.getD i 0).toNat : Int)) := by
  obtain ⟨b, o, hA, _, hc⟩ := h.cell hi
  have hl := h.len
  refine ⟨b, o, hA, ?_⟩
  rw [hc]
  simp [List.getD, List.getElem?_eq_getElem (show i < l.length by omega)]
theorem blk_at2 {w : World} {g : Nat} {t : TypeId} {l : List UInt8} (h : Blk w g t (cells8 l)) {i : Nat} (hi : i < l.length) : w.cell? ⟨g, i, none⟩ = some (.int .u8 ((l.getD i 0).toNat : Int)) := by
  rw [h.cell? i, cells8_at l i hi]
  simp [List.getD, List.getElem?_eq_getElem hi]
set_option maxRecDepth 100000 in
set_option maxHeartbeats 4000000 in
theorem walk_aesStreamed (key at' : List UInt8) (n : UInt8) (w : World) (hk : key.length = 16) (ha : at'.length = 16) :
    Calls Try.prog 11 #[.agg (cells8 key).toArray, .agg (cells8 at').toArray, .int .u8 n.toNat] w fun e w' => e = .returned (.bool true) ∧ Below w.heap.size w w' := by
  have HK : Kp (key.length = 16) := ⟨hk⟩
  have HA : Kp (at'.length = 16) := ⟨ha⟩
  have HLk : Kp ((cells8 key).length = 16) := ⟨by rw [cells8_length]; exact hk⟩
  have HLa : Kp ((cells8 at').length = 16) := ⟨by rw [cells8_length]; exact ha⟩
  have hn8 := n.toNat_lt
  clear hk ha
  go_enter Try.func11, Try.ntmps11
  go_wp2_with (with_reducible refine wpList_box (o := ⟨some 3, _, _, _, _, _⟩) rfl (.tmp 0) rfl rfl ?_)
  intro w1 hk1 hb1 hs1
  have HK1 : Kp _ := ⟨hk1⟩
  clear hk1 hs1
  go_wp2_with (with_reducible refine wpList_box (o := ⟨some 4, _, _, _, _, _⟩) rfl (.tmp 1) rfl rfl ?_)
  intro w2 hk2 hb2 hs2
  have HI2 : Kp _ := ⟨hk2⟩
  have HK2 : Kp _ := ⟨HK1.out.below hb2 HK1.out.lt⟩
  have hB2 : Below w.heap.size w w2 := hb1.trans (hb2.mono hb1.size)
  obtain ⟨g1, hg1⟩ : ∃ g, g = w1.heap.size := ⟨_, rfl⟩
  rw [← hg1] at HI2 ⊢
  clear hk2 hs2 hb1 hb2 HK1 hg1
  go_wp2_with (with_reducible refine wpList_loadAll (o := ⟨some 15, _, _, _, _, _⟩) rwKey rfl (.tmp 3) rfl rfl HK2.out HLk.out ?_)
  go_wp2_with fail
  refine (new_any key w2 HK.out).mono ?_
  rintro e w3 ⟨gc, rfl, hci, hb3⟩
  have HC3 : Kp _ := ⟨hci⟩
  have HK3 : Kp _ := ⟨HK2.out.below hb3 HK2.out.lt⟩
  have HI3 : Kp _ := ⟨HI2.out.below hb3 HI2.out.lt⟩
  have hB3 := hB2.trans (hb3.mono hB2.size)
  clear hci hb3 HK2 HI2 hB2
  go_wp2_with (with_reducible refine wpList_loadAll (o := ⟨some 17, _, _, _, _, _⟩) rwKey rfl (.tmp 3) rfl rfl HK3.out HLk.out ?_)
  go_wp2_with fail
  refine (refnew_any key w3 HK.out).mono ?_
  rintro e w4 ⟨KA, kc, BA, bc, rfl, hci, hb4⟩
  have HD4 : Kp (Cx w4 KA kc BA bc key) := ⟨⟨hci⟩⟩
  have HC4 : Kp _ := ⟨HC3.out.below hb4⟩
  have HI4 : Kp _ := ⟨HI3.out.below hb4 HI3.out.lt⟩
  have hB4 := hB3.trans (hb4.mono hB3.size)
  clear hci hb4 HC3 HK3 HI3 hB3
  have HZ : Kp (zeroC.length = 2) := ⟨rfl⟩
  go_wp2_with (with_reducible refine wpList_alloc (o := ⟨some 8, _, _, _, _, _⟩) tyC rfl rfl ?_)
  intro w5 hk5 hb5 hs5
  have HQ5 : Kp _ := ⟨hk5⟩
  have HC5 : Kp _ := ⟨HC4.out.below hb5⟩
  have HI5 : Kp _ := ⟨HI4.out.below hb5 HI4.out.lt⟩
  have hB5 := hB4.trans (hb5.mono hB4.size)
  have hgq : g1 < w4.heap.size := HI4.out.lt
  have hgw : w.heap.size ≤ w4.heap.size := hB4.size
  have hcq : gc < w4.heap.size := HC4.out.blk.lt
  have hszz := hb5.size
  have HDq : Kp (∀ w', Only w4.heap.size w5 w' → CIs w' w'.heap.size KA kc (keysL boxB key) BA bc boxB) := ⟨fun w' ho => HD4.out.c.next (hb5.trans (ho.below (Nat.le_refl _)))⟩
  obtain ⟨gq, hgq0⟩ : ∃ g, g = w4.heap.size := ⟨_, rfl⟩
  rw [← hgq0] at HQ5 hgq hgw hcq hszz HDq ⊢
  clear hk5 hs5 hb5 HC4 HI4 hB4 HD4 hgq0
  go_wp2_with (refine wpList_storeAll (o := ⟨none, _, _, _, _, _⟩) (vs := [.slice KA 11 kc, .slice BA 256 bc]) rwC rfl (.tmp 8) (.tmp 18) rfl rfl HQ5.out HZ.out rfl (one2 _ _ _ _ _ _) rfl ?_)
  intro w6 hk6 ho6
  have HQ6 : Kp _ := ⟨hk6⟩
  have HI6 : Kp _ := ⟨HI5.out.only ho6 (by omega)⟩
  have HC6 : Kp (Ci w6 gc key) := ⟨⟨HC5.out.blk.only ho6 (by omega)⟩⟩
  have HD6 : Kp (Cx w6 KA kc BA bc key) := ⟨⟨HDq.out w6 ho6⟩⟩
  have hB6 := hB5.trans (ho6.below hgw)
  clear hk6 ho6 hB5 HQ5 HC5 HI5 HDq
  obtain ⟨k, hkk⟩ : ∃ k, k = n.toNat % 12 := ⟨_, rfl⟩
  have hkI : (n.toNat : Int) % 12 = (k : Int) := by omega
  obtain ⟨q, hq⟩ : ∃ q, q = 16 * k := ⟨_, rfl⟩
  have hqI : 16 * (k : Int) = (q : Int) := by omega
  have hk12 : k < 12 := by omega
  have hq63 : q ≤ 1048576 := by omega
  have HQ : Kp (q = 16 * k) := ⟨hq⟩
  have HLc : Kp (([Value.slice KA 11 kc, .slice BA 256 bc] : List Value).length = 2) := ⟨rfl⟩
  clear hkk hq
  go_wp2_with (with_reducible refine wpList_loadAll (o := ⟨some 23, _, _, _, _, _⟩) rwNonce rfl (.tmp 4) rfl rfl HI6.out HLa.out ?_)
  go_wp2_with fail
  refine (stream_mid gc key at' q w6 HC6.out HA.out hq63).mono ?_
  rintro e w7 ⟨v7, rfl, hown7, hb7⟩
  obtain ⟨A7, c7, rfl, hbs7⟩ := Bs.of_own hown7
  have HS7 : Kp _ := ⟨hbs7⟩
  have HC7 : Kp _ := ⟨HC6.out.below hb7⟩
  have HD7 : Kp _ := ⟨HD6.out.next hb7 (Nat.le_refl _)⟩
  have HI7 : Kp _ := ⟨HI6.out.below hb7 HI6.out.lt⟩
  have HQ7 : Kp _ := ⟨HQ6.out.below hb7 HQ6.out.lt⟩
  have hB7 := hB6.trans (hb7.mono hB6.size)
  have hqq : ((q : Int) != (q : Int)) = false := by simp
  clear hown7 hbs7 hb7 HC6 HD6 HI6 HQ6 hB6
  go_wp2_with (refine wpList_loadAll_g (o := ⟨some 34, _, _, _, _, some _⟩) rwNonce (by rfl) (.tmp 4) rfl rfl HI7.out HLa.out ?_)
  go_wp2_with fail
  refine (stream_mid gc key at' 0 w7 HC7.out HA.out (by decide)).mono ?_
  rintro e w8 ⟨v8, rfl, hown8, hb8⟩
  obtain ⟨A8, c8, rfl, hbs8⟩ := Bs.of_own hown8
  have HS8 : Kp _ := ⟨HS7.out.next hb8 (Nat.le_refl _)⟩
  have HC8 : Kp _ := ⟨HC7.out.below hb8⟩
  have HD8 : Kp _ := ⟨HD7.out.next hb8 (Nat.le_refl _)⟩
  have HI8 : Kp _ := ⟨HI7.out.below hb8 HI7.out.lt⟩
  have HQ8 : Kp _ := ⟨HQ7.out.below hb8 HQ7.out.lt⟩
  have hB8 := hB7.trans (hb8.mono hB7.size)
  clear hown8 hbs8 hb8 HS7 HC7 HD7 HI7 HQ7 hB7 hqq
  go_wp2
  go_loopg [11] k (fun gk v11 wr => ∃ i : Nat, i + gk = k ∧ v11 = .int .i64 i ∧ Below w8.heap.size w8 wr)
  case atStart => exact ⟨0, by omega, rfl, Below.refl _ _⟩
  case round =>
    obtain ⟨i, hik, rfl, hB⟩ := hrel
    cases gk with
    | zero =>
      obtain rfl : k = i := by omega
      go_wp2_with fail
      refine (known4_any _).mono ?_
      rintro e w9 ⟨rfl, hb9⟩
      have hB9 := hB8.trans ((hB.trans (hb9.mono hB.size)).mono hB8.size)
      go_wp2
      go_ret
      exact ⟨rfl, hB9⟩
    | succ g2 =>
      have hikI : (i : Int) < (k : Int) := by omega
      have hi63 : i ≤ 9223372036854775807 := by omega
      have HAt : Kp _ := ⟨HI8.out.below hB HI8.out.lt⟩
      go_wp2_with (with_reducible refine wpList_loadAll (o := ⟨some 45, _, _, _, _, _⟩) rwNonce rfl (.tmp 4) rfl rfl HAt.out HLa.out ?_)
      go_wp2_with fail
      refine (next_mid at' i wr HA.out hi63).mono ?_
      rintro e wa ⟨rfl, hba⟩
      have hBa := hB.trans (hba.mono hB.size)
      go_wp2_with fail
      refine (block_any gc key (nextL at' i) wa (HC8.out.below hBa) (nextL_length _ _)).mono ?_
      rintro e wb ⟨rfl, hbb⟩
      have hBb := hBa.trans (hbb.mono hBa.size)
      have HLF : Kp ((cells8 (blockL (keysL boxB key) boxB (nextL at' i))).length = 16) := ⟨by rw [cells8_length, blockL_length]⟩
      have HZ16 : Kp (zero16.length = 16) := ⟨rfl⟩
      clear hba hbb hBa HAt hB
      go_wp2_with (with_reducible refine wpList_alloc (o := ⟨some 12, _, _, _, _, _⟩) tyNonce rfl rfl ?_)
      intro wc hkc hbc hsc
      have HBc : Kp _ := ⟨hkc⟩
      have hBc := hBb.trans (hbc.mono hBb.size)
      have hg12 : w8.heap.size ≤ wb.heap.size := hBb.size
      obtain ⟨g12, hg12e⟩ : ∃ g, g = wb.heap.size := ⟨_, rfl⟩
      rw [← hg12e] at HBc hg12 ⊢
      clear hkc hsc hbc hBb hg12e
      go_wp2_with (refine wpList_storeAll (o := ⟨none, _, _, _, _, _⟩) (vs := cells8 (blockL (keysL boxB key) boxB (nextL at' i))) rwNonce rfl (.tmp 12) (.tmp 48) rfl rfl HBc.out HZ16.out HLF.out (cells8_one _) rfl ?_)
      intro wr hkd hod
      have HB12 : Kp (Blk wr g12 31 (cells8 (strF key at' i))) := ⟨hkd⟩
      have hB := hBc.trans (hod.below hg12)
      have HCC : Kp _ := ⟨HQ8.out.below hB HQ8.out.lt⟩
      have HAt : Kp _ := ⟨HI8.out.below hB HI8.out.lt⟩
      have HDr : Kp _ := ⟨HD8.out.next hB (Nat.le_refl _)⟩
      have HCw : Kp (∀ W, Below wr.heap.size wr W → CIs W W.heap.size KA kc (keysL boxB key) BA bc boxB) := ⟨fun W hW => (HDr.out.next hW (Nat.le_refl _)).c⟩
      have HSr : Kp _ := ⟨HS8.out.next hB (Nat.le_refl _)⟩
      have HLf := HLF
      have hB9 : Below wr.heap.size wr wr := Below.refl _ _
      clear hkd hod hBc HBc hg12 HDr
      go_upto_region 11 with fail
      go_cut [13] from 39 to 77 (fun v9 wx => ∃ g9, v9 = .pointer (some ⟨g9, 0, none⟩) ∧ Kp (Blk wx g9 31 (cells8 (strF key at' i))) ∧ wr.heap.size ≤ g9 ∧ Below wr.heap.size wr wx)
      case first =>
        go_wp2_with fail
        refine wp_region_any (by kernel_rfl) ?_
        change wpAny _ _ _ _ _ _ _ wr.drew
        replace HCC : Kp _ := ⟨HCC.out.drew⟩
        replace HAt : Kp _ := ⟨HAt.out.drew⟩
        replace hB9 := hB9.drew
        generalize wr.drew = wS at *
        refine wpAny_take (i := 2) (oi := ⟨some 51, _, _, _, _, _⟩) (v := ?_) rfl (by kernel_rfl) (by kernel_rfl) (by kernel_rfl) (fun _ _ _ h => h) (Or.inl ⟨by rfl, by intro w; go_simp; try rfl⟩) ?_
        try simp only [Act.put, List.setIfInBounds_toArray, List.set_cons_zero, List.set_cons_succ]
        refine wpAny_ready (rs := [0, 1, 5]) (by kernel_rfl) (by simp) ?_
        refine AllReady.cons (o := ⟨some 49, _, _, _, _, _⟩) rfl (fun K hK => ?_) (AllReady.cons (o := ⟨some 50, _, _, _, _, _⟩) rfl (fun K hK => ?_) (AllReady.cons (o := ⟨some 13, _, _, _, _, _⟩) rfl (fun K hK => ?_) AllReady.nil))
        · refine step_load rwC rfl (.tmp 8) rfl rfl HCC.out (fit_all HLc.out) (take_all HLc.out) ?_
          refine hK _ _ ?_
          clear hK K
          try simp only [Act.put, List.setIfInBounds_toArray, List.set_cons_zero, List.set_cons_succ]
          refine wpAny_ready (rs := [1, 5]) (by kernel_rfl) (by simp) ?_
          refine AllReady.cons (o := ⟨some 50, _, _, _, _, _⟩) rfl (fun K hK => ?_) (AllReady.cons (o := ⟨some 13, _, _, _, _, _⟩) rfl (fun K hK => ?_) AllReady.nil)
          · refine step_load rwNonce rfl (.tmp 4) rfl rfl HAt.out (fit_all HLa.out) (take_all HLa.out) ?_
            refine hK _ _ ?_
            clear hK K
            try simp only [Act.put, List.setIfInBounds_toArray, List.set_cons_zero, List.set_cons_succ]
            refine wpAny_ready (rs := [3, 5]) (by kernel_rfl) (by simp) ?_
            refine AllReady.cons (o := ⟨some 52, _, _, _, _, _⟩) rfl (fun K hK => ?_) (AllReady.cons (o := ⟨some 13, _, _, _, _, _⟩) rfl (fun K hK => ?_) AllReady.nil)
            · go_simp
              refine (refnext_mid at' i wS HA.out hi63).mono ?_
              rintro e w61 ⟨rfl, hb'⟩
              refine hK _ _ ?_
              clear hK K
              try simp only [Act.put, List.setIfInBounds_toArray, List.set_cons_zero, List.set_cons_succ]
              replace HCC : Kp _ := ⟨HCC.out.below hb' HCC.out.lt⟩
              replace HAt : Kp _ := ⟨HAt.out.below hb' HAt.out.lt⟩
              replace hB9 := hB9.trans (hb'.mono hB9.size)
              try replace H9 : Kp _ := ⟨H9.out.below hb' H9.out.lt⟩
              clear hb'
              refine wpAny_ready (rs := [4, 5]) (by kernel_rfl) (by simp) ?_
              refine AllReady.cons (o := ⟨some 53, _, _, _, _, _⟩) rfl (fun K hK => ?_) (AllReady.cons (o := ⟨some 13, _, _, _, _, _⟩) rfl (fun K hK => ?_) AllReady.nil)
              · go_simp
                refine (refblock_any KA kc (keysL boxB key) BA bc boxB (nextL at' i) w61 (HCw.out _ hB9) (nextL_length _ _)).mono ?_
                rintro e w62 ⟨rfl, hb'⟩
                refine hK _ _ ?_
                clear hK K
                try simp only [Act.put, List.setIfInBounds_toArray, List.set_cons_zero, List.set_cons_succ]
                replace HCC : Kp _ := ⟨HCC.out.below hb' HCC.out.lt⟩
                replace HAt : Kp _ := ⟨HAt.out.below hb' HAt.out.lt⟩
                replace hB9 := hB9.trans (hb'.mono hB9.size)
                try replace H9 : Kp _ := ⟨H9.out.below hb' H9.out.lt⟩
                clear hb'
                refine wpAny_ready (rs := [5]) (by kernel_rfl) (by simp) ?_
                refine AllReady.cons (o := ⟨some 13, _, _, _, _, _⟩) rfl (fun K hK => ?_) AllReady.nil
                refine step_alloc tyNonce rfl rfl ?_
                intro w63 hk hb'
                refine hK _ _ ?_
                clear hK K
                try simp only [Act.put, List.setIfInBounds_toArray, List.set_cons_zero, List.set_cons_succ]
                have hg9 := hB9.size
                replace HCC : Kp _ := ⟨HCC.out.below hb' HCC.out.lt⟩
                replace HAt : Kp _ := ⟨HAt.out.below hb' HAt.out.lt⟩
                replace hB9 := hB9.trans (hb'.mono hB9.size)
                have H9 : Kp _ := ⟨hk⟩
                clear hk
                clear hb'
                refine wpAny_ready (rs := [6]) (by kernel_rfl) (by simp) ?_
                refine AllReady.cons (o := ⟨none, _, _, _, _, _⟩) rfl (fun K hK => ?_) AllReady.nil
                refine step_store rwNonce rfl (.tmp 13) (.tmp 53) rfl rfl rfl H9.out HLf.out (by show 0 + 16 ≤ 16; decide) (cells8_one _) ?_
                intro w64 hk ho
                refine hK _ _ ?_
                clear hK K
                simp only [Act.put]
                have H9f : Kp _ := ⟨hk⟩
                replace hB9 := hB9.trans (ho.below hg9)
                clear hk ho
                refine wpAny_done (by kernel_rfl) ?_ _
                rw [store_all16 rfl HLf.out] at H9f
                go_wp2_with fail
                go_meet
                case rel => exact ⟨_, rfl, H9f, hg9, hB9⟩
              · refine step_alloc tyNonce rfl rfl ?_
                intro w65 hk hb'
                refine hK _ _ ?_
                clear hK K
                try simp only [Act.put, List.setIfInBounds_toArray, List.set_cons_zero, List.set_cons_succ]
                have hg9 := hB9.size
                replace HCC : Kp _ := ⟨HCC.out.below hb' HCC.out.lt⟩
                replace HAt : Kp _ := ⟨HAt.out.below hb' HAt.out.lt⟩
                replace hB9 := hB9.trans (hb'.mono hB9.size)
                have H9 : Kp _ := ⟨hk⟩
                clear hk
                clear hb'
                refine wpAny_ready (rs := [4]) (by kernel_rfl) (by simp) ?_
                refine AllReady.cons (o := ⟨some 53, _, _, _, _, _⟩) rfl (fun K hK => ?_) AllReady.nil
                go_simp
                refine (refblock_any KA kc (keysL boxB key) BA bc boxB (nextL at' i) w65 (HCw.out _ hB9) (nextL_length _ _)).mono ?_
                rintro e w66 ⟨rfl, hb'⟩
                refine hK _ _ ?_
                clear hK K
                try simp only [Act.put, List.setIfInBounds_toArray, List.set_cons_zero, List.set_cons_succ]
                replace HCC : Kp _ := ⟨HCC.out.below hb' HCC.out.lt⟩
                replace HAt : Kp _ := ⟨HAt.out.below hb' HAt.out.lt⟩
                replace hB9 := hB9.trans (hb'.mono hB9.size)
                try replace H9 : Kp _ := ⟨H9.out.below hb' H9.out.lt⟩
                clear hb'
                refine wpAny_ready (rs := [6]) (by kernel_rfl) (by simp) ?_
                refine AllReady.cons (o := ⟨none, _, _, _, _, _⟩) rfl (fun K hK => ?_) AllReady.nil
                refine step_store rwNonce rfl (.tmp 13) (.tmp 53) rfl rfl rfl H9.out HLf.out (by show 0 + 16 ≤ 16; decide) (cells8_one _) ?_
                intro w67 hk ho
                refine hK _ _ ?_
                clear hK K
                simp only [Act.put]
                have H9f : Kp _ := ⟨hk⟩
                replace hB9 := hB9.trans (ho.below hg9)
                clear hk ho
                refine wpAny_done (by kernel_rfl) ?_ _
                rw [store_all16 rfl HLf.out] at H9f
                go_wp2_with fail
                go_meet
                case rel => exact ⟨_, rfl, H9f, hg9, hB9⟩
            · refine step_alloc tyNonce rfl rfl ?_
              intro w68 hk hb'
              refine hK _ _ ?_
              clear hK K
              try simp only [Act.put, List.setIfInBounds_toArray, List.set_cons_zero, List.set_cons_succ]
              have hg9 := hB9.size
              replace HCC : Kp _ := ⟨HCC.out.below hb' HCC.out.lt⟩
              replace HAt : Kp _ := ⟨HAt.out.below hb' HAt.out.lt⟩
              replace hB9 := hB9.trans (hb'.mono hB9.size)
              have H9 : Kp _ := ⟨hk⟩
              clear hk
              clear hb'
              refine wpAny_ready (rs := [3]) (by kernel_rfl) (by simp) ?_
              refine AllReady.cons (o := ⟨some 52, _, _, _, _, _⟩) rfl (fun K hK => ?_) AllReady.nil
              go_simp
              refine (refnext_mid at' i w68 HA.out hi63).mono ?_
              rintro e w69 ⟨rfl, hb'⟩
              refine hK _ _ ?_
              clear hK K
              try simp only [Act.put, List.setIfInBounds_toArray, List.set_cons_zero, List.set_cons_succ]
              replace HCC : Kp _ := ⟨HCC.out.below hb' HCC.out.lt⟩
              replace HAt : Kp _ := ⟨HAt.out.below hb' HAt.out.lt⟩
              replace hB9 := hB9.trans (hb'.mono hB9.size)
              try replace H9 : Kp _ := ⟨H9.out.below hb' H9.out.lt⟩
              clear hb'
              refine wpAny_ready (rs := [4]) (by kernel_rfl) (by simp) ?_
              refine AllReady.cons (o := ⟨some 53, _, _, _, _, _⟩) rfl (fun K hK => ?_) AllReady.nil
              go_simp
              refine (refblock_any KA kc (keysL boxB key) BA bc boxB (nextL at' i) w69 (HCw.out _ hB9) (nextL_length _ _)).mono ?_
              rintro e w70 ⟨rfl, hb'⟩
              refine hK _ _ ?_
              clear hK K
              try simp only [Act.put, List.setIfInBounds_toArray, List.set_cons_zero, List.set_cons_succ]
              replace HCC : Kp _ := ⟨HCC.out.below hb' HCC.out.lt⟩
              replace HAt : Kp _ := ⟨HAt.out.below hb' HAt.out.lt⟩
              replace hB9 := hB9.trans (hb'.mono hB9.size)
              try replace H9 : Kp _ := ⟨H9.out.below hb' H9.out.lt⟩
              clear hb'
              refine wpAny_ready (rs := [6]) (by kernel_rfl) (by simp) ?_
              refine AllReady.cons (o := ⟨none, _, _, _, _, _⟩) rfl (fun K hK => ?_) AllReady.nil
              refine step_store rwNonce rfl (.tmp 13) (.tmp 53) rfl rfl rfl H9.out HLf.out (by show 0 + 16 ≤ 16; decide) (cells8_one _) ?_
              intro w71 hk ho
              refine hK _ _ ?_
              clear hK K
              simp only [Act.put]
              have H9f : Kp _ := ⟨hk⟩
              replace hB9 := hB9.trans (ho.below hg9)
              clear hk ho
              refine wpAny_done (by kernel_rfl) ?_ _
              rw [store_all16 rfl HLf.out] at H9f
              go_wp2_with fail
              go_meet
              case rel => exact ⟨_, rfl, H9f, hg9, hB9⟩
          · refine step_alloc tyNonce rfl rfl ?_
            intro w72 hk hb'
            refine hK _ _ ?_
            clear hK K
            try simp only [Act.put, List.setIfInBounds_toArray, List.set_cons_zero, List.set_cons_succ]
            have hg9 := hB9.size
            replace HCC : Kp _ := ⟨HCC.out.below hb' HCC.out.lt⟩
            replace HAt : Kp _ := ⟨HAt.out.below hb' HAt.out.lt⟩
            replace hB9 := hB9.trans (hb'.mono hB9.size)
            have H9 : Kp _ := ⟨hk⟩
            clear hk
            clear hb'
            refine wpAny_ready (rs := [1]) (by kernel_rfl) (by simp) ?_
            refine AllReady.cons (o := ⟨some 50, _, _, _, _, _⟩) rfl (fun K hK => ?_) AllReady.nil
            refine step_load rwNonce rfl (.tmp 4) rfl rfl HAt.out (fit_all HLa.out) (take_all HLa.out) ?_
            refine hK _ _ ?_
            clear hK K
            try simp only [Act.put, List.setIfInBounds_toArray, List.set_cons_zero, List.set_cons_succ]
            refine wpAny_ready (rs := [3]) (by kernel_rfl) (by simp) ?_
            refine AllReady.cons (o := ⟨some 52, _, _, _, _, _⟩) rfl (fun K hK => ?_) AllReady.nil
            go_simp
            refine (refnext_mid at' i w72 HA.out hi63).mono ?_
            rintro e w73 ⟨rfl, hb'⟩
            refine hK _ _ ?_
            clear hK K
            try simp only [Act.put, List.setIfInBounds_toArray, List.set_cons_zero, List.set_cons_succ]
            replace HCC : Kp _ := ⟨HCC.out.below hb' HCC.out.lt⟩
            replace HAt : Kp _ := ⟨HAt.out.below hb' HAt.out.lt⟩
            replace hB9 := hB9.trans (hb'.mono hB9.size)
            try replace H9 : Kp _ := ⟨H9.out.below hb' H9.out.lt⟩
            clear hb'
            refine wpAny_ready (rs := [4]) (by kernel_rfl) (by simp) ?_
            refine AllReady.cons (o := ⟨some 53, _, _, _, _, _⟩) rfl (fun K hK => ?_) AllReady.nil
            go_simp
            refine (refblock_any KA kc (keysL boxB key) BA bc boxB (nextL at' i) w73 (HCw.out _ hB9) (nextL_length _ _)).mono ?_
            rintro e w74 ⟨rfl, hb'⟩
            refine hK _ _ ?_
            clear hK K
            try simp only [Act.put, List.setIfInBounds_toArray, List.set_cons_zero, List.set_cons_succ]
            replace HCC : Kp _ := ⟨HCC.out.below hb' HCC.out.lt⟩
            replace HAt : Kp _ := ⟨HAt.out.below hb' HAt.out.lt⟩
            replace hB9 := hB9.trans (hb'.mono hB9.size)
            try replace H9 : Kp _ := ⟨H9.out.below hb' H9.out.lt⟩
            clear hb'
            refine wpAny_ready (rs := [6]) (by kernel_rfl) (by simp) ?_
            refine AllReady.cons (o := ⟨none, _, _, _, _, _⟩) rfl (fun K hK => ?_) AllReady.nil
            refine step_store rwNonce rfl (.tmp 13) (.tmp 53) rfl rfl rfl H9.out HLf.out (by show 0 + 16 ≤ 16; decide) (cells8_one _) ?_
            intro w75 hk ho
            refine hK _ _ ?_
            clear hK K
            simp only [Act.put]
            have H9f : Kp _ := ⟨hk⟩
            replace hB9 := hB9.trans (ho.below hg9)
            clear hk ho
            refine wpAny_done (by kernel_rfl) ?_ _
            rw [store_all16 rfl HLf.out] at H9f
            go_wp2_with fail
            go_meet
            case rel => exact ⟨_, rfl, H9f, hg9, hB9⟩
        · refine step_load rwNonce rfl (.tmp 4) rfl rfl HAt.out (fit_all HLa.out) (take_all HLa.out) ?_
          refine hK _ _ ?_
          clear hK K
          try simp only [Act.put, List.setIfInBounds_toArray, List.set_cons_zero, List.set_cons_succ]
          refine wpAny_ready (rs := [0, 3, 5]) (by kernel_rfl) (by simp) ?_
          refine AllReady.cons (o := ⟨some 49, _, _, _, _, _⟩) rfl (fun K hK => ?_) (AllReady.cons (o := ⟨some 52, _, _, _, _, _⟩) rfl (fun K hK => ?_) (AllReady.cons (o := ⟨some 13, _, _, _, _, _⟩) rfl (fun K hK => ?_) AllReady.nil))
          · refine step_load rwC rfl (.tmp 8) rfl rfl HCC.out (fit_all HLc.out) (take_all HLc.out) ?_
            refine hK _ _ ?_
            clear hK K
            try simp only [Act.put, List.setIfInBounds_toArray, List.set_cons_zero, List.set_cons_succ]
            refine wpAny_ready (rs := [3, 5]) (by kernel_rfl) (by simp) ?_
            refine AllReady.cons (o := ⟨some 52, _, _, _, _, _⟩) rfl (fun K hK => ?_) (AllReady.cons (o := ⟨some 13, _, _, _, _, _⟩) rfl (fun K hK => ?_) AllReady.nil)
            · go_simp
              refine (refnext_mid at' i wS HA.out hi63).mono ?_
              rintro e w76 ⟨rfl, hb'⟩
              refine hK _ _ ?_
              clear hK K
              try simp only [Act.put, List.setIfInBounds_toArray, List.set_cons_zero, List.set_cons_succ]
              replace HCC : Kp _ := ⟨HCC.out.below hb' HCC.out.lt⟩
              replace HAt : Kp _ := ⟨HAt.out.below hb' HAt.out.lt⟩
              replace hB9 := hB9.trans (hb'.mono hB9.size)
              try replace H9 : Kp _ := ⟨H9.out.below hb' H9.out.lt⟩
              clear hb'
              refine wpAny_ready (rs := [4, 5]) (by kernel_rfl) (by simp) ?_
              refine AllReady.cons (o := ⟨some 53, _, _, _, _, _⟩) rfl (fun K hK => ?_) (AllReady.cons (o := ⟨some 13, _, _, _, _, _⟩) rfl (fun K hK => ?_) AllReady.nil)
              · go_simp
                refine (refblock_any KA kc (keysL boxB key) BA bc boxB (nextL at' i) w76 (HCw.out _ hB9) (nextL_length _ _)).mono ?_
                rintro e w77 ⟨rfl, hb'⟩
                refine hK _ _ ?_
                clear hK K
                try simp only [Act.put, List.setIfInBounds_toArray, List.set_cons_zero, List.set_cons_succ]
                replace HCC : Kp _ := ⟨HCC.out.below hb' HCC.out.lt⟩
                replace HAt : Kp _ := ⟨HAt.out.below hb' HAt.out.lt⟩
                replace hB9 := hB9.trans (hb'.mono hB9.size)
                try replace H9 : Kp _ := ⟨H9.out.below hb' H9.out.lt⟩
                clear hb'
                refine wpAny_ready (rs := [5]) (by kernel_rfl) (by simp) ?_
                refine AllReady.cons (o := ⟨some 13, _, _, _, _, _⟩) rfl (fun K hK => ?_) AllReady.nil
                refine step_alloc tyNonce rfl rfl ?_
                intro w78 hk hb'
                refine hK _ _ ?_
                clear hK K
                try simp only [Act.put, List.setIfInBounds_toArray, List.set_cons_zero, List.set_cons_succ]
                have hg9 := hB9.size
                replace HCC : Kp _ := ⟨HCC.out.below hb' HCC.out.lt⟩
                replace HAt : Kp _ := ⟨HAt.out.below hb' HAt.out.lt⟩
                replace hB9 := hB9.trans (hb'.mono hB9.size)
                have H9 : Kp _ := ⟨hk⟩
                clear hk
                clear hb'
                refine wpAny_ready (rs := [6]) (by kernel_rfl) (by simp) ?_
                refine AllReady.cons (o := ⟨none, _, _, _, _, _⟩) rfl (fun K hK => ?_) AllReady.nil
                refine step_store rwNonce rfl (.tmp 13) (.tmp 53) rfl rfl rfl H9.out HLf.out (by show 0 + 16 ≤ 16; decide) (cells8_one _) ?_
                intro w79 hk ho
                refine hK _ _ ?_
                clear hK K
                simp only [Act.put]
                have H9f : Kp _ := ⟨hk⟩
                replace hB9 := hB9.trans (ho.below hg9)
                clear hk ho
                refine wpAny_done (by kernel_rfl) ?_ _
                rw [store_all16 rfl HLf.out] at H9f
                go_wp2_with fail
                go_meet
                case rel => exact ⟨_, rfl, H9f, hg9, hB9⟩
              · refine step_alloc tyNonce rfl rfl ?_
                intro w80 hk hb'
                refine hK _ _ ?_
                clear hK K
                try simp only [Act.put, List.setIfInBounds_toArray, List.set_cons_zero, List.set_cons_succ]
                have hg9 := hB9.size
                replace HCC : Kp _ := ⟨HCC.out.below hb' HCC.out.lt⟩
                replace HAt : Kp _ := ⟨HAt.out.below hb' HAt.out.lt⟩
                replace hB9 := hB9.trans (hb'.mono hB9.size)
                have H9 : Kp _ := ⟨hk⟩
                clear hk
                clear hb'
                refine wpAny_ready (rs := [4]) (by kernel_rfl) (by simp) ?_
                refine AllReady.cons (o := ⟨some 53, _, _, _, _, _⟩) rfl (fun K hK => ?_) AllReady.nil
                go_simp
                refine (refblock_any KA kc (keysL boxB key) BA bc boxB (nextL at' i) w80 (HCw.out _ hB9) (nextL_length _ _)).mono ?_
                rintro e w81 ⟨rfl, hb'⟩
                refine hK _ _ ?_
                clear hK K
                try simp only [Act.put, List.setIfInBounds_toArray, List.set_cons_zero, List.set_cons_succ]
                replace HCC : Kp _ := ⟨HCC.out.below hb' HCC.out.lt⟩
                replace HAt : Kp _ := ⟨HAt.out.below hb' HAt.out.lt⟩
                replace hB9 := hB9.trans (hb'.mono hB9.size)
                try replace H9 : Kp _ := ⟨H9.out.below hb' H9.out.lt⟩
                clear hb'
                refine wpAny_ready (rs := [6]) (by kernel_rfl) (by simp) ?_
                refine AllReady.cons (o := ⟨none, _, _, _, _, _⟩) rfl (fun K hK => ?_) AllReady.nil
                refine step_store rwNonce rfl (.tmp 13) (.tmp 53) rfl rfl rfl H9.out HLf.out (by show 0 + 16 ≤ 16; decide) (cells8_one _) ?_
                intro w82 hk ho
                refine hK _ _ ?_
                clear hK K
                simp only [Act.put]
                have H9f : Kp _ := ⟨hk⟩
                replace hB9 := hB9.trans (ho.below hg9)
                clear hk ho
                refine wpAny_done (by kernel_rfl) ?_ _
                rw [store_all16 rfl HLf.out] at H9f
                go_wp2_with fail
                go_meet
                case rel => exact ⟨_, rfl, H9f, hg9, hB9⟩
            · refine step_alloc tyNonce rfl rfl ?_
              intro w83 hk hb'
              refine hK _ _ ?_
              clear hK K
              try simp only [Act.put, List.setIfInBounds_toArray, List.set_cons_zero, List.set_cons_succ]
              have hg9 := hB9.size
              replace HCC : Kp _ := ⟨HCC.out.below hb' HCC.out.lt⟩
              replace HAt : Kp _ := ⟨HAt.out.below hb' HAt.out.lt⟩
              replace hB9 := hB9.trans (hb'.mono hB9.size)
              have H9 : Kp _ := ⟨hk⟩
              clear hk
              clear hb'
              refine wpAny_ready (rs := [3]) (by kernel_rfl) (by simp) ?_
              refine AllReady.cons (o := ⟨some 52, _, _, _, _, _⟩) rfl (fun K hK => ?_) AllReady.nil
              go_simp
              refine (refnext_mid at' i w83 HA.out hi63).mono ?_
              rintro e w84 ⟨rfl, hb'⟩
              refine hK _ _ ?_
              clear hK K
              try simp only [Act.put, List.setIfInBounds_toArray, List.set_cons_zero, List.set_cons_succ]
              replace HCC : Kp _ := ⟨HCC.out.below hb' HCC.out.lt⟩
              replace HAt : Kp _ := ⟨HAt.out.below hb' HAt.out.lt⟩
              replace hB9 := hB9.trans (hb'.mono hB9.size)
              try replace H9 : Kp _ := ⟨H9.out.below hb' H9.out.lt⟩
              clear hb'
              refine wpAny_ready (rs := [4]) (by kernel_rfl) (by simp) ?_
              refine AllReady.cons (o := ⟨some 53, _, _, _, _, _⟩) rfl (fun K hK => ?_) AllReady.nil
              go_simp
              refine (refblock_any KA kc (keysL boxB key) BA bc boxB (nextL at' i) w84 (HCw.out _ hB9) (nextL_length _ _)).mono ?_
              rintro e w85 ⟨rfl, hb'⟩
              refine hK _ _ ?_
              clear hK K
              try simp only [Act.put, List.setIfInBounds_toArray, List.set_cons_zero, List.set_cons_succ]
              replace HCC : Kp _ := ⟨HCC.out.below hb' HCC.out.lt⟩
              replace HAt : Kp _ := ⟨HAt.out.below hb' HAt.out.lt⟩
              replace hB9 := hB9.trans (hb'.mono hB9.size)
              try replace H9 : Kp _ := ⟨H9.out.below hb' H9.out.lt⟩
              clear hb'
              refine wpAny_ready (rs := [6]) (by kernel_rfl) (by simp) ?_
              refine AllReady.cons (o := ⟨none, _, _, _, _, _⟩) rfl (fun K hK => ?_) AllReady.nil
              refine step_store rwNonce rfl (.tmp 13) (.tmp 53) rfl rfl rfl H9.out HLf.out (by show 0 + 16 ≤ 16; decide) (cells8_one _) ?_
              intro w86 hk ho
              refine hK _ _ ?_
              clear hK K
              simp only [Act.put]
              have H9f : Kp _ := ⟨hk⟩
              replace hB9 := hB9.trans (ho.below hg9)
              clear hk ho
              refine wpAny_done (by kernel_rfl) ?_ _
              rw [store_all16 rfl HLf.out] at H9f
              go_wp2_with fail
              go_meet
              case rel => exact ⟨_, rfl, H9f, hg9, hB9⟩
          · go_simp
            refine (refnext_mid at' i wS HA.out hi63).mono ?_
            rintro e w87 ⟨rfl, hb'⟩
            refine hK _ _ ?_
            clear hK K
            try simp only [Act.put, List.setIfInBounds_toArray, List.set_cons_zero, List.set_cons_succ]
            replace HCC : Kp _ := ⟨HCC.out.below hb' HCC.out.lt⟩
            replace HAt : Kp _ := ⟨HAt.out.below hb' HAt.out.lt⟩
            replace hB9 := hB9.trans (hb'.mono hB9.size)
            try replace H9 : Kp _ := ⟨H9.out.below hb' H9.out.lt⟩
            clear hb'
            refine wpAny_ready (rs := [0, 5]) (by kernel_rfl) (by simp) ?_
            refine AllReady.cons (o := ⟨some 49, _, _, _, _, _⟩) rfl (fun K hK => ?_) (AllReady.cons (o := ⟨some 13, _, _, _, _, _⟩) rfl (fun K hK => ?_) AllReady.nil)
            · refine step_load rwC rfl (.tmp 8) rfl rfl HCC.out (fit_all HLc.out) (take_all HLc.out) ?_
              refine hK _ _ ?_
              clear hK K
              try simp only [Act.put, List.setIfInBounds_toArray, List.set_cons_zero, List.set_cons_succ]
              refine wpAny_ready (rs := [4, 5]) (by kernel_rfl) (by simp) ?_
              refine AllReady.cons (o := ⟨some 53, _, _, _, _, _⟩) rfl (fun K hK => ?_) (AllReady.cons (o := ⟨some 13, _, _, _, _, _⟩) rfl (fun K hK => ?_) AllReady.nil)
              · go_simp
                refine (refblock_any KA kc (keysL boxB key) BA bc boxB (nextL at' i) w87 (HCw.out _ hB9) (nextL_length _ _)).mono ?_
                rintro e w88 ⟨rfl, hb'⟩
                refine hK _ _ ?_
                clear hK K
                try simp only [Act.put, List.setIfInBounds_toArray, List.set_cons_zero, List.set_cons_succ]
                replace HCC : Kp _ := ⟨HCC.out.below hb' HCC.out.lt⟩
                replace HAt : Kp _ := ⟨HAt.out.below hb' HAt.out.lt⟩
                replace hB9 := hB9.trans (hb'.mono hB9.size)
                try replace H9 : Kp _ := ⟨H9.out.below hb' H9.out.lt⟩
                clear hb'
                refine wpAny_ready (rs := [5]) (by kernel_rfl) (by simp) ?_
                refine AllReady.cons (o := ⟨some 13, _, _, _, _, _⟩) rfl (fun K hK => ?_) AllReady.nil
                refine step_alloc tyNonce rfl rfl ?_
                intro w89 hk hb'
                refine hK _ _ ?_
                clear hK K
                try simp only [Act.put, List.setIfInBounds_toArray, List.set_cons_zero, List.set_cons_succ]
                have hg9 := hB9.size
                replace HCC : Kp _ := ⟨HCC.out.below hb' HCC.out.lt⟩
                replace HAt : Kp _ := ⟨HAt.out.below hb' HAt.out.lt⟩
                replace hB9 := hB9.trans (hb'.mono hB9.size)
                have H9 : Kp _ := ⟨hk⟩
                clear hk
                clear hb'
                refine wpAny_ready (rs := [6]) (by kernel_rfl) (by simp) ?_
                refine AllReady.cons (o := ⟨none, _, _, _, _, _⟩) rfl (fun K hK => ?_) AllReady.nil
                refine step_store rwNonce rfl (.tmp 13) (.tmp 53) rfl rfl rfl H9.out HLf.out (by show 0 + 16 ≤ 16; decide) (cells8_one _) ?_
                intro w90 hk ho
                refine hK _ _ ?_
                clear hK K
                simp only [Act.put]
                have H9f : Kp _ := ⟨hk⟩
                replace hB9 := hB9.trans (ho.below hg9)
                clear hk ho
                refine wpAny_done (by kernel_rfl) ?_ _
                rw [store_all16 rfl HLf.out] at H9f
                go_wp2_with fail
                go_meet
                case rel => exact ⟨_, rfl, H9f, hg9, hB9⟩
              · refine step_alloc tyNonce rfl rfl ?_
                intro w91 hk hb'
                refine hK _ _ ?_
                clear hK K
                try simp only [Act.put, List.setIfInBounds_toArray, List.set_cons_zero, List.set_cons_succ]
                have hg9 := hB9.size
                replace HCC : Kp _ := ⟨HCC.out.below hb' HCC.out.lt⟩
                replace HAt : Kp _ := ⟨HAt.out.below hb' HAt.out.lt⟩
                replace hB9 := hB9.trans (hb'.mono hB9.size)
                have H9 : Kp _ := ⟨hk⟩
                clear hk
                clear hb'
                refine wpAny_ready (rs := [4]) (by kernel_rfl) (by simp) ?_
                refine AllReady.cons (o := ⟨some 53, _, _, _, _, _⟩) rfl (fun K hK => ?_) AllReady.nil
                go_simp
                refine (refblock_any KA kc (keysL boxB key) BA bc boxB (nextL at' i) w91 (HCw.out _ hB9) (nextL_length _ _)).mono ?_
                rintro e w92 ⟨rfl, hb'⟩
                refine hK _ _ ?_
                clear hK K
                try simp only [Act.put, List.setIfInBounds_toArray, List.set_cons_zero, List.set_cons_succ]
                replace HCC : Kp _ := ⟨HCC.out.below hb' HCC.out.lt⟩
                replace HAt : Kp _ := ⟨HAt.out.below hb' HAt.out.lt⟩
                replace hB9 := hB9.trans (hb'.mono hB9.size)
                try replace H9 : Kp _ := ⟨H9.out.below hb' H9.out.lt⟩
                clear hb'
                refine wpAny_ready (rs := [6]) (by kernel_rfl) (by simp) ?_
                refine AllReady.cons (o := ⟨none, _, _, _, _, _⟩) rfl (fun K hK => ?_) AllReady.nil
                refine step_store rwNonce rfl (.tmp 13) (.tmp 53) rfl rfl rfl H9.out HLf.out (by show 0 + 16 ≤ 16; decide) (cells8_one _) ?_
                intro w93 hk ho
                refine hK _ _ ?_
                clear hK K
                simp only [Act.put]
                have H9f : Kp _ := ⟨hk⟩
                replace hB9 := hB9.trans (ho.below hg9)
                clear hk ho
                refine wpAny_done (by kernel_rfl) ?_ _
                rw [store_all16 rfl HLf.out] at H9f
                go_wp2_with fail
                go_meet
                case rel => exact ⟨_, rfl, H9f, hg9, hB9⟩
            · refine step_alloc tyNonce rfl rfl ?_
              intro w94 hk hb'
              refine hK _ _ ?_
              clear hK K
              try simp only [Act.put, List.setIfInBounds_toArray, List.set_cons_zero, List.set_cons_succ]
              have hg9 := hB9.size
              replace HCC : Kp _ := ⟨HCC.out.below hb' HCC.out.lt⟩
              replace HAt : Kp _ := ⟨HAt.out.below hb' HAt.out.lt⟩
              replace hB9 := hB9.trans (hb'.mono hB9.size)
              have H9 : Kp _ := ⟨hk⟩
              clear hk
              clear hb'
              refine wpAny_ready (rs := [0]) (by kernel_rfl) (by simp) ?_
              refine AllReady.cons (o := ⟨some 49, _, _, _, _, _⟩) rfl (fun K hK => ?_) AllReady.nil
              refine step_load rwC rfl (.tmp 8) rfl rfl HCC.out (fit_all HLc.out) (take_all HLc.out) ?_
              refine hK _ _ ?_
              clear hK K
              try simp only [Act.put, List.setIfInBounds_toArray, List.set_cons_zero, List.set_cons_succ]
              refine wpAny_ready (rs := [4]) (by kernel_rfl) (by simp) ?_
              refine AllReady.cons (o := ⟨some 53, _, _, _, _, _⟩) rfl (fun K hK => ?_) AllReady.nil
              go_simp
              refine (refblock_any KA kc (keysL boxB key) BA bc boxB (nextL at' i) w94 (HCw.out _ hB9) (nextL_length _ _)).mono ?_
              rintro e w95 ⟨rfl, hb'⟩
              refine hK _ _ ?_
              clear hK K
              try simp only [Act.put, List.setIfInBounds_toArray, List.set_cons_zero, List.set_cons_succ]
              replace HCC : Kp _ := ⟨HCC.out.below hb' HCC.out.lt⟩
              replace HAt : Kp _ := ⟨HAt.out.below hb' HAt.out.lt⟩
              replace hB9 := hB9.trans (hb'.mono hB9.size)
              try replace H9 : Kp _ := ⟨H9.out.below hb' H9.out.lt⟩
              clear hb'
              refine wpAny_ready (rs := [6]) (by kernel_rfl) (by simp) ?_
              refine AllReady.cons (o := ⟨none, _, _, _, _, _⟩) rfl (fun K hK => ?_) AllReady.nil
              refine step_store rwNonce rfl (.tmp 13) (.tmp 53) rfl rfl rfl H9.out HLf.out (by show 0 + 16 ≤ 16; decide) (cells8_one _) ?_
              intro w96 hk ho
              refine hK _ _ ?_
              clear hK K
              simp only [Act.put]
              have H9f : Kp _ := ⟨hk⟩
              replace hB9 := hB9.trans (ho.below hg9)
              clear hk ho
              refine wpAny_done (by kernel_rfl) ?_ _
              rw [store_all16 rfl HLf.out] at H9f
              go_wp2_with fail
              go_meet
              case rel => exact ⟨_, rfl, H9f, hg9, hB9⟩
          · refine step_alloc tyNonce rfl rfl ?_
            intro w97 hk hb'
            refine hK _ _ ?_
            clear hK K
            try simp only [Act.put, List.setIfInBounds_toArray, List.set_cons_zero, List.set_cons_succ]
            have hg9 := hB9.size
            replace HCC : Kp _ := ⟨HCC.out.below hb' HCC.out.lt⟩
            replace HAt : Kp _ := ⟨HAt.out.below hb' HAt.out.lt⟩
            replace hB9 := hB9.trans (hb'.mono hB9.size)
            have H9 : Kp _ := ⟨hk⟩
            clear hk
            clear hb'
            refine wpAny_ready (rs := [0, 3]) (by kernel_rfl) (by simp) ?_
            refine AllReady.cons (o := ⟨some 49, _, _, _, _, _⟩) rfl (fun K hK => ?_) (AllReady.cons (o := ⟨some 52, _, _, _, _, _⟩) rfl (fun K hK => ?_) AllReady.nil)
            · refine step_load rwC rfl (.tmp 8) rfl rfl HCC.out (fit_all HLc.out) (take_all HLc.out) ?_
              refine hK _ _ ?_
              clear hK K
              try simp only [Act.put, List.setIfInBounds_toArray, List.set_cons_zero, List.set_cons_succ]
              refine wpAny_ready (rs := [3]) (by kernel_rfl) (by simp) ?_
              refine AllReady.cons (o := ⟨some 52, _, _, _, _, _⟩) rfl (fun K hK => ?_) AllReady.nil
              go_simp
              refine (refnext_mid at' i w97 HA.out hi63).mono ?_
              rintro e w98 ⟨rfl, hb'⟩
              refine hK _ _ ?_
              clear hK K
              try simp only [Act.put, List.setIfInBounds_toArray, List.set_cons_zero, List.set_cons_succ]
              replace HCC : Kp _ := ⟨HCC.out.below hb' HCC.out.lt⟩
              replace HAt : Kp _ := ⟨HAt.out.below hb' HAt.out.lt⟩
              replace hB9 := hB9.trans (hb'.mono hB9.size)
              try replace H9 : Kp _ := ⟨H9.out.below hb' H9.out.lt⟩
              clear hb'
              refine wpAny_ready (rs := [4]) (by kernel_rfl) (by simp) ?_
              refine AllReady.cons (o := ⟨some 53, _, _, _, _, _⟩) rfl (fun K hK => ?_) AllReady.nil
              go_simp
              refine (refblock_any KA kc (keysL boxB key) BA bc boxB (nextL at' i) w98 (HCw.out _ hB9) (nextL_length _ _)).mono ?_
              rintro e w99 ⟨rfl, hb'⟩
              refine hK _ _ ?_
              clear hK K
              try simp only [Act.put, List.setIfInBounds_toArray, List.set_cons_zero, List.set_cons_succ]
              replace HCC : Kp _ := ⟨HCC.out.below hb' HCC.out.lt⟩
              replace HAt : Kp _ := ⟨HAt.out.below hb' HAt.out.lt⟩
              replace hB9 := hB9.trans (hb'.mono hB9.size)
              try replace H9 : Kp _ := ⟨H9.out.below hb' H9.out.lt⟩
              clear hb'
              refine wpAny_ready (rs := [6]) (by kernel_rfl) (by simp) ?_
              refine AllReady.cons (o := ⟨none, _, _, _, _, _⟩) rfl (fun K hK => ?_) AllReady.nil
              refine step_store rwNonce rfl (.tmp 13) (.tmp 53) rfl rfl rfl H9.out HLf.out (by show 0 + 16 ≤ 16; decide) (cells8_one _) ?_
              intro w100 hk ho
              refine hK _ _ ?_
              clear hK K
              simp only [Act.put]
              have H9f : Kp _ := ⟨hk⟩
              replace hB9 := hB9.trans (ho.below hg9)
              clear hk ho
              refine wpAny_done (by kernel_rfl) ?_ _
              rw [store_all16 rfl HLf.out] at H9f
              go_wp2_with fail
              go_meet
              case rel => exact ⟨_, rfl, H9f, hg9, hB9⟩
            · go_simp
              refine (refnext_mid at' i w97 HA.out hi63).mono ?_
              rintro e w101 ⟨rfl, hb'⟩
              refine hK _ _ ?_
              clear hK K
              try simp only [Act.put, List.setIfInBounds_toArray, List.set_cons_zero, List.set_cons_succ]
              replace HCC : Kp _ := ⟨HCC.out.below hb' HCC.out.lt⟩
              replace HAt : Kp _ := ⟨HAt.out.below hb' HAt.out.lt⟩
              replace hB9 := hB9.trans (hb'.mono hB9.size)
              try replace H9 : Kp _ := ⟨H9.out.below hb' H9.out.lt⟩
              clear hb'
              refine wpAny_ready (rs := [0]) (by kernel_rfl) (by simp) ?_
              refine AllReady.cons (o := ⟨some 49, _, _, _, _, _⟩) rfl (fun K hK => ?_) AllReady.nil
              refine step_load rwC rfl (.tmp 8) rfl rfl HCC.out (fit_all HLc.out) (take_all HLc.out) ?_
              refine hK _ _ ?_
              clear hK K
              try simp only [Act.put, List.setIfInBounds_toArray, List.set_cons_zero, List.set_cons_succ]
              refine wpAny_ready (rs := [4]) (by kernel_rfl) (by simp) ?_
              refine AllReady.cons (o := ⟨some 53, _, _, _, _, _⟩) rfl (fun K hK => ?_) AllReady.nil
              go_simp
              refine (refblock_any KA kc (keysL boxB key) BA bc boxB (nextL at' i) w101 (HCw.out _ hB9) (nextL_length _ _)).mono ?_
              rintro e w102 ⟨rfl, hb'⟩
              refine hK _ _ ?_
              clear hK K
              try simp only [Act.put, List.setIfInBounds_toArray, List.set_cons_zero, List.set_cons_succ]
              replace HCC : Kp _ := ⟨HCC.out.below hb' HCC.out.lt⟩
              replace HAt : Kp _ := ⟨HAt.out.below hb' HAt.out.lt⟩
              replace hB9 := hB9.trans (hb'.mono hB9.size)
              try replace H9 : Kp _ := ⟨H9.out.below hb' H9.out.lt⟩
              clear hb'
              refine wpAny_ready (rs := [6]) (by kernel_rfl) (by simp) ?_
              refine AllReady.cons (o := ⟨none, _, _, _, _, _⟩) rfl (fun K hK => ?_) AllReady.nil
              refine step_store rwNonce rfl (.tmp 13) (.tmp 53) rfl rfl rfl H9.out HLf.out (by show 0 + 16 ≤ 16; decide) (cells8_one _) ?_
              intro w103 hk ho
              refine hK _ _ ?_
              clear hK K
              simp only [Act.put]
              have H9f : Kp _ := ⟨hk⟩
              replace hB9 := hB9.trans (ho.below hg9)
              clear hk ho
              refine wpAny_done (by kernel_rfl) ?_ _
              rw [store_all16 rfl HLf.out] at H9f
              go_wp2_with fail
              go_meet
              case rel => exact ⟨_, rfl, H9f, hg9, hB9⟩
        · refine step_alloc tyNonce rfl rfl ?_
          intro w104 hk hb'
          refine hK _ _ ?_
          clear hK K
          try simp only [Act.put, List.setIfInBounds_toArray, List.set_cons_zero, List.set_cons_succ]
          have hg9 := hB9.size
          replace HCC : Kp _ := ⟨HCC.out.below hb' HCC.out.lt⟩
          replace HAt : Kp _ := ⟨HAt.out.below hb' HAt.out.lt⟩
          replace hB9 := hB9.trans (hb'.mono hB9.size)
          have H9 : Kp _ := ⟨hk⟩
          clear hk
          clear hb'
          refine wpAny_ready (rs := [0, 1]) (by kernel_rfl) (by simp) ?_
          refine AllReady.cons (o := ⟨some 49, _, _, _, _, _⟩) rfl (fun K hK => ?_) (AllReady.cons (o := ⟨some 50, _, _, _, _, _⟩) rfl (fun K hK => ?_) AllReady.nil)
          · refine step_load rwC rfl (.tmp 8) rfl rfl HCC.out (fit_all HLc.out) (take_all HLc.out) ?_
            refine hK _ _ ?_
            clear hK K
            try simp only [Act.put, List.setIfInBounds_toArray, List.set_cons_zero, List.set_cons_succ]
            refine wpAny_ready (rs := [1]) (by kernel_rfl) (by simp) ?_
            refine AllReady.cons (o := ⟨some 50, _, _, _, _, _⟩) rfl (fun K hK => ?_) AllReady.nil
            refine step_load rwNonce rfl (.tmp 4) rfl rfl HAt.out (fit_all HLa.out) (take_all HLa.out) ?_
            refine hK _ _ ?_
            clear hK K
            try simp only [Act.put, List.setIfInBounds_toArray, List.set_cons_zero, List.set_cons_succ]
            refine wpAny_ready (rs := [3]) (by kernel_rfl) (by simp) ?_
            refine AllReady.cons (o := ⟨some 52, _, _, _, _, _⟩) rfl (fun K hK => ?_) AllReady.nil
            go_simp
            refine (refnext_mid at' i w104 HA.out hi63).mono ?_
            rintro e w105 ⟨rfl, hb'⟩
            refine hK _ _ ?_
            clear hK K
            try simp only [Act.put, List.setIfInBounds_toArray, List.set_cons_zero, List.set_cons_succ]
            replace HCC : Kp _ := ⟨HCC.out.below hb' HCC.out.lt⟩
            replace HAt : Kp _ := ⟨HAt.out.below hb' HAt.out.lt⟩
            replace hB9 := hB9.trans (hb'.mono hB9.size)
            try replace H9 : Kp _ := ⟨H9.out.below hb' H9.out.lt⟩
            clear hb'
            refine wpAny_ready (rs := [4]) (by kernel_rfl) (by simp) ?_
            refine AllReady.cons (o := ⟨some 53, _, _, _, _, _⟩) rfl (fun K hK => ?_) AllReady.nil
            go_simp
            refine (refblock_any KA kc (keysL boxB key) BA bc boxB (nextL at' i) w105 (HCw.out _ hB9) (nextL_length _ _)).mono ?_
            rintro e w106 ⟨rfl, hb'⟩
            refine hK _ _ ?_
            clear hK K
            try simp only [Act.put, List.setIfInBounds_toArray, List.set_cons_zero, List.set_cons_succ]
            replace HCC : Kp _ := ⟨HCC.out.below hb' HCC.out.lt⟩
            replace HAt : Kp _ := ⟨HAt.out.below hb' HAt.out.lt⟩
            replace hB9 := hB9.trans (hb'.mono hB9.size)
            try replace H9 : Kp _ := ⟨H9.out.below hb' H9.out.lt⟩
            clear hb'
            refine wpAny_ready (rs := [6]) (by kernel_rfl) (by simp) ?_
            refine AllReady.cons (o := ⟨none, _, _, _, _, _⟩) rfl (fun K hK => ?_) AllReady.nil
            refine step_store rwNonce rfl (.tmp 13) (.tmp 53) rfl rfl rfl H9.out HLf.out (by show 0 + 16 ≤ 16; decide) (cells8_one _) ?_
            intro w107 hk ho
            refine hK _ _ ?_
            clear hK K
            simp only [Act.put]
            have H9f : Kp _ := ⟨hk⟩
            replace hB9 := hB9.trans (ho.below hg9)
            clear hk ho
            refine wpAny_done (by kernel_rfl) ?_ _
            rw [store_all16 rfl HLf.out] at H9f
            go_wp2_with fail
            go_meet
            case rel => exact ⟨_, rfl, H9f, hg9, hB9⟩
          · refine step_load rwNonce rfl (.tmp 4) rfl rfl HAt.out (fit_all HLa.out) (take_all HLa.out) ?_
            refine hK _ _ ?_
            clear hK K
            try simp only [Act.put, List.setIfInBounds_toArray, List.set_cons_zero, List.set_cons_succ]
            refine wpAny_ready (rs := [0, 3]) (by kernel_rfl) (by simp) ?_
            refine AllReady.cons (o := ⟨some 49, _, _, _, _, _⟩) rfl (fun K hK => ?_) (AllReady.cons (o := ⟨some 52, _, _, _, _, _⟩) rfl (fun K hK => ?_) AllReady.nil)
            · refine step_load rwC rfl (.tmp 8) rfl rfl HCC.out (fit_all HLc.out) (take_all HLc.out) ?_
              refine hK _ _ ?_
              clear hK K
              try simp only [Act.put, List.setIfInBounds_toArray, List.set_cons_zero, List.set_cons_succ]
              refine wpAny_ready (rs := [3]) (by kernel_rfl) (by simp) ?_
              refine AllReady.cons (o := ⟨some 52, _, _, _, _, _⟩) rfl (fun K hK => ?_) AllReady.nil
              go_simp
              refine (refnext_mid at' i w104 HA.out hi63).mono ?_
              rintro e w108 ⟨rfl, hb'⟩
              refine hK _ _ ?_
              clear hK K
              try simp only [Act.put, List.setIfInBounds_toArray, List.set_cons_zero, List.set_cons_succ]
              replace HCC : Kp _ := ⟨HCC.out.below hb' HCC.out.lt⟩
              replace HAt : Kp _ := ⟨HAt.out.below hb' HAt.out.lt⟩
              replace hB9 := hB9.trans (hb'.mono hB9.size)
              try replace H9 : Kp _ := ⟨H9.out.below hb' H9.out.lt⟩
              clear hb'
              refine wpAny_ready (rs := [4]) (by kernel_rfl) (by simp) ?_
              refine AllReady.cons (o := ⟨some 53, _, _, _, _, _⟩) rfl (fun K hK => ?_) AllReady.nil
              go_simp
              refine (refblock_any KA kc (keysL boxB key) BA bc boxB (nextL at' i) w108 (HCw.out _ hB9) (nextL_length _ _)).mono ?_
              rintro e w109 ⟨rfl, hb'⟩
              refine hK _ _ ?_
              clear hK K
              try simp only [Act.put, List.setIfInBounds_toArray, List.set_cons_zero, List.set_cons_succ]
              replace HCC : Kp _ := ⟨HCC.out.below hb' HCC.out.lt⟩
              replace HAt : Kp _ := ⟨HAt.out.below hb' HAt.out.lt⟩
              replace hB9 := hB9.trans (hb'.mono hB9.size)
              try replace H9 : Kp _ := ⟨H9.out.below hb' H9.out.lt⟩
              clear hb'
              refine wpAny_ready (rs := [6]) (by kernel_rfl) (by simp) ?_
              refine AllReady.cons (o := ⟨none, _, _, _, _, _⟩) rfl (fun K hK => ?_) AllReady.nil
              refine step_store rwNonce rfl (.tmp 13) (.tmp 53) rfl rfl rfl H9.out HLf.out (by show 0 + 16 ≤ 16; decide) (cells8_one _) ?_
              intro w110 hk ho
              refine hK _ _ ?_
              clear hK K
              simp only [Act.put]
              have H9f : Kp _ := ⟨hk⟩
              replace hB9 := hB9.trans (ho.below hg9)
              clear hk ho
              refine wpAny_done (by kernel_rfl) ?_ _
              rw [store_all16 rfl HLf.out] at H9f
              go_wp2_with fail
              go_meet
              case rel => exact ⟨_, rfl, H9f, hg9, hB9⟩
            · go_simp
              refine (refnext_mid at' i w104 HA.out hi63).mono ?_
              rintro e w111 ⟨rfl, hb'⟩
              refine hK _ _ ?_
              clear hK K
              try simp only [Act.put, List.setIfInBounds_toArray, List.set_cons_zero, List.set_cons_succ]
              replace HCC : Kp _ := ⟨HCC.out.below hb' HCC.out.lt⟩
              replace HAt : Kp _ := ⟨HAt.out.below hb' HAt.out.lt⟩
              replace hB9 := hB9.trans (hb'.mono hB9.size)
              try replace H9 : Kp _ := ⟨H9.out.below hb' H9.out.lt⟩
              clear hb'
              refine wpAny_ready (rs := [0]) (by kernel_rfl) (by simp) ?_
              refine AllReady.cons (o := ⟨some 49, _, _, _, _, _⟩) rfl (fun K hK => ?_) AllReady.nil
              refine step_load rwC rfl (.tmp 8) rfl rfl HCC.out (fit_all HLc.out) (take_all HLc.out) ?_
              refine hK _ _ ?_
              clear hK K
              try simp only [Act.put, List.setIfInBounds_toArray, List.set_cons_zero, List.set_cons_succ]
              refine wpAny_ready (rs := [4]) (by kernel_rfl) (by simp) ?_
              refine AllReady.cons (o := ⟨some 53, _, _, _, _, _⟩) rfl (fun K hK => ?_) AllReady.nil
              go_simp
              refine (refblock_any KA kc (keysL boxB key) BA bc boxB (nextL at' i) w111 (HCw.out _ hB9) (nextL_length _ _)).mono ?_
              rintro e w112 ⟨rfl, hb'⟩
              refine hK _ _ ?_
              clear hK K
              try simp only [Act.put, List.setIfInBounds_toArray, List.set_cons_zero, List.set_cons_succ]
              replace HCC : Kp _ := ⟨HCC.out.below hb' HCC.out.lt⟩
              replace HAt : Kp _ := ⟨HAt.out.below hb' HAt.out.lt⟩
              replace hB9 := hB9.trans (hb'.mono hB9.size)
              try replace H9 : Kp _ := ⟨H9.out.below hb' H9.out.lt⟩
              clear hb'
              refine wpAny_ready (rs := [6]) (by kernel_rfl) (by simp) ?_
              refine AllReady.cons (o := ⟨none, _, _, _, _, _⟩) rfl (fun K hK => ?_) AllReady.nil
              refine step_store rwNonce rfl (.tmp 13) (.tmp 53) rfl rfl rfl H9.out HLf.out (by show 0 + 16 ≤ 16; decide) (cells8_one _) ?_
              intro w113 hk ho
              refine hK _ _ ?_
              clear hK K
              simp only [Act.put]
              have H9f : Kp _ := ⟨hk⟩
              replace hB9 := hB9.trans (ho.below hg9)
              clear hk ho
              refine wpAny_done (by kernel_rfl) ?_ _
              rw [store_all16 rfl HLf.out] at H9f
              go_wp2_with fail
              go_meet
              case rel => exact ⟨_, rfl, H9f, hg9, hB9⟩
      case rest =>
        obtain ⟨g9, rfl, H9, hg9, hBx⟩ := hcut
        have H12 : Kp _ := ⟨HB12.out.below hBx HB12.out.lt⟩
        have HSx : Kp _ := ⟨HSr.out.next hBx (Nat.le_refl _)⟩
        have hBw := hB.trans (hBx.mono hB.size)
        have HF : Kp ((strF key at' i).length = 16) := ⟨strF_length key at' i⟩
        have HST : Kp (∀ j, j < 16 → 16 * i + j < q ∧ (strL (strF key at') q).getD (16 * i + j) 0 = (strF key at' i).getD j 0) := ⟨fun j hj => by
          have hq2 := HQ.out
          have hlt : 16 * i + j < q := by omega
          refine ⟨hlt, ?_⟩
          have h := map_getD (fun p => (strF key at' (p / 16)).getD (p % 16) 0) q (16 * i + j) 0 hlt
          unfold strL
          rw [h, show (16 * i + j) / 16 = i by omega, show (16 * i + j) % 16 = j by omega]⟩
        obtain ⟨p, hp⟩ : ∃ p, p = 16 * i := ⟨_, rfl⟩
        have hwp : IntKind.i64.wrap (16 * (i : Int)) = (p : Int) := by rw [IntKind.wrap_i64]; omega
        rw [← hp] at HST
        have hp200 : p ≤ 200 := by omega
        clear hp hB hBx HB12 HSr HCC HAt HCw hB9 HLf HLF
        go_wp2
        go_loopg [14] 16 (fun g v14 wx => ∃ j : Nat, j + g = 16 ∧ v14 = .int .i64 j ∧ Below wc.heap.size wc wx)
        case atStart => exact ⟨0, by omega, rfl, Below.refl _ _⟩
        case round =>
          obtain ⟨j, hj, rfl, hBy⟩ := hrel
          cases gk with
          | zero =>
            obtain rfl : j = 16 := by omega
            have hBz := hBw.trans (hBy.mono hBw.size)
            go_wp2
            go_roundg g2
            case rel => exact ⟨i + 1, by omega, by go_num, hBz⟩
            case measure => omega
          | succ g5 =>
            have hj16 : (j : Int) < 16 := by omega
            obtain ⟨hlt, hge⟩ := HST.out j (by omega)
            obtain ⟨b1, o1, rfl, c1⟩ := row_at2 (HSx.out.next hBy (Nat.le_refl _)) (i := p + j) hlt
            rw [hge] at c1
            have c2 := blk_at2 (H12.out.below hBy H12.out.lt) (i := j) (by rw [HF.out]; omega)
            have c3 := blk_at2 (H9.out.below hBy H9.out.lt) (i := j) (by rw [HF.out]; omega)
            generalize (strF key at' i).getD j 0 = x at *
            obtain ⟨r, hr⟩ : ∃ r, r = p + j := ⟨_, rfl⟩
            have hwr : IntKind.i64.wrap ((p : Int) + (j : Int)) = (r : Int) := by rw [IntKind.wrap_i64]; omega
            rw [← hr] at c1 hlt
            have hrq : (r : Int) < (q : Int) := by omega
            have hne : ((x.toNat : Int) != (x.toNat : Int)) = false := by simp
            clear hge hr
            go_wp2_with fail
            go_still (by kernel_rfl)
            change Exit.then _ _ _ _ wr.drew
            clear c1 c2 c3
            go_wp2
            go_roundg g5
            case rel => exact ⟨j + 1, by omega, by go_num, hBy.drew⟩
            case measure => omega
end Go.Proofs.Ytleplilcpcgacaa
