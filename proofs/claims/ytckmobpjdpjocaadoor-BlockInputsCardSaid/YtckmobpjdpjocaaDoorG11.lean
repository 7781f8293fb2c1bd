/- The contract of sacristanref04's Stream. -/
import Derived.Test.YtckmobpjdpjocaaDoorG10
import Derived.Test.YtckmobpjdpjocaaDoorG08
import Derived.Deep.CutRange
namespace Go.Proofs.YtckmobpjdpjocaaDoor
open Go.RowKit

set_option maxRecDepth 100000 in
set_option maxHeartbeats 4000000 in
theorem refstream_mid (KA : Option Addr) (kc : Nat) (BA : Option Addr) (bc : Nat) (key at' : List UInt8) (N : Nat) (w : World) (hc : CIs w w.heap.size KA kc (keysL boxB key) BA bc boxB) (ha : at'.length = 16) (hN : N ≤ 1048576 ∧ 0 < N) :
    Calls Tryd.prog 45 #[.agg #[.slice KA 11 kc, .slice BA 256 bc], .agg (cells8 at').toArray, .int .i64 (N : Int)] w fun e w' => ∃ v, e = .returned v ∧ w'.ownsRow w.heap.size 5 1 v N (cells8 (strL (strF key at') N)) ∧ Below w.heap.size w w' := by
  have HC : Kp _ := ⟨hc⟩
  have HA : Kp _ := ⟨ha⟩
  have HLa : Kp ((cells8 at').length = 16) := ⟨by rw [cells8_length]; exact ha⟩
  have HLc : Kp (([Value.slice KA 11 kc, .slice BA 256 bc] : List Value).length = 2) := ⟨rfl⟩
  clear hc ha
  go_enter Tryd.func45, Tryd.ntmps45
  go_wp2_with (with_reducible refine wpList_box (o := ⟨some 3, _, _, _, _, _⟩) (cs := [.slice KA 11 kc, .slice BA 256 bc]) rfl (.tmp 0) rfl rfl ?_)
  intro w1 hk1 hb1 hs1
  have HK1 : Kp _ := ⟨hk1⟩
  have HC1 : Kp _ := ⟨HC.out.next hb1⟩
  clear hk1 hs1 HC
  go_wp2_with (with_reducible refine wpList_box (o := ⟨some 4, _, _, _, _, _⟩) rfl (.tmp 1) rfl rfl ?_)
  intro w2 hk2 hb2 hs2
  have HT2 : Kp _ := ⟨hk2⟩
  have HK2 : Kp _ := ⟨HK1.out.below hb2 HK1.out.lt⟩
  have HC2 : Kp _ := ⟨HC1.out.next hb2⟩
  have hB2 : Below w.heap.size w w2 := hb1.trans (hb2.mono hb1.size)
  have n1 : w.heap.size < w1.heap.size := HK1.out.lt
  have n2 : w1.heap.size < w2.heap.size := hk2.lt
  obtain ⟨g1, hg1⟩ : ∃ g, g = w1.heap.size := ⟨_, rfl⟩
  obtain ⟨b0, hb0⟩ : ∃ b, b = w2.heap.size := ⟨_, rfl⟩
  rw [← hg1] at HT2 n1 n2 ⊢
  rw [← hb0] at n2
  have hle0 : b0 ≤ w2.heap.size := by rw [hb0]; exact Nat.le_refl _
  have HCi : Kp (∀ W, Below b0 w2 W → CIs W W.heap.size KA kc (keysL boxB key) BA bc boxB) := ⟨fun W hW => HC2.out.next (by rw [← hb0]; exact hW)⟩
  clear hk2 hs2 hb1 hb2 HK1 HC1 hg1 hb0 HC2
  have h0 : (0 : Int) < (N : Int) := by omega
  have h1 : (N : Int) ≤ 1048576 := by omega
  obtain ⟨K, hK⟩ : ∃ K : Nat, K = (N + 15) / 16 := ⟨_, rfl⟩
  have HKK : Kp (16 * K < N + 16 ∧ N ≤ 16 * K) := ⟨by omega⟩
  have HN : Kp (N ≤ 1048576) := ⟨by omega⟩
  clear hK
  go_wp2
  clear h0 h1
  go_loopg [7, 8] K (fun gk v7 v8 wr => ∃ i L : Nat, i + gk = K ∧ Kp (L = min (16 * i) N) ∧ v8 = .int .i64 i ∧ Hid (wr.ownsRow b0 5 1 v7 L (cells8 (strL (strF key at') L))) ∧ Below b0 w2 wr)
  case atStart => exact ⟨0, 0, by omega, ⟨by omega⟩, rfl, own_nil _ _ _, Below.refl _ _⟩
  case round =>
    obtain ⟨i, L, hig, hL, rfl, H, hB⟩ := hrel
    obtain ⟨A7, c7, rfl, hc7, hm7, hn7, hg7⟩ := own_form H.out
    cases gk with
    | zero =>
      have hLN : L = N := by have := HKK.out; have := hL.out; omega
      have hL2 : ¬ ((L : Int) < (N : Nat)) := by omega
      have H3 : Kp (wr.ownsRow w.heap.size 5 1 (.slice A7 L c7) N (cells8 (strL (strF key at') N))) := ⟨by have h := own_base H.out (show w.heap.size ≤ b0 by omega); rw [hLN] at h ⊢; exact h⟩
      have hBf : Below w.heap.size w wr := hB2.trans (hB.mono (by omega))
      clear H hLN hL hc7
      go_wp2
      go_ret
      exact ⟨_, rfl, H3.out, hBf⟩
    | succ g2 =>
      have hLI : L = 16 * i := by have := HKK.out; have := hL.out; omega
      have hLN : L < N := by have := HKK.out; have := hL.out; omega
      have hLN2 : (L : Int) < (N : Nat) := by omega
      have HLI : Kp (L = 16 * i) := ⟨hLI⟩
      have HCC : Kp _ := ⟨HK2.out.below hB (by omega)⟩
      have HAt : Kp _ := ⟨HT2.out.below hB n2⟩
      have hi63 : i ≤ 9223372036854775807 := by have := HN.out; omega
      have hsz := Nat.le_trans hle0 hB.size
      have hB9 : Below wr.heap.size wr wr := Below.refl _ _
      have HCw : Kp (∀ W, Below wr.heap.size wr W → CIs W W.heap.size KA kc (keysL boxB key) BA bc boxB) := ⟨fun W hW => HCi.out W (hB.trans (hW.mono hsz))⟩
      have hi6 : (i : Int) < 100000 := by have := HN.out; omega
      have HLf : Kp ((cells8 (blockL (keysL boxB key) boxB (nextL at' i))).length = 16) := ⟨by rw [cells8_length, blockL_length]⟩
      clear hL hLI
      go_upto_region 6 with fail
      go_cut [9] from 14 to 40 (fun v9 wx => ∃ g9, v9 = .pointer (some ⟨g9, 0, none⟩) ∧ Kp (Blk wx g9 39 (cells8 (strF key at' i))) ∧ wr.heap.size ≤ g9 ∧ Below wr.heap.size wr wx)
      case first =>
        go_wp2_with fail
        refine wp_region_any (by kernel_rfl) ?_
        change wpAny _ _ _ _ _ _ _ wr.drew
        replace HCC : Kp _ := ⟨HCC.out.drew⟩
        replace HAt : Kp _ := ⟨HAt.out.drew⟩
        replace hB9 := hB9.drew
        generalize wr.drew = wS at *
        refine wpAny_take (i := 2) (oi := ⟨some 22, _, _, _, _, _⟩) (v := ?_) rfl (by kernel_rfl) (by kernel_rfl) (by kernel_rfl) (fun _ _ _ h => h) (Or.inl ⟨by rfl, by intro w; go_simp; try rfl⟩) ?_
        try simp only [Act.put, List.setIfInBounds_toArray, List.set_cons_zero, List.set_cons_succ]
        refine wpAny_ready (rs := [0, 1, 5]) (by kernel_rfl) (by simp) ?_
        refine AllReady.cons (o := ⟨some 20, _, _, _, _, _⟩) rfl (fun K hK => ?_) (AllReady.cons (o := ⟨some 21, _, _, _, _, _⟩) rfl (fun K hK => ?_) (AllReady.cons (o := ⟨some 9, _, _, _, _, _⟩) rfl (fun K hK => ?_) AllReady.nil))
        · refine step_load rwC rfl (.tmp 3) rfl rfl HCC.out (fit_all HLc.out) (take_all HLc.out) ?_
          refine hK _ _ ?_
          clear hK K
          try simp only [Act.put, List.setIfInBounds_toArray, List.set_cons_zero, List.set_cons_succ]
          refine wpAny_ready (rs := [1, 5]) (by kernel_rfl) (by simp) ?_
          refine AllReady.cons (o := ⟨some 21, _, _, _, _, _⟩) rfl (fun K hK => ?_) (AllReady.cons (o := ⟨some 9, _, _, _, _, _⟩) rfl (fun K hK => ?_) AllReady.nil)
          · refine step_load rwNonce rfl (.tmp 4) rfl rfl HAt.out (fit_all HLa.out) (take_all HLa.out) ?_
            refine hK _ _ ?_
            clear hK K
            try simp only [Act.put, List.setIfInBounds_toArray, List.set_cons_zero, List.set_cons_succ]
            refine wpAny_ready (rs := [3, 5]) (by kernel_rfl) (by simp) ?_
            refine AllReady.cons (o := ⟨some 23, _, _, _, _, _⟩) rfl (fun K hK => ?_) (AllReady.cons (o := ⟨some 9, _, _, _, _, _⟩) rfl (fun K hK => ?_) AllReady.nil)
            · go_simp
              refine (refnext_mid at' i wS HA.out hi63).mono ?_
              rintro e w61 ⟨rfl, hb'⟩
              refine hK _ _ ?_
              clear hK K
              try simp only [Act.put, List.setIfInBounds_toArray, List.set_cons_zero, List.set_cons_succ]
              replace HCC : Kp _ := ⟨HCC.out.below hb' HCC.out.lt⟩
              replace HAt : Kp _ := ⟨HAt.out.below hb' HAt.out.lt⟩
              replace hB9 := hB9.trans (hb'.mono hB9.size)
              try replace H9 : Kp _ := ⟨H9.out.below hb' H9.out.lt⟩
              clear hb'
              refine wpAny_ready (rs := [4, 5]) (by kernel_rfl) (by simp) ?_
              refine AllReady.cons (o := ⟨some 24, _, _, _, _, _⟩) rfl (fun K hK => ?_) (AllReady.cons (o := ⟨some 9, _, _, _, _, _⟩) rfl (fun K hK => ?_) AllReady.nil)
              · go_simp
                refine (refblock_any KA kc (keysL boxB key) BA bc boxB (nextL at' i) w61 (HCw.out _ hB9) (nextL_length _ _)).mono ?_
                rintro e w62 ⟨rfl, hb'⟩
                refine hK _ _ ?_
                clear hK K
                try simp only [Act.put, List.setIfInBounds_toArray, List.set_cons_zero, List.set_cons_succ]
                replace HCC : Kp _ := ⟨HCC.out.below hb' HCC.out.lt⟩
                replace HAt : Kp _ := ⟨HAt.out.below hb' HAt.out.lt⟩
                replace hB9 := hB9.trans (hb'.mono hB9.size)
                try replace H9 : Kp _ := ⟨H9.out.below hb' H9.out.lt⟩
                clear hb'
                refine wpAny_ready (rs := [5]) (by kernel_rfl) (by simp) ?_
                refine AllReady.cons (o := ⟨some 9, _, _, _, _, _⟩) rfl (fun K hK => ?_) AllReady.nil
                refine step_alloc tyNonce rfl rfl ?_
                intro w63 hk hb'
                refine hK _ _ ?_
                clear hK K
                try simp only [Act.put, List.setIfInBounds_toArray, List.set_cons_zero, List.set_cons_succ]
                have hg9 := hB9.size
                replace HCC : Kp _ := ⟨HCC.out.below hb' HCC.out.lt⟩
                replace HAt : Kp _ := ⟨HAt.out.below hb' HAt.out.lt⟩
                replace hB9 := hB9.trans (hb'.mono hB9.size)
                have H9 : Kp _ := ⟨hk⟩
                clear hk
                clear hb'
                refine wpAny_ready (rs := [6]) (by kernel_rfl) (by simp) ?_
                refine AllReady.cons (o := ⟨none, _, _, _, _, _⟩) rfl (fun K hK => ?_) AllReady.nil
                refine step_store rwNonce rfl (.tmp 9) (.tmp 24) rfl rfl rfl H9.out HLf.out (by show 0 + 16 ≤ 16; decide) (cells8_one _) ?_
                intro w64 hk ho
                refine hK _ _ ?_
                clear hK K
                simp only [Act.put]
                have H9f : Kp _ := ⟨hk⟩
                replace hB9 := hB9.trans (ho.below hg9)
                clear hk ho
                refine wpAny_done (by kernel_rfl) ?_ _
                rw [store_all16 rfl HLf.out] at H9f
                go_wp2_with fail
                go_meet
                case rel => exact ⟨_, rfl, H9f, hg9, hB9⟩
              · refine step_alloc tyNonce rfl rfl ?_
                intro w65 hk hb'
                refine hK _ _ ?_
                clear hK K
                try simp only [Act.put, List.setIfInBounds_toArray, List.set_cons_zero, List.set_cons_succ]
                have hg9 := hB9.size
                replace HCC : Kp _ := ⟨HCC.out.below hb' HCC.out.lt⟩
                replace HAt : Kp _ := ⟨HAt.out.below hb' HAt.out.lt⟩
                replace hB9 := hB9.trans (hb'.mono hB9.size)
                have H9 : Kp _ := ⟨hk⟩
                clear hk
                clear hb'
                refine wpAny_ready (rs := [4]) (by kernel_rfl) (by simp) ?_
                refine AllReady.cons (o := ⟨some 24, _, _, _, _, _⟩) rfl (fun K hK => ?_) AllReady.nil
                go_simp
                refine (refblock_any KA kc (keysL boxB key) BA bc boxB (nextL at' i) w65 (HCw.out _ hB9) (nextL_length _ _)).mono ?_
                rintro e w66 ⟨rfl, hb'⟩
                refine hK _ _ ?_
                clear hK K
                try simp only [Act.put, List.setIfInBounds_toArray, List.set_cons_zero, List.set_cons_succ]
                replace HCC : Kp _ := ⟨HCC.out.below hb' HCC.out.lt⟩
                replace HAt : Kp _ := ⟨HAt.out.below hb' HAt.out.lt⟩
                replace hB9 := hB9.trans (hb'.mono hB9.size)
                try replace H9 : Kp _ := ⟨H9.out.below hb' H9.out.lt⟩
                clear hb'
                refine wpAny_ready (rs := [6]) (by kernel_rfl) (by simp) ?_
                refine AllReady.cons (o := ⟨none, _, _, _, _, _⟩) rfl (fun K hK => ?_) AllReady.nil
                refine step_store rwNonce rfl (.tmp 9) (.tmp 24) rfl rfl rfl H9.out HLf.out (by show 0 + 16 ≤ 16; decide) (cells8_one _) ?_
                intro w67 hk ho
                refine hK _ _ ?_
                clear hK K
                simp only [Act.put]
                have H9f : Kp _ := ⟨hk⟩
                replace hB9 := hB9.trans (ho.below hg9)
                clear hk ho
                refine wpAny_done (by kernel_rfl) ?_ _
                rw [store_all16 rfl HLf.out] at H9f
                go_wp2_with fail
                go_meet
                case rel => exact ⟨_, rfl, H9f, hg9, hB9⟩
            · refine step_alloc tyNonce rfl rfl ?_
              intro w68 hk hb'
              refine hK _ _ ?_
              clear hK K
              try simp only [Act.put, List.setIfInBounds_toArray, List.set_cons_zero, List.set_cons_succ]
              have hg9 := hB9.size
              replace HCC : Kp _ := ⟨HCC.out.below hb' HCC.out.lt⟩
              replace HAt : Kp _ := ⟨HAt.out.below hb' HAt.out.lt⟩
              replace hB9 := hB9.trans (hb'.mono hB9.size)
              have H9 : Kp _ := ⟨hk⟩
              clear hk
              clear hb'
              refine wpAny_ready (rs := [3]) (by kernel_rfl) (by simp) ?_
              refine AllReady.cons (o := ⟨some 23, _, _, _, _, _⟩) rfl (fun K hK => ?_) AllReady.nil
              go_simp
              refine (refnext_mid at' i w68 HA.out hi63).mono ?_
              rintro e w69 ⟨rfl, hb'⟩
              refine hK _ _ ?_
              clear hK K
              try simp only [Act.put, List.setIfInBounds_toArray, List.set_cons_zero, List.set_cons_succ]
              replace HCC : Kp _ := ⟨HCC.out.below hb' HCC.out.lt⟩
              replace HAt : Kp _ := ⟨HAt.out.below hb' HAt.out.lt⟩
              replace hB9 := hB9.trans (hb'.mono hB9.size)
              try replace H9 : Kp _ := ⟨H9.out.below hb' H9.out.lt⟩
              clear hb'
              refine wpAny_ready (rs := [4]) (by kernel_rfl) (by simp) ?_
              refine AllReady.cons (o := ⟨some 24, _, _, _, _, _⟩) rfl (fun K hK => ?_) AllReady.nil
              go_simp
              refine (refblock_any KA kc (keysL boxB key) BA bc boxB (nextL at' i) w69 (HCw.out _ hB9) (nextL_length _ _)).mono ?_
              rintro e w70 ⟨rfl, hb'⟩
              refine hK _ _ ?_
              clear hK K
              try simp only [Act.put, List.setIfInBounds_toArray, List.set_cons_zero, List.set_cons_succ]
              replace HCC : Kp _ := ⟨HCC.out.below hb' HCC.out.lt⟩
              replace HAt : Kp _ := ⟨HAt.out.below hb' HAt.out.lt⟩
              replace hB9 := hB9.trans (hb'.mono hB9.size)
              try replace H9 : Kp _ := ⟨H9.out.below hb' H9.out.lt⟩
              clear hb'
              refine wpAny_ready (rs := [6]) (by kernel_rfl) (by simp) ?_
              refine AllReady.cons (o := ⟨none, _, _, _, _, _⟩) rfl (fun K hK => ?_) AllReady.nil
              refine step_store rwNonce rfl (.tmp 9) (.tmp 24) rfl rfl rfl H9.out HLf.out (by show 0 + 16 ≤ 16; decide) (cells8_one _) ?_
              intro w71 hk ho
              refine hK _ _ ?_
              clear hK K
              simp only [Act.put]
              have H9f : Kp _ := ⟨hk⟩
              replace hB9 := hB9.trans (ho.below hg9)
              clear hk ho
              refine wpAny_done (by kernel_rfl) ?_ _
              rw [store_all16 rfl HLf.out] at H9f
              go_wp2_with fail
              go_meet
              case rel => exact ⟨_, rfl, H9f, hg9, hB9⟩
          · refine step_alloc tyNonce rfl rfl ?_
            intro w72 hk hb'
            refine hK _ _ ?_
            clear hK K
            try simp only [Act.put, List.setIfInBounds_toArray, List.set_cons_zero, List.set_cons_succ]
            have hg9 := hB9.size
            replace HCC : Kp _ := ⟨HCC.out.below hb' HCC.out.lt⟩
            replace HAt : Kp _ := ⟨HAt.out.below hb' HAt.out.lt⟩
            replace hB9 := hB9.trans (hb'.mono hB9.size)
            have H9 : Kp _ := ⟨hk⟩
            clear hk
            clear hb'
            refine wpAny_ready (rs := [1]) (by kernel_rfl) (by simp) ?_
            refine AllReady.cons (o := ⟨some 21, _, _, _, _, _⟩) rfl (fun K hK => ?_) AllReady.nil
            refine step_load rwNonce rfl (.tmp 4) rfl rfl HAt.out (fit_all HLa.out) (take_all HLa.out) ?_
            refine hK _ _ ?_
            clear hK K
            try simp only [Act.put, List.setIfInBounds_toArray, List.set_cons_zero, List.set_cons_succ]
            refine wpAny_ready (rs := [3]) (by kernel_rfl) (by simp) ?_
            refine AllReady.cons (o := ⟨some 23, _, _, _, _, _⟩) rfl (fun K hK => ?_) AllReady.nil
            go_simp
            refine (refnext_mid at' i w72 HA.out hi63).mono ?_
            rintro e w73 ⟨rfl, hb'⟩
            refine hK _ _ ?_
            clear hK K
            try simp only [Act.put, List.setIfInBounds_toArray, List.set_cons_zero, List.set_cons_succ]
            replace HCC : Kp _ := ⟨HCC.out.below hb' HCC.out.lt⟩
            replace HAt : Kp _ := ⟨HAt.out.below hb' HAt.out.lt⟩
            replace hB9 := hB9.trans (hb'.mono hB9.size)
            try replace H9 : Kp _ := ⟨H9.out.below hb' H9.out.lt⟩
            clear hb'
            refine wpAny_ready (rs := [4]) (by kernel_rfl) (by simp) ?_
            refine AllReady.cons (o := ⟨some 24, _, _, _, _, _⟩) rfl (fun K hK => ?_) AllReady.nil
            go_simp
            refine (refblock_any KA kc (keysL boxB key) BA bc boxB (nextL at' i) w73 (HCw.out _ hB9) (nextL_length _ _)).mono ?_
            rintro e w74 ⟨rfl, hb'⟩
            refine hK _ _ ?_
            clear hK K
            try simp only [Act.put, List.setIfInBounds_toArray, List.set_cons_zero, List.set_cons_succ]
            replace HCC : Kp _ := ⟨HCC.out.below hb' HCC.out.lt⟩
            replace HAt : Kp _ := ⟨HAt.out.below hb' HAt.out.lt⟩
            replace hB9 := hB9.trans (hb'.mono hB9.size)
            try replace H9 : Kp _ := ⟨H9.out.below hb' H9.out.lt⟩
            clear hb'
            refine wpAny_ready (rs := [6]) (by kernel_rfl) (by simp) ?_
            refine AllReady.cons (o := ⟨none, _, _, _, _, _⟩) rfl (fun K hK => ?_) AllReady.nil
            refine step_store rwNonce rfl (.tmp 9) (.tmp 24) rfl rfl rfl H9.out HLf.out (by show 0 + 16 ≤ 16; decide) (cells8_one _) ?_
            intro w75 hk ho
            refine hK _ _ ?_
            clear hK K
            simp only [Act.put]
            have H9f : Kp _ := ⟨hk⟩
            replace hB9 := hB9.trans (ho.below hg9)
            clear hk ho
            refine wpAny_done (by kernel_rfl) ?_ _
            rw [store_all16 rfl HLf.out] at H9f
            go_wp2_with fail
            go_meet
            case rel => exact ⟨_, rfl, H9f, hg9, hB9⟩
        · refine step_load rwNonce rfl (.tmp 4) rfl rfl HAt.out (fit_all HLa.out) (take_all HLa.out) ?_
          refine hK _ _ ?_
          clear hK K
          try simp only [Act.put, List.setIfInBounds_toArray, List.set_cons_zero, List.set_cons_succ]
          refine wpAny_ready (rs := [0, 3, 5]) (by kernel_rfl) (by simp) ?_
          refine AllReady.cons (o := ⟨some 20, _, _, _, _, _⟩) rfl (fun K hK => ?_) (AllReady.cons (o := ⟨some 23, _, _, _, _, _⟩) rfl (fun K hK => ?_) (AllReady.cons (o := ⟨some 9, _, _, _, _, _⟩) rfl (fun K hK => ?_) AllReady.nil))
          · refine step_load rwC rfl (.tmp 3) rfl rfl HCC.out (fit_all HLc.out) (take_all HLc.out) ?_
            refine hK _ _ ?_
            clear hK K
            try simp only [Act.put, List.setIfInBounds_toArray, List.set_cons_zero, List.set_cons_succ]
            refine wpAny_ready (rs := [3, 5]) (by kernel_rfl) (by simp) ?_
            refine AllReady.cons (o := ⟨some 23, _, _, _, _, _⟩) rfl (fun K hK => ?_) (AllReady.cons (o := ⟨some 9, _, _, _, _, _⟩) rfl (fun K hK => ?_) AllReady.nil)
            · go_simp
              refine (refnext_mid at' i wS HA.out hi63).mono ?_
              rintro e w76 ⟨rfl, hb'⟩
              refine hK _ _ ?_
              clear hK K
              try simp only [Act.put, List.setIfInBounds_toArray, List.set_cons_zero, List.set_cons_succ]
              replace HCC : Kp _ := ⟨HCC.out.below hb' HCC.out.lt⟩
              replace HAt : Kp _ := ⟨HAt.out.below hb' HAt.out.lt⟩
              replace hB9 := hB9.trans (hb'.mono hB9.size)
              try replace H9 : Kp _ := ⟨H9.out.below hb' H9.out.lt⟩
              clear hb'
              refine wpAny_ready (rs := [4, 5]) (by kernel_rfl) (by simp) ?_
              refine AllReady.cons (o := ⟨some 24, _, _, _, _, _⟩) rfl (fun K hK => ?_) (AllReady.cons (o := ⟨some 9, _, _, _, _, _⟩) rfl (fun K hK => ?_) AllReady.nil)
              · go_simp
                refine (refblock_any KA kc (keysL boxB key) BA bc boxB (nextL at' i) w76 (HCw.out _ hB9) (nextL_length _ _)).mono ?_
                rintro e w77 ⟨rfl, hb'⟩
                refine hK _ _ ?_
                clear hK K
                try simp only [Act.put, List.setIfInBounds_toArray, List.set_cons_zero, List.set_cons_succ]
                replace HCC : Kp _ := ⟨HCC.out.below hb' HCC.out.lt⟩
                replace HAt : Kp _ := ⟨HAt.out.below hb' HAt.out.lt⟩
                replace hB9 := hB9.trans (hb'.mono hB9.size)
                try replace H9 : Kp _ := ⟨H9.out.below hb' H9.out.lt⟩
                clear hb'
                refine wpAny_ready (rs := [5]) (by kernel_rfl) (by simp) ?_
                refine AllReady.cons (o := ⟨some 9, _, _, _, _, _⟩) rfl (fun K hK => ?_) AllReady.nil
                refine step_alloc tyNonce rfl rfl ?_
                intro w78 hk hb'
                refine hK _ _ ?_
                clear hK K
                try simp only [Act.put, List.setIfInBounds_toArray, List.set_cons_zero, List.set_cons_succ]
                have hg9 := hB9.size
                replace HCC : Kp _ := ⟨HCC.out.below hb' HCC.out.lt⟩
                replace HAt : Kp _ := ⟨HAt.out.below hb' HAt.out.lt⟩
                replace hB9 := hB9.trans (hb'.mono hB9.size)
                have H9 : Kp _ := ⟨hk⟩
                clear hk
                clear hb'
                refine wpAny_ready (rs := [6]) (by kernel_rfl) (by simp) ?_
                refine AllReady.cons (o := ⟨none, _, _, _, _, _⟩) rfl (fun K hK => ?_) AllReady.nil
                refine step_store rwNonce rfl (.tmp 9) (.tmp 24) rfl rfl rfl H9.out HLf.out (by show 0 + 16 ≤ 16; decide) (cells8_one _) ?_
                intro w79 hk ho
                refine hK _ _ ?_
                clear hK K
                simp only [Act.put]
                have H9f : Kp _ := ⟨hk⟩
                replace hB9 := hB9.trans (ho.below hg9)
                clear hk ho
                refine wpAny_done (by kernel_rfl) ?_ _
                rw [store_all16 rfl HLf.out] at H9f
                go_wp2_with fail
                go_meet
                case rel => exact ⟨_, rfl, H9f, hg9, hB9⟩
              · refine step_alloc tyNonce rfl rfl ?_
                intro w80 hk hb'
                refine hK _ _ ?_
                clear hK K
                try simp only [Act.put, List.setIfInBounds_toArray, List.set_cons_zero, List.set_cons_succ]
                have hg9 := hB9.size
                replace HCC : Kp _ := ⟨HCC.out.below hb' HCC.out.lt⟩
                replace HAt : Kp _ := ⟨HAt.out.below hb' HAt.out.lt⟩
                replace hB9 := hB9.trans (hb'.mono hB9.size)
                have H9 : Kp _ := ⟨hk⟩
                clear hk
                clear hb'
                refine wpAny_ready (rs := [4]) (by kernel_rfl) (by simp) ?_
                refine AllReady.cons (o := ⟨some 24, _, _, _, _, _⟩) rfl (fun K hK => ?_) AllReady.nil
                go_simp
                refine (refblock_any KA kc (keysL boxB key) BA bc boxB (nextL at' i) w80 (HCw.out _ hB9) (nextL_length _ _)).mono ?_
                rintro e w81 ⟨rfl, hb'⟩
                refine hK _ _ ?_
                clear hK K
                try simp only [Act.put, List.setIfInBounds_toArray, List.set_cons_zero, List.set_cons_succ]
                replace HCC : Kp _ := ⟨HCC.out.below hb' HCC.out.lt⟩
                replace HAt : Kp _ := ⟨HAt.out.below hb' HAt.out.lt⟩
                replace hB9 := hB9.trans (hb'.mono hB9.size)
                try replace H9 : Kp _ := ⟨H9.out.below hb' H9.out.lt⟩
                clear hb'
                refine wpAny_ready (rs := [6]) (by kernel_rfl) (by simp) ?_
                refine AllReady.cons (o := ⟨none, _, _, _, _, _⟩) rfl (fun K hK => ?_) AllReady.nil
                refine step_store rwNonce rfl (.tmp 9) (.tmp 24) rfl rfl rfl H9.out HLf.out (by show 0 + 16 ≤ 16; decide) (cells8_one _) ?_
                intro w82 hk ho
                refine hK _ _ ?_
                clear hK K
                simp only [Act.put]
                have H9f : Kp _ := ⟨hk⟩
                replace hB9 := hB9.trans (ho.below hg9)
                clear hk ho
                refine wpAny_done (by kernel_rfl) ?_ _
                rw [store_all16 rfl HLf.out] at H9f
                go_wp2_with fail
                go_meet
                case rel => exact ⟨_, rfl, H9f, hg9, hB9⟩
            · refine step_alloc tyNonce rfl rfl ?_
              intro w83 hk hb'
              refine hK _ _ ?_
              clear hK K
              try simp only [Act.put, List.setIfInBounds_toArray, List.set_cons_zero, List.set_cons_succ]
              have hg9 := hB9.size
              replace HCC : Kp _ := ⟨HCC.out.below hb' HCC.out.lt⟩
              replace HAt : Kp _ := ⟨HAt.out.below hb' HAt.out.lt⟩
              replace hB9 := hB9.trans (hb'.mono hB9.size)
              have H9 : Kp _ := ⟨hk⟩
              clear hk
              clear hb'
              refine wpAny_ready (rs := [3]) (by kernel_rfl) (by simp) ?_
              refine AllReady.cons (o := ⟨some 23, _, _, _, _, _⟩) rfl (fun K hK => ?_) AllReady.nil
              go_simp
              refine (refnext_mid at' i w83 HA.out hi63).mono ?_
              rintro e w84 ⟨rfl, hb'⟩
              refine hK _ _ ?_
              clear hK K
              try simp only [Act.put, List.setIfInBounds_toArray, List.set_cons_zero, List.set_cons_succ]
              replace HCC : Kp _ := ⟨HCC.out.below hb' HCC.out.lt⟩
              replace HAt : Kp _ := ⟨HAt.out.below hb' HAt.out.lt⟩
              replace hB9 := hB9.trans (hb'.mono hB9.size)
              try replace H9 : Kp _ := ⟨H9.out.below hb' H9.out.lt⟩
              clear hb'
              refine wpAny_ready (rs := [4]) (by kernel_rfl) (by simp) ?_
              refine AllReady.cons (o := ⟨some 24, _, _, _, _, _⟩) rfl (fun K hK => ?_) AllReady.nil
              go_simp
              refine (refblock_any KA kc (keysL boxB key) BA bc boxB (nextL at' i) w84 (HCw.out _ hB9) (nextL_length _ _)).mono ?_
              rintro e w85 ⟨rfl, hb'⟩
              refine hK _ _ ?_
              clear hK K
              try simp only [Act.put, List.setIfInBounds_toArray, List.set_cons_zero, List.set_cons_succ]
              replace HCC : Kp _ := ⟨HCC.out.below hb' HCC.out.lt⟩
              replace HAt : Kp _ := ⟨HAt.out.below hb' HAt.out.lt⟩
              replace hB9 := hB9.trans (hb'.mono hB9.size)
              try replace H9 : Kp _ := ⟨H9.out.below hb' H9.out.lt⟩
              clear hb'
              refine wpAny_ready (rs := [6]) (by kernel_rfl) (by simp) ?_
              refine AllReady.cons (o := ⟨none, _, _, _, _, _⟩) rfl (fun K hK => ?_) AllReady.nil
              refine step_store rwNonce rfl (.tmp 9) (.tmp 24) rfl rfl rfl H9.out HLf.out (by show 0 + 16 ≤ 16; decide) (cells8_one _) ?_
              intro w86 hk ho
              refine hK _ _ ?_
              clear hK K
              simp only [Act.put]
              have H9f : Kp _ := ⟨hk⟩
              replace hB9 := hB9.trans (ho.below hg9)
              clear hk ho
              refine wpAny_done (by kernel_rfl) ?_ _
              rw [store_all16 rfl HLf.out] at H9f
              go_wp2_with fail
              go_meet
              case rel => exact ⟨_, rfl, H9f, hg9, hB9⟩
          · go_simp
            refine (refnext_mid at' i wS HA.out hi63).mono ?_
            rintro e w87 ⟨rfl, hb'⟩
            refine hK _ _ ?_
            clear hK K
            try simp only [Act.put, List.setIfInBounds_toArray, List.set_cons_zero, List.set_cons_succ]
            replace HCC : Kp _ := ⟨HCC.out.below hb' HCC.out.lt⟩
            replace HAt : Kp _ := ⟨HAt.out.below hb' HAt.out.lt⟩
            replace hB9 := hB9.trans (hb'.mono hB9.size)
            try replace H9 : Kp _ := ⟨H9.out.below hb' H9.out.lt⟩
            clear hb'
            refine wpAny_ready (rs := [0, 5]) (by kernel_rfl) (by simp) ?_
            refine AllReady.cons (o := ⟨some 20, _, _, _, _, _⟩) rfl (fun K hK => ?_) (AllReady.cons (o := ⟨some 9, _, _, _, _, _⟩) rfl (fun K hK => ?_) AllReady.nil)
            · refine step_load rwC rfl (.tmp 3) rfl rfl HCC.out (fit_all HLc.out) (take_all HLc.out) ?_
              refine hK _ _ ?_
              clear hK K
              try simp only [Act.put, List.setIfInBounds_toArray, List.set_cons_zero, List.set_cons_succ]
              refine wpAny_ready (rs := [4, 5]) (by kernel_rfl) (by simp) ?_
              refine AllReady.cons (o := ⟨some 24, _, _, _, _, _⟩) rfl (fun K hK => ?_) (AllReady.cons (o := ⟨some 9, _, _, _, _, _⟩) rfl (fun K hK => ?_) AllReady.nil)
              · go_simp
                refine (refblock_any KA kc (keysL boxB key) BA bc boxB (nextL at' i) w87 (HCw.out _ hB9) (nextL_length _ _)).mono ?_
                rintro e w88 ⟨rfl, hb'⟩
                refine hK _ _ ?_
                clear hK K
                try simp only [Act.put, List.setIfInBounds_toArray, List.set_cons_zero, List.set_cons_succ]
                replace HCC : Kp _ := ⟨HCC.out.below hb' HCC.out.lt⟩
                replace HAt : Kp _ := ⟨HAt.out.below hb' HAt.out.lt⟩
                replace hB9 := hB9.trans (hb'.mono hB9.size)
                try replace H9 : Kp _ := ⟨H9.out.below hb' H9.out.lt⟩
                clear hb'
                refine wpAny_ready (rs := [5]) (by kernel_rfl) (by simp) ?_
                refine AllReady.cons (o := ⟨some 9, _, _, _, _, _⟩) rfl (fun K hK => ?_) AllReady.nil
                refine step_alloc tyNonce rfl rfl ?_
                intro w89 hk hb'
                refine hK _ _ ?_
                clear hK K
                try simp only [Act.put, List.setIfInBounds_toArray, List.set_cons_zero, List.set_cons_succ]
                have hg9 := hB9.size
                replace HCC : Kp _ := ⟨HCC.out.below hb' HCC.out.lt⟩
                replace HAt : Kp _ := ⟨HAt.out.below hb' HAt.out.lt⟩
                replace hB9 := hB9.trans (hb'.mono hB9.size)
                have H9 : Kp _ := ⟨hk⟩
                clear hk
                clear hb'
                refine wpAny_ready (rs := [6]) (by kernel_rfl) (by simp) ?_
                refine AllReady.cons (o := ⟨none, _, _, _, _, _⟩) rfl (fun K hK => ?_) AllReady.nil
                refine step_store rwNonce rfl (.tmp 9) (.tmp 24) rfl rfl rfl H9.out HLf.out (by show 0 + 16 ≤ 16; decide) (cells8_one _) ?_
                intro w90 hk ho
                refine hK _ _ ?_
                clear hK K
                simp only [Act.put]
                have H9f : Kp _ := ⟨hk⟩
                replace hB9 := hB9.trans (ho.below hg9)
                clear hk ho
                refine wpAny_done (by kernel_rfl) ?_ _
                rw [store_all16 rfl HLf.out] at H9f
                go_wp2_with fail
                go_meet
                case rel => exact ⟨_, rfl, H9f, hg9, hB9⟩
              · refine step_alloc tyNonce rfl rfl ?_
                intro w91 hk hb'
                refine hK _ _ ?_
                clear hK K
                try simp only [Act.put, List.setIfInBounds_toArray, List.set_cons_zero, List.set_cons_succ]
                have hg9 := hB9.size
                replace HCC : Kp _ := ⟨HCC.out.below hb' HCC.out.lt⟩
                replace HAt : Kp _ := ⟨HAt.out.below hb' HAt.out.lt⟩
                replace hB9 := hB9.trans (hb'.mono hB9.size)
                have H9 : Kp _ := ⟨hk⟩
                clear hk
                clear hb'
                refine wpAny_ready (rs := [4]) (by kernel_rfl) (by simp) ?_
                refine AllReady.cons (o := ⟨some 24, _, _, _, _, _⟩) rfl (fun K hK => ?_) AllReady.nil
                go_simp
                refine (refblock_any KA kc (keysL boxB key) BA bc boxB (nextL at' i) w91 (HCw.out _ hB9) (nextL_length _ _)).mono ?_
                rintro e w92 ⟨rfl, hb'⟩
                refine hK _ _ ?_
                clear hK K
                try simp only [Act.put, List.setIfInBounds_toArray, List.set_cons_zero, List.set_cons_succ]
                replace HCC : Kp _ := ⟨HCC.out.below hb' HCC.out.lt⟩
                replace HAt : Kp _ := ⟨HAt.out.below hb' HAt.out.lt⟩
                replace hB9 := hB9.trans (hb'.mono hB9.size)
                try replace H9 : Kp _ := ⟨H9.out.below hb' H9.out.lt⟩
                clear hb'
                refine wpAny_ready (rs := [6]) (by kernel_rfl) (by simp) ?_
                refine AllReady.cons (o := ⟨none, _, _, _, _, _⟩) rfl (fun K hK => ?_) AllReady.nil
                refine step_store rwNonce rfl (.tmp 9) (.tmp 24) rfl rfl rfl H9.out HLf.out (by show 0 + 16 ≤ 16; decide) (cells8_one _) ?_
                intro w93 hk ho
                refine hK _ _ ?_
                clear hK K
                simp only [Act.put]
                have H9f : Kp _ := ⟨hk⟩
                replace hB9 := hB9.trans (ho.below hg9)
                clear hk ho
                refine wpAny_done (by kernel_rfl) ?_ _
                rw [store_all16 rfl HLf.out] at H9f
                go_wp2_with fail
                go_meet
                case rel => exact ⟨_, rfl, H9f, hg9, hB9⟩
            · refine step_alloc tyNonce rfl rfl ?_
              intro w94 hk hb'
              refine hK _ _ ?_
              clear hK K
              try simp only [Act.put, List.setIfInBounds_toArray, List.set_cons_zero, List.set_cons_succ]
              have hg9 := hB9.size
              replace HCC : Kp _ := ⟨HCC.out.below hb' HCC.out.lt⟩
              replace HAt : Kp _ := ⟨HAt.out.below hb' HAt.out.lt⟩
              replace hB9 := hB9.trans (hb'.mono hB9.size)
              have H9 : Kp _ := ⟨hk⟩
              clear hk
              clear hb'
              refine wpAny_ready (rs := [0]) (by kernel_rfl) (by simp) ?_
              refine AllReady.cons (o := ⟨some 20, _, _, _, _, _⟩) rfl (fun K hK => ?_) AllReady.nil
              refine step_load rwC rfl (.tmp 3) rfl rfl HCC.out (fit_all HLc.out) (take_all HLc.out) ?_
              refine hK _ _ ?_
              clear hK K
              try simp only [Act.put, List.setIfInBounds_toArray, List.set_cons_zero, List.set_cons_succ]
              refine wpAny_ready (rs := [4]) (by kernel_rfl) (by simp) ?_
              refine AllReady.cons (o := ⟨some 24, _, _, _, _, _⟩) rfl (fun K hK => ?_) AllReady.nil
              go_simp
              refine (refblock_any KA kc (keysL boxB key) BA bc boxB (nextL at' i) w94 (HCw.out _ hB9) (nextL_length _ _)).mono ?_
              rintro e w95 ⟨rfl, hb'⟩
              refine hK _ _ ?_
              clear hK K
              try simp only [Act.put, List.setIfInBounds_toArray, List.set_cons_zero, List.set_cons_succ]
              replace HCC : Kp _ := ⟨HCC.out.below hb' HCC.out.lt⟩
              replace HAt : Kp _ := ⟨HAt.out.below hb' HAt.out.lt⟩
              replace hB9 := hB9.trans (hb'.mono hB9.size)
              try replace H9 : Kp _ := ⟨H9.out.below hb' H9.out.lt⟩
              clear hb'
              refine wpAny_ready (rs := [6]) (by kernel_rfl) (by simp) ?_
              refine AllReady.cons (o := ⟨none, _, _, _, _, _⟩) rfl (fun K hK => ?_) AllReady.nil
              refine step_store rwNonce rfl (.tmp 9) (.tmp 24) rfl rfl rfl H9.out HLf.out (by show 0 + 16 ≤ 16; decide) (cells8_one _) ?_
              intro w96 hk ho
              refine hK _ _ ?_
              clear hK K
              simp only [Act.put]
              have H9f : Kp _ := ⟨hk⟩
              replace hB9 := hB9.trans (ho.below hg9)
              clear hk ho
              refine wpAny_done (by kernel_rfl) ?_ _
              rw [store_all16 rfl HLf.out] at H9f
              go_wp2_with fail
              go_meet
              case rel => exact ⟨_, rfl, H9f, hg9, hB9⟩
          · refine step_alloc tyNonce rfl rfl ?_
            intro w97 hk hb'
            refine hK _ _ ?_
            clear hK K
            try simp only [Act.put, List.setIfInBounds_toArray, List.set_cons_zero, List.set_cons_succ]
            have hg9 := hB9.size
            replace HCC : Kp _ := ⟨HCC.out.below hb' HCC.out.lt⟩
            replace HAt : Kp _ := ⟨HAt.out.below hb' HAt.out.lt⟩
            replace hB9 := hB9.trans (hb'.mono hB9.size)
            have H9 : Kp _ := ⟨hk⟩
            clear hk
            clear hb'
            refine wpAny_ready (rs := [0, 3]) (by kernel_rfl) (by simp) ?_
            refine AllReady.cons (o := ⟨some 20, _, _, _, _, _⟩) rfl (fun K hK => ?_) (AllReady.cons (o := ⟨some 23, _, _, _, _, _⟩) rfl (fun K hK => ?_) AllReady.nil)
            · refine step_load rwC rfl (.tmp 3) rfl rfl HCC.out (fit_all HLc.out) (take_all HLc.out) ?_
              refine hK _ _ ?_
              clear hK K
              try simp only [Act.put, List.setIfInBounds_toArray, List.set_cons_zero, List.set_cons_succ]
              refine wpAny_ready (rs := [3]) (by kernel_rfl) (by simp) ?_
              refine AllReady.cons (o := ⟨some 23, _, _, _, _, _⟩) rfl (fun K hK => ?_) AllReady.nil
              go_simp
              refine (refnext_mid at' i w97 HA.out hi63).mono ?_
              rintro e w98 ⟨rfl, hb'⟩
              refine hK _ _ ?_
              clear hK K
              try simp only [Act.put, List.setIfInBounds_toArray, List.set_cons_zero, List.set_cons_succ]
              replace HCC : Kp _ := ⟨HCC.out.below hb' HCC.out.lt⟩
              replace HAt : Kp _ := ⟨HAt.out.below hb' HAt.out.lt⟩
              replace hB9 := hB9.trans (hb'.mono hB9.size)
              try replace H9 : Kp _ := ⟨H9.out.below hb' H9.out.lt⟩
              clear hb'
              refine wpAny_ready (rs := [4]) (by kernel_rfl) (by simp) ?_
              refine AllReady.cons (o := ⟨some 24, _, _, _, _, _⟩) rfl (fun K hK => ?_) AllReady.nil
              go_simp
              refine (refblock_any KA kc (keysL boxB key) BA bc boxB (nextL at' i) w98 (HCw.out _ hB9) (nextL_length _ _)).mono ?_
              rintro e w99 ⟨rfl, hb'⟩
              refine hK _ _ ?_
              clear hK K
              try simp only [Act.put, List.setIfInBounds_toArray, List.set_cons_zero, List.set_cons_succ]
              replace HCC : Kp _ := ⟨HCC.out.below hb' HCC.out.lt⟩
              replace HAt : Kp _ := ⟨HAt.out.below hb' HAt.out.lt⟩
              replace hB9 := hB9.trans (hb'.mono hB9.size)
              try replace H9 : Kp _ := ⟨H9.out.below hb' H9.out.lt⟩
              clear hb'
              refine wpAny_ready (rs := [6]) (by kernel_rfl) (by simp) ?_
              refine AllReady.cons (o := ⟨none, _, _, _, _, _⟩) rfl (fun K hK => ?_) AllReady.nil
              refine step_store rwNonce rfl (.tmp 9) (.tmp 24) rfl rfl rfl H9.out HLf.out (by show 0 + 16 ≤ 16; decide) (cells8_one _) ?_
              intro w100 hk ho
              refine hK _ _ ?_
              clear hK K
              simp only [Act.put]
              have H9f : Kp _ := ⟨hk⟩
              replace hB9 := hB9.trans (ho.below hg9)
              clear hk ho
              refine wpAny_done (by kernel_rfl) ?_ _
              rw [store_all16 rfl HLf.out] at H9f
              go_wp2_with fail
              go_meet
              case rel => exact ⟨_, rfl, H9f, hg9, hB9⟩
            · go_simp
              refine (refnext_mid at' i w97 HA.out hi63).mono ?_
              rintro e w101 ⟨rfl, hb'⟩
              refine hK _ _ ?_
              clear hK K
              try simp only [Act.put, List.setIfInBounds_toArray, List.set_cons_zero, List.set_cons_succ]
              replace HCC : Kp _ := ⟨HCC.out.below hb' HCC.out.lt⟩
              replace HAt : Kp _ := ⟨HAt.out.below hb' HAt.out.lt⟩
              replace hB9 := hB9.trans (hb'.mono hB9.size)
              try replace H9 : Kp _ := ⟨H9.out.below hb' H9.out.lt⟩
              clear hb'
              refine wpAny_ready (rs := [0]) (by kernel_rfl) (by simp) ?_
              refine AllReady.cons (o := ⟨some 20, _, _, _, _, _⟩) rfl (fun K hK => ?_) AllReady.nil
              refine step_load rwC rfl (.tmp 3) rfl rfl HCC.out (fit_all HLc.out) (take_all HLc.out) ?_
              refine hK _ _ ?_
              clear hK K
              try simp only [Act.put, List.setIfInBounds_toArray, List.set_cons_zero, List.set_cons_succ]
              refine wpAny_ready (rs := [4]) (by kernel_rfl) (by simp) ?_
              refine AllReady.cons (o := ⟨some 24, _, _, _, _, _⟩) rfl (fun K hK => ?_) AllReady.nil
              go_simp
              refine (refblock_any KA kc (keysL boxB key) BA bc boxB (nextL at' i) w101 (HCw.out _ hB9) (nextL_length _ _)).mono ?_
              rintro e w102 ⟨rfl, hb'⟩
              refine hK _ _ ?_
              clear hK K
              try simp only [Act.put, List.setIfInBounds_toArray, List.set_cons_zero, List.set_cons_succ]
              replace HCC : Kp _ := ⟨HCC.out.below hb' HCC.out.lt⟩
              replace HAt : Kp _ := ⟨HAt.out.below hb' HAt.out.lt⟩
              replace hB9 := hB9.trans (hb'.mono hB9.size)
              try replace H9 : Kp _ := ⟨H9.out.below hb' H9.out.lt⟩
              clear hb'
              refine wpAny_ready (rs := [6]) (by kernel_rfl) (by simp) ?_
              refine AllReady.cons (o := ⟨none, _, _, _, _, _⟩) rfl (fun K hK => ?_) AllReady.nil
              refine step_store rwNonce rfl (.tmp 9) (.tmp 24) rfl rfl rfl H9.out HLf.out (by show 0 + 16 ≤ 16; decide) (cells8_one _) ?_
              intro w103 hk ho
              refine hK _ _ ?_
              clear hK K
              simp only [Act.put]
              have H9f : Kp _ := ⟨hk⟩
              replace hB9 := hB9.trans (ho.below hg9)
              clear hk ho
              refine wpAny_done (by kernel_rfl) ?_ _
              rw [store_all16 rfl HLf.out] at H9f
              go_wp2_with fail
              go_meet
              case rel => exact ⟨_, rfl, H9f, hg9, hB9⟩
        · refine step_alloc tyNonce rfl rfl ?_
          intro w104 hk hb'
          refine hK _ _ ?_
          clear hK K
          try simp only [Act.put, List.setIfInBounds_toArray, List.set_cons_zero, List.set_cons_succ]
          have hg9 := hB9.size
          replace HCC : Kp _ := ⟨HCC.out.below hb' HCC.out.lt⟩
          replace HAt : Kp _ := ⟨HAt.out.below hb' HAt.out.lt⟩
          replace hB9 := hB9.trans (hb'.mono hB9.size)
          have H9 : Kp _ := ⟨hk⟩
          clear hk
          clear hb'
          refine wpAny_ready (rs := [0, 1]) (by kernel_rfl) (by simp) ?_
          refine AllReady.cons (o := ⟨some 20, _, _, _, _, _⟩) rfl (fun K hK => ?_) (AllReady.cons (o := ⟨some 21, _, _, _, _, _⟩) rfl (fun K hK => ?_) AllReady.nil)
          · refine step_load rwC rfl (.tmp 3) rfl rfl HCC.out (fit_all HLc.out) (take_all HLc.out) ?_
            refine hK _ _ ?_
            clear hK K
            try simp only [Act.put, List.setIfInBounds_toArray, List.set_cons_zero, List.set_cons_succ]
            refine wpAny_ready (rs := [1]) (by kernel_rfl) (by simp) ?_
            refine AllReady.cons (o := ⟨some 21, _, _, _, _, _⟩) rfl (fun K hK => ?_) AllReady.nil
            refine step_load rwNonce rfl (.tmp 4) rfl rfl HAt.out (fit_all HLa.out) (take_all HLa.out) ?_
            refine hK _ _ ?_
            clear hK K
            try simp only [Act.put, List.setIfInBounds_toArray, List.set_cons_zero, List.set_cons_succ]
            refine wpAny_ready (rs := [3]) (by kernel_rfl) (by simp) ?_
            refine AllReady.cons (o := ⟨some 23, _, _, _, _, _⟩) rfl (fun K hK => ?_) AllReady.nil
            go_simp
            refine (refnext_mid at' i w104 HA.out hi63).mono ?_
            rintro e w105 ⟨rfl, hb'⟩
            refine hK _ _ ?_
            clear hK K
            try simp only [Act.put, List.setIfInBounds_toArray, List.set_cons_zero, List.set_cons_succ]
            replace HCC : Kp _ := ⟨HCC.out.below hb' HCC.out.lt⟩
            replace HAt : Kp _ := ⟨HAt.out.below hb' HAt.out.lt⟩
            replace hB9 := hB9.trans (hb'.mono hB9.size)
            try replace H9 : Kp _ := ⟨H9.out.below hb' H9.out.lt⟩
            clear hb'
            refine wpAny_ready (rs := [4]) (by kernel_rfl) (by simp) ?_
            refine AllReady.cons (o := ⟨some 24, _, _, _, _, _⟩) rfl (fun K hK => ?_) AllReady.nil
            go_simp
            refine (refblock_any KA kc (keysL boxB key) BA bc boxB (nextL at' i) w105 (HCw.out _ hB9) (nextL_length _ _)).mono ?_
            rintro e w106 ⟨rfl, hb'⟩
            refine hK _ _ ?_
            clear hK K
            try simp only [Act.put, List.setIfInBounds_toArray, List.set_cons_zero, List.set_cons_succ]
            replace HCC : Kp _ := ⟨HCC.out.below hb' HCC.out.lt⟩
            replace HAt : Kp _ := ⟨HAt.out.below hb' HAt.out.lt⟩
            replace hB9 := hB9.trans (hb'.mono hB9.size)
            try replace H9 : Kp _ := ⟨H9.out.below hb' H9.out.lt⟩
            clear hb'
            refine wpAny_ready (rs := [6]) (by kernel_rfl) (by simp) ?_
            refine AllReady.cons (o := ⟨none, _, _, _, _, _⟩) rfl (fun K hK => ?_) AllReady.nil
            refine step_store rwNonce rfl (.tmp 9) (.tmp 24) rfl rfl rfl H9.out HLf.out (by show 0 + 16 ≤ 16; decide) (cells8_one _) ?_
            intro w107 hk ho
            refine hK _ _ ?_
            clear hK K
            simp only [Act.put]
            have H9f : Kp _ := ⟨hk⟩
            replace hB9 := hB9.trans (ho.below hg9)
            clear hk ho
            refine wpAny_done (by kernel_rfl) ?_ _
            rw [store_all16 rfl HLf.out] at H9f
            go_wp2_with fail
            go_meet
            case rel => exact ⟨_, rfl, H9f, hg9, hB9⟩
          · refine step_load rwNonce rfl (.tmp 4) rfl rfl HAt.out (fit_all HLa.out) (take_all HLa.out) ?_
            refine hK _ _ ?_
            clear hK K
            try simp only [Act.put, List.setIfInBounds_toArray, List.set_cons_zero, List.set_cons_succ]
            refine wpAny_ready (rs := [0, 3]) (by kernel_rfl) (by simp) ?_
            refine AllReady.cons (o := ⟨some 20, _, _, _, _, _⟩) rfl (fun K hK => ?_) (AllReady.cons (o := ⟨some 23, _, _, _, _, _⟩) rfl (fun K hK => ?_) AllReady.nil)
            · refine step_load rwC rfl (.tmp 3) rfl rfl HCC.out (fit_all HLc.out) (take_all HLc.out) ?_
              refine hK _ _ ?_
              clear hK K
              try simp only [Act.put, List.setIfInBounds_toArray, List.set_cons_zero, List.set_cons_succ]
              refine wpAny_ready (rs := [3]) (by kernel_rfl) (by simp) ?_
              refine AllReady.cons (o := ⟨some 23, _, _, _, _, _⟩) rfl (fun K hK => ?_) AllReady.nil
              go_simp
              refine (refnext_mid at' i w104 HA.out hi63).mono ?_
              rintro e w108 ⟨rfl, hb'⟩
              refine hK _ _ ?_
              clear hK K
              try simp only [Act.put, List.setIfInBounds_toArray, List.set_cons_zero, List.set_cons_succ]
              replace HCC : Kp _ := ⟨HCC.out.below hb' HCC.out.lt⟩
              replace HAt : Kp _ := ⟨HAt.out.below hb' HAt.out.lt⟩
              replace hB9 := hB9.trans (hb'.mono hB9.size)
              try replace H9 : Kp _ := ⟨H9.out.below hb' H9.out.lt⟩
              clear hb'
              refine wpAny_ready (rs := [4]) (by kernel_rfl) (by simp) ?_
              refine AllReady.cons (o := ⟨some 24, _, _, _, _, _⟩) rfl (fun K hK => ?_) AllReady.nil
              go_simp
              refine (refblock_any KA kc (keysL boxB key) BA bc boxB (nextL at' i) w108 (HCw.out _ hB9) (nextL_length _ _)).mono ?_
              rintro e w109 ⟨rfl, hb'⟩
              refine hK _ _ ?_
              clear hK K
              try simp only [Act.put, List.setIfInBounds_toArray, List.set_cons_zero, List.set_cons_succ]
              replace HCC : Kp _ := ⟨HCC.out.below hb' HCC.out.lt⟩
              replace HAt : Kp _ := ⟨HAt.out.below hb' HAt.out.lt⟩
              replace hB9 := hB9.trans (hb'.mono hB9.size)
              try replace H9 : Kp _ := ⟨H9.out.below hb' H9.out.lt⟩
              clear hb'
              refine wpAny_ready (rs := [6]) (by kernel_rfl) (by simp) ?_
              refine AllReady.cons (o := ⟨none, _, _, _, _, _⟩) rfl (fun K hK => ?_) AllReady.nil
              refine step_store rwNonce rfl (.tmp 9) (.tmp 24) rfl rfl rfl H9.out HLf.out (by show 0 + 16 ≤ 16; decide) (cells8_one _) ?_
              intro w110 hk ho
              refine hK _ _ ?_
              clear hK K
              simp only [Act.put]
              have H9f : Kp _ := ⟨hk⟩
              replace hB9 := hB9.trans (ho.below hg9)
              clear hk ho
              refine wpAny_done (by kernel_rfl) ?_ _
              rw [store_all16 rfl HLf.out] at H9f
              go_wp2_with fail
              go_meet
              case rel => exact ⟨_, rfl, H9f, hg9, hB9⟩
            · go_simp
              refine (refnext_mid at' i w104 HA.out hi63).mono ?_
              rintro e w111 ⟨rfl, hb'⟩
              refine hK _ _ ?_
              clear hK K
              try simp only [Act.put, List.setIfInBounds_toArray, List.set_cons_zero, List.set_cons_succ]
              replace HCC : Kp _ := ⟨HCC.out.below hb' HCC.out.lt⟩
              replace HAt : Kp _ := ⟨HAt.out.below hb' HAt.out.lt⟩
              replace hB9 := hB9.trans (hb'.mono hB9.size)
              try replace H9 : Kp _ := ⟨H9.out.below hb' H9.out.lt⟩
              clear hb'
              refine wpAny_ready (rs := [0]) (by kernel_rfl) (by simp) ?_
              refine AllReady.cons (o := ⟨some 20, _, _, _, _, _⟩) rfl (fun K hK => ?_) AllReady.nil
              refine step_load rwC rfl (.tmp 3) rfl rfl HCC.out (fit_all HLc.out) (take_all HLc.out) ?_
              refine hK _ _ ?_
              clear hK K
              try simp only [Act.put, List.setIfInBounds_toArray, List.set_cons_zero, List.set_cons_succ]
              refine wpAny_ready (rs := [4]) (by kernel_rfl) (by simp) ?_
              refine AllReady.cons (o := ⟨some 24, _, _, _, _, _⟩) rfl (fun K hK => ?_) AllReady.nil
              go_simp
              refine (refblock_any KA kc (keysL boxB key) BA bc boxB (nextL at' i) w111 (HCw.out _ hB9) (nextL_length _ _)).mono ?_
              rintro e w112 ⟨rfl, hb'⟩
              refine hK _ _ ?_
              clear hK K
              try simp only [Act.put, List.setIfInBounds_toArray, List.set_cons_zero, List.set_cons_succ]
              replace HCC : Kp _ := ⟨HCC.out.below hb' HCC.out.lt⟩
              replace HAt : Kp _ := ⟨HAt.out.below hb' HAt.out.lt⟩
              replace hB9 := hB9.trans (hb'.mono hB9.size)
              try replace H9 : Kp _ := ⟨H9.out.below hb' H9.out.lt⟩
              clear hb'
              refine wpAny_ready (rs := [6]) (by kernel_rfl) (by simp) ?_
              refine AllReady.cons (o := ⟨none, _, _, _, _, _⟩) rfl (fun K hK => ?_) AllReady.nil
              refine step_store rwNonce rfl (.tmp 9) (.tmp 24) rfl rfl rfl H9.out HLf.out (by show 0 + 16 ≤ 16; decide) (cells8_one _) ?_
              intro w113 hk ho
              refine hK _ _ ?_
              clear hK K
              simp only [Act.put]
              have H9f : Kp _ := ⟨hk⟩
              replace hB9 := hB9.trans (ho.below hg9)
              clear hk ho
              refine wpAny_done (by kernel_rfl) ?_ _
              rw [store_all16 rfl HLf.out] at H9f
              go_wp2_with fail
              go_meet
              case rel => exact ⟨_, rfl, H9f, hg9, hB9⟩
      case rest =>
        obtain ⟨g9, rfl, H9, hg9, hBx⟩ := hcut
        have Hx : Hid (wc.ownsRow b0 5 1 (.slice A7 L c7) L (cells8 (strL (strF key at') L))) := own_below H hBx
        have hBc : Below b0 w2 wc := hB.trans (hBx.mono hsz)
        have HO : Kp ((Value.slice A7 L c7).ownBlock ≠ some g9) := ⟨by
          cases A7 with
          | none => intro e; cases e
          | some ad =>
            obtain ⟨g, rfl, hgb, hgl⟩ := hg7 ad rfl
            intro e
            have e2 : some g = some g9 := e
            have := Option.some.inj e2
            omega⟩
        have HF : Kp ((strF key at' i).length = 16) := ⟨strF_length key at' i⟩
        have HSt : Kp (∀ j (hj : j < (strF key at' i).length), strL (strF key at') (16 * i + (j + 1)) = strL (strF key at') (16 * i + j) ++ [(strF key at' i)[j]]) := ⟨fun j hj => strL_step _ _ _ hj HF.out⟩
        generalize strF key at' i = F at *
        have hb9 : b0 ≤ g9 := Nat.le_trans hsz hg9
        clear H hB hg9 HCC HAt HCw hsz hBx hB9 hi63 hg7 hm7 hn7 hc7
        go_wp2
        go_loopg [7, 10] 16 (fun g3 v7 v10 wx => ∃ k M : Nat, k + g3 = 16 ∧ v10 = .int .i64 k ∧ Kp (M = 16 * i + k) ∧ M ≤ N ∧ Hid (wx.ownsRow b0 5 1 v7 M (cells8 (strL (strF key at') M))) ∧ Kp (Blk wx g9 39 (cells8 F)) ∧ Kp (v7.ownBlock ≠ some g9) ∧ Below b0 w2 wx)
        case atStart => exact ⟨0, L, by omega, rfl, ⟨by rw [HLI.out]; rfl⟩, by omega, Hx, H9, HO, hBc⟩
        case round =>
          clear Hx HO hBc H9
          obtain ⟨k, M, hk, rfl, hM, hMN, H, H9, HO, hB⟩ := hrel
          obtain ⟨Ak, ck, rfl, hck, hcm, _⟩ := own_form H.out
          cases gk with
          | zero =>
            obtain rfl : k = 16 := by omega
            have HL2 : Kp (M = min (16 * (i + 1)) N) := ⟨by have := hM.out; omega⟩
            go_wp2
            go_roundg g2
            case rel => exact ⟨i + 1, M, by omega, HL2, by go_num, H, hB⟩
            case measure => omega
          | succ g4 =>
            have hk16 : (k : Int) < 16 := by omega
            by_cases hq : M = N
            · have hq2 : ¬ ((M : Int) < (N : Nat)) := by omega
              have dq : decide ((M : Int) < (N : Nat)) = false := decide_eq_false hq2
              have HL2 : Kp (M = min (16 * (i + 1)) N) := ⟨by have := hM.out; omega⟩
              clear hq
              go_wp2
              go_roundg g2
              case rel => exact ⟨i + 1, M, by omega, HL2, by go_num, H, hB⟩
              case measure => omega
            · have hq2 : (M : Int) < (N : Nat) := by omega
              have dq : decide ((M : Int) < (N : Nat)) = true := decide_eq_true hq2
              have hkF : k < F.length := by rw [HF.out]; omega
              have he : wr.cell? ⟨g9, k, none⟩ = some (.int .u8 (F[k].toNat : Int)) := (H9.out.cell? k).trans (cells8_at F k hkF)
              have HNx : Kp _ := ⟨HSt.out k hkF⟩
              generalize F[k] = x at *
              have hsz := Nat.le_trans hle0 hB.size
              have hg9l := H9.out.lt
              have HM1 : Kp (M + 1 = 16 * i + (k + 1)) := ⟨by have := hM.out; omega⟩
              rw [← HM1.out, ← hM.out] at HNx
              go_wp2_with (at_builtin; refine wpList_app1 el8 rfl _ _ rfl b0 _ M _ rfl H.out rfl rfl (by simp only [maxLen]; omega) (by have := HN.out; omega) hsz ?_)
              intro v' w' H' hb' hot hob
              have H2 : Hid (w'.ownsRow b0 5 1 v' (M + 1) (cells8 (strL (strF key at') (M + 1)))) := by
                show World.ownsRow _ _ _ _ _ _ _
                rw [HNx.out, cells8_append]
                exact H'.out
              have H92 : Kp (Blk w' g9 39 (cells8 F)) := ⟨⟨(hot g9 HO.out hg9l).trans H9.out.heap⟩⟩
              have HO2 : Kp (v'.ownBlock ≠ some g9) := ⟨by
                rcases hob with h | ⟨g', h, hl⟩
                · rw [h]; exact HO.out
                · rw [h]; intro e; have e2 := Option.some.inj e; omega⟩
              have hB' := hB.trans hb'
              clear H H' HNx H9 HO hB hb' hot hob
              go_wp2
              go_roundg g4
              case rel => exact ⟨k + 1, M + 1, by omega, by go_num, HM1, by omega, H2, H92, HO2, hB'⟩
              case measure => omega
set_option maxRecDepth 100000 in
set_option maxHeartbeats 4000000 in
theorem refstream_neg (KA : Option Addr) (kc : Nat) (BA : Option Addr) (bc : Nat) (key at' : List UInt8) (n : Int) (w : World) (hc : CIs w w.heap.size KA kc (keysL boxB key) BA bc boxB) (ha : at'.length = 16) (hn : n < 0) :
    Calls Tryd.prog 45 #[.agg #[.slice KA 11 kc, .slice BA 256 bc], .agg (cells8 at').toArray, .int .i64 n] w fun e w' => ∃ v, e = .returned v ∧ w'.ownsRow w.heap.size 5 1 v 0 (cells8 (strL (strF key at') 0)) ∧ Below w.heap.size w w' := by
  have HC : Kp _ := ⟨hc⟩
  have HA : Kp _ := ⟨ha⟩
  have HLa : Kp ((cells8 at').length = 16) := ⟨by rw [cells8_length]; exact ha⟩
  have HLc : Kp (([Value.slice KA 11 kc, .slice BA 256 bc] : List Value).length = 2) := ⟨rfl⟩
  clear hc ha
  go_enter Tryd.func45, Tryd.ntmps45
  go_wp2_with (with_reducible refine wpList_box (o := ⟨some 3, _, _, _, _, _⟩) (cs := [.slice KA 11 kc, .slice BA 256 bc]) rfl (.tmp 0) rfl rfl ?_)
  intro w1 hk1 hb1 hs1
  have HK1 : Kp _ := ⟨hk1⟩
  have HC1 : Kp _ := ⟨HC.out.next hb1⟩
  clear hk1 hs1 HC
  go_wp2_with (with_reducible refine wpList_box (o := ⟨some 4, _, _, _, _, _⟩) rfl (.tmp 1) rfl rfl ?_)
  intro w2 hk2 hb2 hs2
  have HT2 : Kp _ := ⟨hk2⟩
  have HK2 : Kp _ := ⟨HK1.out.below hb2 HK1.out.lt⟩
  have HC2 : Kp _ := ⟨HC1.out.next hb2⟩
  have hB2 : Below w.heap.size w w2 := hb1.trans (hb2.mono hb1.size)
  have n1 : w.heap.size < w1.heap.size := HK1.out.lt
  have n2 : w1.heap.size < w2.heap.size := hk2.lt
  obtain ⟨g1, hg1⟩ : ∃ g, g = w1.heap.size := ⟨_, rfl⟩
  obtain ⟨b0, hb0⟩ : ∃ b, b = w2.heap.size := ⟨_, rfl⟩
  rw [← hg1] at HT2 n1 n2 ⊢
  rw [← hb0] at n2
  have hle0 : b0 ≤ w2.heap.size := by rw [hb0]; exact Nat.le_refl _
  have HCi : Kp (∀ W, Below b0 w2 W → CIs W W.heap.size KA kc (keysL boxB key) BA bc boxB) := ⟨fun W hW => HC2.out.next (by rw [← hb0]; exact hW)⟩
  clear hk2 hs2 hb1 hb2 HK1 HC1 hg1 hb0 HC2
  obtain ⟨K, hK⟩ : ∃ K : Nat, K = (0 + 15) / 16 := ⟨_, rfl⟩
  have HKK : Kp (16 * K < 0 + 16 ∧ 0 ≤ 16 * K) := ⟨by omega⟩
  have HN : Kp (0 ≤ 1048576) := ⟨by omega⟩
  clear hK
  go_wp2
  go_loopg [7, 8] K (fun gk v7 v8 wr => ∃ i L : Nat, i + gk = K ∧ Kp (L = min (16 * i) 0) ∧ v8 = .int .i64 i ∧ Hid (wr.ownsRow b0 5 1 v7 L (cells8 (strL (strF key at') L))) ∧ Below b0 w2 wr)
  case atStart => exact ⟨0, 0, by omega, ⟨by omega⟩, rfl, own_nil _ _ _, Below.refl _ _⟩
  case round =>
    obtain ⟨i, L, hig, hL, rfl, H, hB⟩ := hrel
    obtain ⟨A7, c7, rfl, hc7, hm7, hn7, hg7⟩ := own_form H.out
    cases gk with
    | zero =>
      have hLN : L = 0 := by have := HKK.out; have := hL.out; omega
      have hL2 : ¬ ((L : Int) < (0 : Nat)) := by omega
      have H3 : Kp (wr.ownsRow w.heap.size 5 1 (.slice A7 L c7) 0 (cells8 (strL (strF key at') 0))) := ⟨by have h := own_base H.out (show w.heap.size ≤ b0 by omega); rw [hLN] at h ⊢; exact h⟩
      have hBf : Below w.heap.size w wr := hB2.trans (hB.mono (by omega))
      clear H hLN hL hc7
      go_wp2
      go_ret
      exact ⟨_, rfl, H3.out, hBf⟩
    | succ g2 =>
      exfalso
      have := HKK.out
      omega
set_option maxRecDepth 100000 in
set_option maxHeartbeats 4000000 in
theorem refstream_zero (KA : Option Addr) (kc : Nat) (BA : Option Addr) (bc : Nat) (key at' : List UInt8) (_z : Nat) (w : World) (hc : CIs w w.heap.size KA kc (keysL boxB key) BA bc boxB) (ha : at'.length = 16) (_hz : 0 ≤ 0) :
    Calls Tryd.prog 45 #[.agg #[.slice KA 11 kc, .slice BA 256 bc], .agg (cells8 at').toArray, .int .i64 0] w fun e w' => ∃ v, e = .returned v ∧ w'.ownsRow w.heap.size 5 1 v 0 (cells8 (strL (strF key at') 0)) ∧ Below w.heap.size w w' := by
  have HC : Kp _ := ⟨hc⟩
  have HA : Kp _ := ⟨ha⟩
  have HLa : Kp ((cells8 at').length = 16) := ⟨by rw [cells8_length]; exact ha⟩
  have HLc : Kp (([Value.slice KA 11 kc, .slice BA 256 bc] : List Value).length = 2) := ⟨rfl⟩
  clear hc ha
  go_enter Tryd.func45, Tryd.ntmps45
  go_wp2_with (with_reducible refine wpList_box (o := ⟨some 3, _, _, _, _, _⟩) (cs := [.slice KA 11 kc, .slice BA 256 bc]) rfl (.tmp 0) rfl rfl ?_)
  intro w1 hk1 hb1 hs1
  have HK1 : Kp _ := ⟨hk1⟩
  have HC1 : Kp _ := ⟨HC.out.next hb1⟩
  clear hk1 hs1 HC
  go_wp2_with (with_reducible refine wpList_box (o := ⟨some 4, _, _, _, _, _⟩) rfl (.tmp 1) rfl rfl ?_)
  intro w2 hk2 hb2 hs2
  have HT2 : Kp _ := ⟨hk2⟩
  have HK2 : Kp _ := ⟨HK1.out.below hb2 HK1.out.lt⟩
  have HC2 : Kp _ := ⟨HC1.out.next hb2⟩
  have hB2 : Below w.heap.size w w2 := hb1.trans (hb2.mono hb1.size)
  have n1 : w.heap.size < w1.heap.size := HK1.out.lt
  have n2 : w1.heap.size < w2.heap.size := hk2.lt
  obtain ⟨g1, hg1⟩ : ∃ g, g = w1.heap.size := ⟨_, rfl⟩
  obtain ⟨b0, hb0⟩ : ∃ b, b = w2.heap.size := ⟨_, rfl⟩
  rw [← hg1] at HT2 n1 n2 ⊢
  rw [← hb0] at n2
  have hle0 : b0 ≤ w2.heap.size := by rw [hb0]; exact Nat.le_refl _
  have HCi : Kp (∀ W, Below b0 w2 W → CIs W W.heap.size KA kc (keysL boxB key) BA bc boxB) := ⟨fun W hW => HC2.out.next (by rw [← hb0]; exact hW)⟩
  clear hk2 hs2 hb1 hb2 HK1 HC1 hg1 hb0 HC2
  obtain ⟨K, hK⟩ : ∃ K : Nat, K = (0 + 15) / 16 := ⟨_, rfl⟩
  have HKK : Kp (16 * K < 0 + 16 ∧ 0 ≤ 16 * K) := ⟨by omega⟩
  have HN : Kp (0 ≤ 1048576) := ⟨by omega⟩
  clear hK
  go_wp2
  go_loopg [7, 8] K (fun gk v7 v8 wr => ∃ i L : Nat, i + gk = K ∧ Kp (L = min (16 * i) 0) ∧ v8 = .int .i64 i ∧ Hid (wr.ownsRow b0 5 1 v7 L (cells8 (strL (strF key at') L))) ∧ Below b0 w2 wr)
  case atStart => exact ⟨0, 0, by omega, ⟨by omega⟩, rfl, own_nil _ _ _, Below.refl _ _⟩
  case round =>
    obtain ⟨i, L, hig, hL, rfl, H, hB⟩ := hrel
    obtain ⟨A7, c7, rfl, hc7, hm7, hn7, hg7⟩ := own_form H.out
    cases gk with
    | zero =>
      have hLN : L = 0 := by have := HKK.out; have := hL.out; omega
      have hL2 : ¬ ((L : Int) < (0 : Nat)) := by omega
      have H3 : Kp (wr.ownsRow w.heap.size 5 1 (.slice A7 L c7) 0 (cells8 (strL (strF key at') 0))) := ⟨by have h := own_base H.out (show w.heap.size ≤ b0 by omega); rw [hLN] at h ⊢; exact h⟩
      have hBf : Below w.heap.size w wr := hB2.trans (hB.mono (by omega))
      clear H hLN hL hc7
      go_wp2
      go_ret
      exact ⟨_, rfl, H3.out, hBf⟩
    | succ g2 =>
      exfalso
      have := HKK.out
      omega
theorem refstream_any (KA : Option Addr) (kc : Nat) (BA : Option Addr) (bc : Nat) (key at' : List UInt8) (n : Int) (w : World) (hc : CIs w w.heap.size KA kc (keysL boxB key) BA bc boxB) (ha : at'.length = 16) (hn : n ≤ 1048576) :
    Calls Tryd.prog 45 #[.agg #[.slice KA 11 kc, .slice BA 256 bc], .agg (cells8 at').toArray, .int .i64 n] w fun e w' => ∃ v, e = .returned v ∧ w'.ownsRow w.heap.size 5 1 v n.toNat (cells8 (strL (strF key at') n.toNat)) ∧ Below w.heap.size w w' := by
  by_cases h : n < 0
  · have e : n.toNat = 0 := by omega
    rw [e]; exact refstream_neg KA kc BA bc key at' n w hc ha h
  · by_cases h2 : n = 0
    · subst h2
      exact refstream_zero KA kc BA bc key at' 0 w hc ha (Nat.le_refl _)
    · obtain ⟨N, rfl⟩ : ∃ N : Nat, n = N := ⟨n.toNat, by omega⟩
      have e : ((N : Int)).toNat = N := by omega
      rw [e]; exact refstream_mid KA kc BA bc key at' N w hc ha ⟨by omega, by omega⟩
end Go.Proofs.YtckmobpjdpjocaaDoor
